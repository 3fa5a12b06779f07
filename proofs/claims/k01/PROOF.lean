import PyProof.Rows.All
import Wide.All
import OpenK.AllK
import Wide.FinOn
import HandS.ForMost
import HandS.Exc
import HandS.ExcOwn
import HandS.WordsExc
import HandS.Evl
import HandS.Wide
import HandS.IsInst
import HandS.Replace
import HandS.RaiseMore
import HandS.Steps
import KE.KEqSeq
import HandS.ExcInit
import KE.KExcIs
import HandS.ExcValue
import HandS.ExcField
import HandS.ExcIs
import HandS.Style
import PyProof.SliceStr2
import KE.KxField
import HandS.FStr
import HandS.TupAny
import HandS.Ends
import PyProof.ReprRoads
import PySem.Challenge.RW_byteround_k01_rows_of_bytes_as_texts
set_option Elab.async false
set_option linter.all false
set_option maxRecDepth 100000
set_option maxHeartbeats 4000000
/-! BrA: a def read over plain data and a small store of the things that change. -/
namespace Br
open PySem L2

/-! ### data -/
inductive D where
  | non | bl (b : Bool) | int (i : Int) | str (x : Str) | lst (xs : List D) | tup (xs : List D) | dk (kvs : List (Key × D)) | ob (C : Addr) (fs : List (Str × D)) | xo (C : Addr) (fs : List (Str × D))

/-- all that H has and that isn't at as stays -/
def Go (as : List Addr) (H H' : Hp) : Prop := ∀ a o, H a = some o → a ∉ as → H' a = some o
theorem Go.refl (as : List Addr) (H : Hp) : Go as H H := fun _ _ h _ => h
theorem Go.trans {as : List Addr} {H H1 H2 : Hp} (x : Go as H H1) (y : Go as H1 H2) : Go as H H2 := fun a o h n => y a o (x a o h n) n
theorem Go.new {as : List Addr} {H : Hp} {p : Addr} {o : HO} (h : H p = none) : Go as H (upd H p o) := fun a u e _ => by
  rw [upd_ne (ne_of_none e h)]
  exact e
theorem Go.at {as : List Addr} {H : Hp} {p : Addr} {o : HO} (h : p ∈ as) : Go as H (upd H p o) := fun a u e n => by
  have hne : a ≠ p := fun z => n (z ▸ h)
  rw [upd_ne hne]
  exact e
theorem Go.free {as : List Addr} {H H' : Hp} (g : Go as H H') {a : Addr} (n : a ∉ as) (h : H' a = none) : H a = none := by
  cases e : H a with
  | none => rfl
  | some o =>
    rw [g a o e n] at h
    cases h

/-- written lists, tuples -/
def WrL (K : PySem.W.Frag) (a : Addr) (xs : List V) : Prop :=
  ∃ (o : Obj) (its : Array Value) (n : Nat), K.lookup a = some o ∧ o.cls = .type "list" ∧ o.dict = none ∧ o.data = .seq its n ∧ its.size ≤ sizeLine ∧ Vals xs its.toList
def WrT (K : PySem.W.Frag) (a : Addr) (xs : List V) : Prop :=
  ∃ (o : Obj) (its : Array Value) (n : Nat), K.lookup a = some o ∧ o.cls = .type "tuple" ∧ o.data = .seq its n ∧ its.size ≤ sizeLine ∧ Vals xs its.toList
def QL (K : PySem.W.Frag) (as : List Addr) (H : Hp) (a : Addr) (xs : List V) : Prop := (a ∉ as ∧ Rd H a (.lst xs)) ∨ WrL K a xs
def QT (K : PySem.W.Frag) (as : List Addr) (H : Hp) (a : Addr) (xs : List V) : Prop := (a ∉ as ∧ Rd H a (.tup xs)) ∨ WrT K a xs
theorem QL.sq {K : PySem.W.Frag} {as : List Addr} {H : Hp} {a : Addr} {xs : List V} (h : QL K as H a xs) : SqL K H a xs := by
  rcases h with ⟨_, h⟩ | h
  · exact .inl h
  · exact .inr h
theorem QT.sq {K : PySem.W.Frag} {as : List Addr} {H : Hp} {a : Addr} {xs : List V} (h : QT K as H a xs) : SqT K H a xs := by
  rcases h with ⟨_, h⟩ | h
  · exact .inl h
  · exact .inr h
theorem rd_go {as : List Addr} {H H' : Hp} (g : Go as H H') {a : Addr} {u : HO} (n : a ∉ as) (h : Rd H a u) : Rd H' a u := by
  rcases h with h | ⟨o, h⟩
  · exact .inl (g a _ h n)
  · exact .inr ⟨o, g a _ h n⟩
theorem QL.go {K : PySem.W.Frag} {as : List Addr} {H H' : Hp} (g : Go as H H') {a : Addr} {xs : List V} (h : QL K as H a xs) : QL K as H' a xs := by
  rcases h with ⟨n, h⟩ | h
  · exact .inl ⟨n, rd_go g n h⟩
  · exact .inr h
theorem QT.go {K : PySem.W.Frag} {as : List Addr} {H H' : Hp} (g : Go as H H') {a : Addr} {xs : List V} (h : QT K as H a xs) : QT K as H' a xs := by
  rcases h with ⟨n, h⟩ | h
  · exact .inl ⟨n, rd_go g n h⟩
  · exact .inr h
/-- fewer things that change -/
theorem QL.sub {K : PySem.W.Frag} {as bs : List Addr} {H : Hp} {a : Addr} {xs : List V} (s : ∀ x ∈ bs, x ∈ as) (h : QL K as H a xs) : QL K bs H a xs := by
  rcases h with ⟨n, h⟩ | h
  · exact .inl ⟨fun z => n (s _ z), h⟩
  · exact .inr h
theorem QT.sub {K : PySem.W.Frag} {as bs : List Addr} {H : Hp} {a : Addr} {xs : List V} (s : ∀ x ∈ bs, x ∈ as) (h : QT K as H a xs) : QT K bs H a xs := by
  rcases h with ⟨n, h⟩ | h
  · exact .inl ⟨fun z => n (s _ z), h⟩
  · exact .inr h
theorem rd_some {H : Hp} {a : Addr} {u : HO} (h : Rd H a u) : H a ≠ none := by
  rcases h with h | ⟨o, h⟩ <;> rw [h] <;> intro z <;> cases z
/-- a new thing that changes -/
theorem QL.add {K : PySem.W.Frag} {as : List Addr} {H : Hp} {a p : Addr} {xs : List V} (hp : H p = none) (h : QL K as H a xs) : QL K (as ++ [p]) H a xs := by
  rcases h with ⟨n, h⟩ | h
  · refine .inl ⟨fun z => ?_, h⟩
    rcases List.mem_append.mp z with z | z
    · exact n z
    · rw [List.mem_singleton.mp z] at h
      exact rd_some h hp
  · exact .inr h
theorem QT.add {K : PySem.W.Frag} {as : List Addr} {H : Hp} {a p : Addr} {xs : List V} (hp : H p = none) (h : QT K as H a xs) : QT K (as ++ [p]) H a xs := by
  rcases h with ⟨n, h⟩ | h
  · refine .inl ⟨fun z => ?_, h⟩
    rcases List.mem_append.mp z with z | z
    · exact n z
    · rw [List.mem_singleton.mp z] at h
      exact rd_some h hp
  · exact .inr h

/-- an exception that was caught and kept -/
def Exk (C dd a : Addr) : HO := .ext fun h => ∃ (oe : Obj) (vs : Array Value), h.get? a = some oe ∧ Zc (.ref C) (some dd) oe ∧ oe.data = .fields vs

mutual
inductive Dx (K : PySem.W.Frag) (as : List Addr) (H : Hp) : V → D → Prop
  | non : Dx K as H .non .non
  | bl (b : Bool) : Dx K as H (.bl b) (.bl b)
  | int (i : Int) : Dx K as H (.int i) (.int i)
  | str (x : Str) : Dx K as H (.str x) (.str x)
  | lst {a : Addr} {xs : List V} {ds : List D} : QL K as H a xs → DxA K as H xs ds → Dx K as H (.ref a) (.lst ds)
  | tup {a : Addr} {xs : List V} {ds : List D} : QT K as H a xs → DxA K as H xs ds → Dx K as H (.ref a) (.tup ds)
  | dk {a : Addr} {kvs : List (Key × V)} {kds : List (Key × D)} : a ∉ as → Rd H a (.dK kvs) → DxP K as H kvs kds → Dx K as H (.ref a) (.dk kds)
  | ob {a C dx : Addr} {fs : List (Str × V)} {fds : List (Str × D)} : a ∉ as → dx ∉ as → H a = some (.ins C dx fs) → H dx = some (.own a) → DxF K as H fs fds → Dx K as H (.ref a) (.ob C fds)
  | xo {a C dd : Addr} {fs : List (Str × V)} {fds : List (Str × D)} : a ∉ as → dd ∉ as → H a = some (Exk C dd a) → H dd = some (.xd fs) → DxF K as H fs fds → Dx K as H (.ref a) (.xo C fds)
inductive DxA (K : PySem.W.Frag) (as : List Addr) (H : Hp) : List V → List D → Prop
  | nil : DxA K as H [] []
  | cons {v : V} {vs : List V} {d : D} {ds : List D} : Dx K as H v d → DxA K as H vs ds → DxA K as H (v :: vs) (d :: ds)
inductive DxP (K : PySem.W.Frag) (as : List Addr) (H : Hp) : List (Key × V) → List (Key × D) → Prop
  | nil : DxP K as H [] []
  | cons {k : Key} {v : V} {vs : List (Key × V)} {d : D} {ds : List (Key × D)} : Dx K as H v d → DxP K as H vs ds → DxP K as H ((k, v) :: vs) ((k, d) :: ds)
inductive DxF (K : PySem.W.Frag) (as : List Addr) (H : Hp) : List (Str × V) → List (Str × D) → Prop
  | nil : DxF K as H [] []
  | cons {k : Str} {v : V} {vs : List (Str × V)} {d : D} {ds : List (Str × D)} : Dx K as H v d → DxF K as H vs ds → DxF K as H ((k, v) :: vs) ((k, d) :: ds)
end
section
variable {K : PySem.W.Frag} {as bs : List Addr} {H H' : Hp}
/-- what a reading leans on may be read elsewhere -/
structure Way (K : PySem.W.Frag) (as bs : List Addr) (H H' : Hp) : Prop where
  l : ∀ a xs, QL K as H a xs → QL K bs H' a xs
  t : ∀ a xs, QT K as H a xs → QT K bs H' a xs
  r : ∀ a u, a ∉ as → Rd H a u → a ∉ bs ∧ Rd H' a u
  o : ∀ a u, a ∉ as → H a = some u → a ∉ bs ∧ H' a = some u
mutual
theorem Dx.way (w : Way K as bs H H') : ∀ {v : V} {d : D}, Dx K as H v d → Dx K bs H' v d
  | _, _, .non => .non
  | _, _, .bl b => .bl b
  | _, _, .int i => .int i
  | _, _, .str x => .str x
  | _, _, .lst h r => .lst (w.l _ _ h) (DxA.way w r)
  | _, _, .tup h r => .tup (w.t _ _ h) (DxA.way w r)
  | _, _, .dk n h r => .dk (w.r _ _ n h).1 (w.r _ _ n h).2 (DxP.way w r)
  | _, _, .ob n n2 h h2 r => .ob (w.o _ _ n h).1 (w.o _ _ n2 h2).1 (w.o _ _ n h).2 (w.o _ _ n2 h2).2 (DxF.way w r)
  | _, _, .xo n n2 h h2 r => .xo (w.o _ _ n h).1 (w.o _ _ n2 h2).1 (w.o _ _ n h).2 (w.o _ _ n2 h2).2 (DxF.way w r)
theorem DxA.way (w : Way K as bs H H') : ∀ {v : List V} {d : List D}, DxA K as H v d → DxA K bs H' v d
  | _, _, .nil => .nil
  | _, _, .cons h r => .cons (Dx.way w h) (DxA.way w r)
theorem DxP.way (w : Way K as bs H H') : ∀ {v : List (Key × V)} {d : List (Key × D)}, DxP K as H v d → DxP K bs H' v d
  | _, _, .nil => .nil
  | _, _, .cons h r => .cons (Dx.way w h) (DxP.way w r)
theorem DxF.way (w : Way K as bs H H') : ∀ {v : List (Str × V)} {d : List (Str × D)}, DxF K as H v d → DxF K bs H' v d
  | _, _, .nil => .nil
  | _, _, .cons h r => .cons (Dx.way w h) (DxF.way w r)
end
theorem Way.of_go (g : Go as H H') : Way K as as H H' := ⟨fun _ _ h => h.go g, fun _ _ h => h.go g, fun _ _ n h => ⟨n, rd_go g n h⟩, fun a u n h => ⟨n, g a u h n⟩⟩
theorem Way.of_sub (s : ∀ x ∈ bs, x ∈ as) : Way K as bs H H := ⟨fun _ _ h => h.sub s, fun _ _ h => h.sub s, fun _ _ n h => ⟨fun z => n (s _ z), h⟩, fun _ _ n h => ⟨fun z => n (s _ z), h⟩⟩
theorem Way.of_add {p : Addr} (hp : H p = none) : Way K as (as ++ [p]) H H :=
  ⟨fun _ _ h => h.add hp, fun _ _ h => h.add hp, fun a u n h => ⟨fun z => by
      rcases List.mem_append.mp z with z | z
      · exact n z
      · rw [List.mem_singleton.mp z] at h
        exact rd_some h hp, h⟩,
    fun a u n h => ⟨fun z => by
      rcases List.mem_append.mp z with z | z
      · exact n z
      · rw [List.mem_singleton.mp z, hp] at h
        exact (nomatch h), h⟩⟩
theorem DxA.length : ∀ {v : List V} {d : List D}, DxA K as H v d → v.length = d.length
  | _, _, .nil => rfl
  | _, _, .cons _ r => by rw [List.length_cons, List.length_cons, DxA.length r]
theorem DxA.get : ∀ {v : List V} {d : List D} {i : Nat} {x : D}, DxA K as H v d → d[i]? = some x → ∃ u, v[i]? = some u ∧ Dx K as H u x
  | _, _, _, _, .nil, e => by simp at e
  | _, _, 0, _, .cons h _, e => by simp at e; subst e; exact ⟨_, rfl, h⟩
  | _, _, i + 1, x, .cons _ r, e => by
    obtain ⟨u, h1, h2⟩ := DxA.get (i := i) (x := x) r (by simpa using e)
    exact ⟨u, by simpa using h1, h2⟩
theorem DxA.getV : ∀ {v : List V} {d : List D} {i : Nat} {u : V}, DxA K as H v d → v[i]? = some u → ∃ x, d[i]? = some x ∧ Dx K as H u x
  | _, _, _, _, .nil, e => by simp at e
  | _, _, 0, _, .cons h _, e => by simp at e; subst e; exact ⟨_, rfl, h⟩
  | _, _, i + 1, u, .cons _ r, e => by
    obtain ⟨x, h1, h2⟩ := DxA.getV (i := i) (u := u) r (by simpa using e)
    exact ⟨x, by simpa using h1, h2⟩
theorem DxA.app : ∀ {v w : List V} {d e : List D}, DxA K as H v d → DxA K as H w e → DxA K as H (v ++ w) (d ++ e)
  | _, _, _, _, .nil, s => s
  | _, _, _, _, .cons h r, s => .cons h (DxA.app r s)
theorem DxA.drop : ∀ {v : List V} {d : List D} (n : Nat), DxA K as H v d → DxA K as H (v.drop n) (d.drop n)
  | _, _, 0, h => h
  | _, _, _ + 1, .nil => .nil
  | _, _, n + 1, .cons _ r => DxA.drop n r
theorem DxA.take : ∀ {v : List V} {d : List D} (n : Nat), DxA K as H v d → DxA K as H (v.take n) (d.take n)
  | _, _, 0, _ => .nil
  | _, _, _ + 1, .nil => .nil
  | _, _, n + 1, .cons h r => .cons h (DxA.take n r)
theorem DxA.rev : ∀ {v : List V} {d : List D}, DxA K as H v d → DxA K as H v.reverse d.reverse
  | _, _, .nil => .nil
  | _, _, .cons h r => by
    rw [List.reverse_cons, List.reverse_cons]
    exact DxA.app (DxA.rev r) (.cons h .nil)
theorem DxA.set {u : V} {x : D} (h : Dx K as H u x) : ∀ {v : List V} {d : List D} (i : Nat), DxA K as H v d → DxA K as H (v.set i u) (d.set i x)
  | _, _, _, .nil => .nil
  | _, _, 0, .cons _ r => .cons h r
  | _, _, i + 1, .cons q r => .cons q (DxA.set h i r)
/-- numbers, texts, truths -/
theorem DxA.ints : ∀ (ns : List Int), DxA K as H (ns.map V.int) (ns.map D.int)
  | [] => .nil
  | n :: r => .cons (.int n) (DxA.ints r)
theorem DxA.of_ints : ∀ {v : List V} {ns : List Int}, DxA K as H v (ns.map D.int) → v = ns.map V.int
  | [], [], _ => rfl
  | [], _ :: _, h => nomatch h
  | _ :: _, [], h => nomatch h
  | _ :: _, n :: r, .cons h t => by
    cases h
    rw [DxA.of_ints t]
    rfl
theorem DxA.of_strs : ∀ {v : List V} {ns : List Str}, DxA K as H v (ns.map D.str) → v = ns.map V.str
  | [], [], _ => rfl
  | [], _ :: _, h => nomatch h
  | _ :: _, [], h => nomatch h
  | _ :: _, n :: r, .cons h t => by
    cases h
    rw [DxA.of_strs t]
    rfl
theorem DxA.of_bls : ∀ {v : List V} {ns : List Bool}, DxA K as H v (ns.map D.bl) → v = ns.map V.bl
  | [], [], _ => rfl
  | [], _ :: _, h => nomatch h
  | _ :: _, [], h => nomatch h
  | _ :: _, n :: r, .cons h t => by
    cases h
    rw [DxA.of_bls t]
    rfl
end

/-! ### the store: what changes -/
inductive Ob where
  | ml (xs : List D) | md (kvs : List (Key × D))
def ObR (K : PySem.W.Frag) (as : List Addr) (H : Hp) (a : Addr) : Ob → Prop
  | .ml xs => ∃ vs, H a = some (.lst vs) ∧ DxA K as H vs xs
  | .md kds => ∃ kvs, H a = some (.dK kvs) ∧ DxP K as H kvs kds
theorem ObR.way {K : PySem.W.Frag} {as bs : List Addr} {H H' : Hp} {a : Addr} {o : Ob} (w : Way K as bs H H') (e : ∀ u, H a = some u → H' a = some u) (h : ObR K as H a o) : ObR K bs H' a o := by
  cases o with
  | ml xs =>
    obtain ⟨vs, h1, h2⟩ := h
    exact ⟨vs, e _ h1, h2.way w⟩
  | md kds =>
    obtain ⟨vs, h1, h2⟩ := h
    exact ⟨vs, e _ h1, h2.way w⟩
theorem ObR.some {K : PySem.W.Frag} {as : List Addr} {H : Hp} {a : Addr} {o : Ob} (h : ObR K as H a o) : H a ≠ none := by
  cases o <;> obtain ⟨_, h1, _⟩ := h <;> rw [h1] <;> intro z <;> cases z
/-- a slot's value: data, or the k-th thing of the store -/
inductive Sv where
  | d (x : D) | o (k : Nat)
def SvR (K : PySem.W.Frag) (as : List Addr) (H : Hp) (v : V) : Sv → Prop
  | .d x => Dx K as H v x
  | .o k => ∃ a, as[k]? = some a ∧ v = .ref a
inductive SvA (K : PySem.W.Frag) (as : List Addr) (H : Hp) : List V → List Sv → Prop
  | nil : SvA K as H [] []
  | cons {v : V} {vs : List V} {d : Sv} {ds : List Sv} : SvR K as H v d → SvA K as H vs ds → SvA K as H (v :: vs) (d :: ds)
abbrev Sl := List (Option Sv)
abbrev Os := List Ob
structure Sa where
  s : Sl
  os : Os
/-- the store at as -/
structure Ro (K : PySem.W.Frag) (as : List Addr) (H : Hp) (os : Os) : Prop where
  nd : as.Nodup
  len : as.length = os.length
  own : ∀ (k : Nat) (a : Addr) (ob : Ob), as[k]? = some a → os[k]? = some ob → ObR K as H a ob
structure Re (K : PySem.W.Frag) (as : List Addr) (H : Hp) (σ : St) (S : Sa) : Prop where
  o : Ro K as H S.os
  slen : σ.length = S.s.length
  slot : ∀ (i : Nat) (d : Sv), S.s[i]? = some (some d) → ∃ v, σ[i]? = some (some v) ∧ SvR K as H v d
/-- from as, H to bs, H': what is further is new, what isn't of the store stays -/
structure Stp (as : List Addr) (H : Hp) (bs : List Addr) (H' : Hp) : Prop where
  pre : ∃ nw, bs = as ++ nw ∧ ∀ a ∈ nw, H a = none
  go : Go as H H'
  th : ∀ a, H' a = none → H a = none
section
variable {K : PySem.W.Frag} {as bs cs : List Addr} {H H' H'' : Hp} {σ : St} {S : Sa} {os os' : Os}
theorem Ro.has {a : Addr} (R : Ro K as H os) (ha : a ∈ as) : H a ≠ none := by
  obtain ⟨k, hk, e⟩ := List.mem_iff_getElem.mp ha
  have h1 : as[k]? = some a := by rw [List.getElem?_eq_getElem hk, e]
  have h2 : k < os.length := R.len ▸ hk
  exact (R.own k a os[k] h1 (List.getElem?_eq_getElem h2)).some
theorem Ro.notin {p : Addr} (R : Ro K as H os) (hp : H p = none) : p ∉ as := fun z => R.has z hp
theorem Stp.refl : Stp as H as H := ⟨⟨[], by simp, fun _ h => nomatch h⟩, Go.refl _ _, fun _ h => h⟩
theorem Stp.of_go (g : Go as H H') (R : Ro K as H' os) : Stp as H as H' := ⟨⟨[], by simp, fun _ h => nomatch h⟩, g, fun a h => g.free (R.notin h) h⟩
theorem Stp.sub (s : Stp as H bs H') : ∀ x ∈ as, x ∈ bs := fun x hx => by
  obtain ⟨nw, e, _⟩ := s.pre
  rw [e]
  exact List.mem_append_left _ hx
theorem Stp.nin (s : Stp as H bs H') {a : Addr} (h : H a ≠ none) (n : a ∉ as) : a ∉ bs := fun z => by
  obtain ⟨nw, e, f⟩ := s.pre
  rw [e] at z
  rcases List.mem_append.mp z with z | z
  · exact n z
  · exact h (f a z)
theorem ne_none {α : Type} {o : Option α} {x : α} (h : o = some x) : o ≠ none := by
  rw [h]
  intro z
  cases z
theorem Stp.trans (s : Stp as H bs H') (t : Stp bs H' cs H'') : Stp as H cs H'' := by
  obtain ⟨n1, e1, f1⟩ := s.pre
  obtain ⟨n2, e2, f2⟩ := t.pre
  refine ⟨⟨n1 ++ n2, by rw [e2, e1, List.append_assoc], fun a ha => ?_⟩, fun a o h n => t.go a o (s.go a o h n) (s.nin (ne_none h) n), fun a h => s.th a (t.th a h)⟩
  rcases List.mem_append.mp ha with z | z
  · exact f1 a z
  · exact s.th a (f2 a z)
theorem rd_nn {H : Hp} {a : Addr} {u : HO} (h : Rd H a u) : H a ≠ none := rd_some h
theorem Stp.way (s : Stp as H bs H') : Way K as bs H H' := by
  refine ⟨fun a xs h => ?_, fun a xs h => ?_, fun a u n h => ⟨s.nin (rd_nn h) n, rd_go s.go n h⟩, fun a u n h => ⟨s.nin (ne_none h) n, s.go a u h n⟩⟩
  · rcases h with ⟨n, h⟩ | h
    · exact .inl ⟨s.nin (rd_nn h) n, rd_go s.go n h⟩
    · exact .inr h
  · rcases h with ⟨n, h⟩ | h
    · exact .inl ⟨s.nin (rd_nn h) n, rd_go s.go n h⟩
    · exact .inr h
theorem SvR.stp {v : V} {d : Sv} (s : Stp as H bs H') (h : SvR K as H v d) : SvR K bs H' v d := by
  cases d with
  | d x => exact Dx.way s.way h
  | o k =>
    obtain ⟨a, e, z⟩ := h
    obtain ⟨nw, q, _⟩ := s.pre
    refine ⟨a, ?_, z⟩
    rw [q, List.getElem?_append_left (List.getElem?_eq_some_iff.mp e).1]
    exact e
theorem SvR.go {v : V} {d : Sv} (g : Go as H H') (h : SvR K as H v d) : SvR K as H' v d := by
  cases d with
  | d x => exact Dx.way (Way.of_go g) h
  | o k => exact h
theorem SvR.wayA {v : V} {d : Sv} {p : Addr} (hp : H p = none) (h : SvR K as H v d) : SvR K (as ++ [p]) H v d := by
  cases d with
  | d x => exact Dx.way (Way.of_add hp) h
  | o k =>
    obtain ⟨a, e, z⟩ := h
    refine ⟨a, ?_, z⟩
    rw [List.getElem?_append_left (List.getElem?_eq_some_iff.mp e).1]
    exact e
theorem SvA.go {vs : List V} {ds : List Sv} (g : Go as H H') : SvA K as H vs ds → SvA K as H' vs ds
  | .nil => .nil
  | .cons h r => .cons (h.go g) (SvA.go g r)
theorem Re.go (R : Re K as H σ S) (g : Go as H H') (Q : Ro K as H' os') : Re K as H' σ ⟨S.s, os'⟩ :=
  ⟨Q, R.slen, fun i d h => by
    obtain ⟨v, e, r⟩ := R.slot i d h
    exact ⟨v, e, r.go g⟩⟩
theorem Ro.new {p : Addr} {o : HO} (R : Ro K as H os) (hp : H p = none) : Ro K as (upd H p o) os := by
  refine ⟨R.nd, R.len, fun k a ob h1 h2 => ?_⟩
  refine (R.own k a ob h1 h2).way (Way.of_go (Go.new hp)) fun u e => ?_
  rw [upd_ne (ne_of_none e hp)]
  exact e
end

/-! ### abstract wishes -/
/-- what is wished of an exception: at the heap, over the data -/
structure Xc where
  wx : Value → Option Addr → St → Hp → Prop
  xe : Addr → List (Str × D) → Sa → Prop
/-- none may come -/
def X0 : Xc := ⟨fun _ _ _ _ => False, fun _ _ _ => False⟩
section
variable (K : PySem.W.Frag) (X : Xc)
def XH (as : List Addr) (H : Hp) (σ : St) (s : Sl) : Prop :=
  ∀ H' C dd fs fds os', Go as H H' → Ro K as H' os' → H dd = none → H' dd = some (.xd fs) → DxF K as H' fs fds → X.xe C fds ⟨s, os'⟩ → X.wx (.ref C) (some dd) σ H'
def XS (as : List Addr) (H : Hp) : Prop :=
  ∀ bs H' σ' S' C dd fs fds, Stp as H bs H' → Re K bs H' σ' S' → H dd = none → H' dd = some (.xd fs) → DxF K bs H' fs fds → X.xe C fds S' → X.wx (.ref C) (some dd) σ' H'
def EW (te : TE) (S : Sa) (Q : Sv → Os → Prop) : Prop :=
  ∀ as H σ (Q' : VK), Re K as H σ S → XH K X as H σ S.s → (∀ v H' d os', Go as H H' → Ro K as H' os' → SvR K as H' v d → Q d os' → Q' v H') → te σ H Q'
def TW (tt : TT) (S : Sa) (Q : Bool → Os → Prop) : Prop :=
  ∀ as H σ (Q' : Bool → Hp → Prop), Re K as H σ S → XH K X as H σ S.s → (∀ b H' os', Go as H H' → Ro K as H' os' → Q b os' → Q' b H') → tt σ H Q'
def AW (ta : TA) (S : Sa) (Q : List Sv → Os → Prop) : Prop :=
  ∀ as H σ (Q' : List V → Hp → Prop), Re K as H σ S → XH K X as H σ S.s → (∀ vs H' ds os', Go as H H' → Ro K as H' os' → SvA K as H' vs ds → Q ds os' → Q' vs H') → ta σ H Q'
def OW (to : TO) (S : Sa) (Q : Option Int → Os → Prop) : Prop :=
  ∀ as H σ (Q' : Option Int → Hp → Prop), Re K as H σ S → XH K X as H σ S.s → (∀ o H' os', Go as H H' → Ro K as H' os' → Q o os' → Q' o H') → to σ H Q'
/-- an operation on values -/
def BW (r : R2) (x y : Sv) (os : Os) (Q : Sv → Os → Prop) : Prop :=
  ∀ as H v u (Q' : VK), Ro K as H os → SvR K as H v x → SvR K as H u y → (∀ z H' d os', Go as H H' → Ro K as H' os' → SvR K as H' z d → Q d os' → Q' z H') → r v u H Q'
def UW (r : V → Hp → VK → Prop) (x : Sv) (os : Os) (Q : Sv → Os → Prop) : Prop :=
  ∀ as H v (Q' : VK), Ro K as H os → SvR K as H v x → (∀ z H' d os', Go as H H' → Ro K as H' os' → SvR K as H' z d → Q d os' → Q' z H') → r v H Q'
/-- a call on values -/
def CW (r : List V → Hp → VK → Prop) (xs : List Sv) (os : Os) (Q : Sv → Os → Prop) : Prop :=
  ∀ as H vs (Q' : VK), Ro K as H os → SvA K as H vs xs → (∀ z H' d os', Go as H H' → Ro K as H' os' → SvR K as H' z d → Q d os' → Q' z H') → r vs H Q'
/-- a method on values -/
def MW (r : V → List V → Hp → VK → Prop) (x : Sv) (xs : List Sv) (os : Os) (Q : Sv → Os → Prop) : Prop :=
  ∀ as H v vs (Q' : VK), Ro K as H os → SvR K as H v x → SvA K as H vs xs → (∀ z H' d os', Go as H H' → Ro K as H' os' → SvR K as H' z d → Q d os' → Q' z H') → r v vs H Q'
structure Ea where
  nx : Sa → Prop
  rt : Sv → Os → Prop
  bk : Sa → Prop := fun _ => False
  ct : Sa → Prop := fun _ => False
def W (ts : TS) (E : Ea) (S : Sa) : Prop :=
  ∀ as H σ (D : Ends), Re K as H σ S → XS K X as H →
    (∀ bs H' σ' S', Stp as H bs H' → Re K bs H' σ' S' → E.nx S' → D.nx σ' H') →
    (∀ bs H' v d os', Stp as H bs H' → Ro K bs H' os' → SvR K bs H' v d → E.rt d os' → D.rt v H') →
    (∀ bs H' σ' S', Stp as H bs H' → Re K bs H' σ' S' → E.bk S' → D.bk σ' H') →
    (∀ bs H' σ' S', Stp as H bs H' → Re K bs H' σ' S' → E.ct S' → D.ct σ' H') → ts D σ H
end
section
variable {K : PySem.W.Frag} {X : Xc} {as bs : List Addr} {H H1 : Hp} {σ : St} {s : Sl} {S : Sa} {os os1 : Os}
theorem XH.go (x : XH K X as H σ s) (g : Go as H H1) (R : Ro K as H1 os1) : XH K X as H1 σ s := fun H' C dd fs fds os' g2 R2 n e r z =>
  x H' C dd fs fds os' (g.trans g2) R2 (g.free (R.notin n) n) e r z
theorem XS.stp (x : XS K X as H) (s : Stp as H bs H1) : XS K X bs H1 := fun cs H' σ' S' C dd fs fds t R n e r z => x cs H' σ' S' C dd fs fds (s.trans t) R (s.th _ n) e r z
theorem XS.h (x : XS K X as H) (R : Re K as H σ S) : XH K X as H σ S.s := fun H' C dd fs fds os' g R2 n e r z => x as H' σ ⟨S.s, os'⟩ C dd fs fds (Stp.of_go g R2) (R.go g R2) n e r z
theorem XH.x0 : XH K X0 as H σ s := fun _ _ _ _ _ _ _ _ _ _ _ z => z.elim
theorem XS.x0 : XS K X0 as H := fun _ _ _ _ _ _ _ _ _ _ _ _ _ z => z.elim
end

/-! ### expressions -/
section
variable {K : PySem.W.Frag} {X : Xc} {S : Sa} {os : Os} {Q : Sv → Os → Prop} {ta tb te : TE} {tr : TA}
theorem ew_var {i : Nat} {d : Sv} (h : S.s[i]? = some (some d)) (q : Q d S.os) : EW K X (tVar i) S Q := fun as H σ Q' R x k => by
  obtain ⟨v, e, r⟩ := R.slot i d h
  exact ⟨v, e, k v H d S.os (Go.refl _ _) R.o r q⟩
theorem ew_c {v : V} {d : D} (h : ∀ as H, Dx K as H v d) (q : Q (.d d) S.os) : EW K X (tC v) S Q := fun as H σ Q' R x k => k v H (.d d) S.os (Go.refl _ _) R.o (h as H) q
theorem ew_int {i : Int} (q : Q (.d (.int i)) S.os) : EW K X (tC (.int i)) S Q := ew_c (fun _ _ => .int i) q
theorem ew_str {z : PySem.Str} (q : Q (.d (.str z)) S.os) : EW K X (tC (.str z)) S Q := ew_c (fun _ _ => .str z) q
theorem ew_bl {b : Bool} (q : Q (.d (.bl b)) S.os) : EW K X (tC (.bl b)) S Q := ew_c (fun _ _ => .bl b) q
theorem ew_non (q : Q (.d .non) S.os) : EW K X (tC .non) S Q := ew_c (fun _ _ => .non) q
theorem ew_op {r : R2} (h : EW K X ta S fun x os1 => EW K X tb ⟨S.s, os1⟩ fun y os2 => BW K r x y os2 Q) : EW K X (tOp r ta tb) S Q := fun as H σ Q' R x k =>
  h as H σ _ R x fun v H1 d os1 g1 R1 r1 q1 => q1 as H1 σ _ (R.go g1 R1) (x.go g1 R1) fun u H2 e os2 g2 R2 r2 q2 => q2 as H2 v u Q' R2 (r1.go g2) r2 fun z H3 f os3 g3 R3 r3 q3 => k z H3 f os3 ((g1.trans g2).trans g3) R3 r3 q3
theorem ew_un {r : V → Hp → VK → Prop} (h : EW K X ta S fun x os1 => UW K r x os1 Q) : EW K X (tUn r ta) S Q := fun as H σ Q' R x k =>
  h as H σ _ R x fun v H1 d os1 g1 R1 r1 q1 => q1 as H1 v Q' R1 r1 fun z H3 f os3 g3 R3 r3 q3 => k z H3 f os3 (g1.trans g3) R3 r3 q3
theorem aw_nil {Q : List Sv → Os → Prop} (q : Q [] S.os) : AW K X tNil S Q := fun as H σ Q' R x k => k [] H [] S.os (Go.refl _ _) R.o .nil q
theorem aw_cons {Q : List Sv → Os → Prop} (h : EW K X ta S fun x os1 => AW K X tr ⟨S.s, os1⟩ fun xs os2 => Q (x :: xs) os2) : AW K X (tCons ta tr) S Q := fun as H σ Q' R x k =>
  h as H σ _ R x fun v H1 d os1 g1 R1 r1 q1 => q1 as H1 σ _ (R.go g1 R1) (x.go g1 R1) fun vs H2 ds os2 g2 R2 r2 q2 => k (v :: vs) H2 (d :: ds) os2 (g1.trans g2) R2 (.cons (r1.go g2) r2) q2
theorem ew_cb {r : List V → Hp → VK → Prop} (h : AW K X tr S fun xs os1 => CW K r xs os1 Q) : EW K X (tCB r tr) S Q := fun as H σ Q' R x k =>
  h as H σ _ R x fun vs H1 ds os1 g1 R1 r1 q1 => q1 as H1 vs Q' R1 r1 fun z H3 f os3 g3 R3 r3 q3 => k z H3 f os3 (g1.trans g3) R3 r3 q3
theorem ew_if {t : TT} (h : TW K X t S fun b os1 => if b = true then EW K X ta ⟨S.s, os1⟩ Q else EW K X tb ⟨S.s, os1⟩ Q) : EW K X (tIf t ta tb) S Q := fun as H σ Q' R x k =>
  h as H σ _ R x fun b H1 os1 g1 R1 q1 => by
    cases b with
    | true =>
      show ta σ H1 Q'
      exact (show EW K X ta ⟨S.s, os1⟩ Q from q1) as H1 σ Q' (R.go g1 R1) (x.go g1 R1) fun z H3 f os3 g3 R3 r3 q3 => k z H3 f os3 (g1.trans g3) R3 r3 q3
    | false =>
      show tb σ H1 Q'
      exact (show EW K X tb ⟨S.s, os1⟩ Q from q1) as H1 σ Q' (R.go g1 R1) (x.go g1 R1) fun z H3 f os3 g3 R3 r3 q3 => k z H3 f os3 (g1.trans g3) R3 r3 q3
theorem ew_mono {Q' : Sv → Os → Prop} (h : EW K X te S Q) (m : ∀ d os, Q d os → Q' d os) : EW K X te S Q' := fun as H σ Z R x k =>
  h as H σ Z R x fun v H1 d os1 g1 R1 r1 q1 => k v H1 d os1 g1 R1 r1 (m d os1 q1)
end

/-! ### tests -/
section
variable {K : PySem.W.Frag} {X : Xc} {S : Sa} {Q : Bool → Os → Prop} {ta : TE} {t u : TT}
theorem tw_test (h : EW K X ta S fun x os => ∃ b, x = .d (.bl b) ∧ Q b os) : TW K X (tTest ta) S Q := fun as H σ Q' R x k =>
  h as H σ _ R x fun v H1 d os1 g1 R1 r1 ⟨b, e, q⟩ => by
    subst e
    cases r1
    exact ⟨b, rfl, k b H1 os1 g1 R1 q⟩
theorem tw_B (h : EW K X ta S fun x os => ∃ b, x = .d (.bl b) ∧ Q b os) : TW K X (tB ta) S Q := fun as H σ Q' R x k =>
  h as H σ _ R x fun v H1 d os1 g1 R1 r1 ⟨b, e, q⟩ => by
    subst e
    cases r1
    exact ⟨b, rfl, k b H1 os1 g1 R1 q⟩
theorem tw_and (h : TW K X t S fun b os => if b = true then TW K X u ⟨S.s, os⟩ Q else Q false os) : TW K X (tAnd t u) S Q := fun as H σ Q' R x k =>
  h as H σ _ R x fun b H1 os1 g1 R1 q1 => by
    cases b with
    | true =>
      show u σ H1 Q'
      exact (show TW K X u ⟨S.s, os1⟩ Q from q1) as H1 σ Q' (R.go g1 R1) (x.go g1 R1) fun b H2 os2 g2 R2 q2 => k b H2 os2 (g1.trans g2) R2 q2
    | false =>
      show Q' false H1
      exact k false H1 os1 g1 R1 q1
theorem tw_or (h : TW K X t S fun b os => if b = true then Q true os else TW K X u ⟨S.s, os⟩ Q) : TW K X (tOr t u) S Q := fun as H σ Q' R x k =>
  h as H σ _ R x fun b H1 os1 g1 R1 q1 => by
    cases b with
    | false =>
      show u σ H1 Q'
      exact (show TW K X u ⟨S.s, os1⟩ Q from q1) as H1 σ Q' (R.go g1 R1) (x.go g1 R1) fun b H2 os2 g2 R2 q2 => k b H2 os2 (g1.trans g2) R2 q2
    | true =>
      show Q' true H1
      exact k true H1 os1 g1 R1 q1
theorem tw_not (h : TW K X t S fun b os => Q (!b) os) : TW K X (tNot t) S Q := fun as H σ Q' R x k => h as H σ _ R x fun b H1 os1 g1 R1 q1 => k (!b) H1 os1 g1 R1 q1
end
section
variable {K : PySem.W.Frag} {X : Xc} {S : Sa} {Q : Sv → Os → Prop} {ta tb : TE}
theorem ew_andV (h : EW K X ta S fun x os => ∃ b, x = .d (.bl b) ∧ if b = true then EW K X tb ⟨S.s, os⟩ Q else Q (.d (.bl false)) os) : EW K X (tAndV ta tb) S Q := fun as H σ Q' R x k =>
  h as H σ _ R x fun v H1 d os1 g1 R1 r1 ⟨b, e, q1⟩ => by
    subst e
    cases r1
    refine ⟨b, rfl, ?_⟩
    cases b with
    | true =>
      show tb σ H1 Q'
      exact (show EW K X tb ⟨S.s, os1⟩ Q from q1) as H1 σ Q' (R.go g1 R1) (x.go g1 R1) fun z H3 f os3 g3 R3 r3 q3 => k z H3 f os3 (g1.trans g3) R3 r3 q3
    | false =>
      show Q' (.bl false) H1
      exact k _ H1 (.d (.bl false)) os1 g1 R1 (Dx.bl false) q1
theorem ew_orV (h : EW K X ta S fun x os => ∃ b, x = .d (.bl b) ∧ if b = true then Q (.d (.bl true)) os else EW K X tb ⟨S.s, os⟩ Q) : EW K X (tOrV ta tb) S Q := fun as H σ Q' R x k =>
  h as H σ _ R x fun v H1 d os1 g1 R1 r1 ⟨b, e, q1⟩ => by
    subst e
    cases r1
    refine ⟨b, rfl, ?_⟩
    cases b with
    | false =>
      show tb σ H1 Q'
      exact (show EW K X tb ⟨S.s, os1⟩ Q from q1) as H1 σ Q' (R.go g1 R1) (x.go g1 R1) fun z H3 f os3 g3 R3 r3 q3 => k z H3 f os3 (g1.trans g3) R3 r3 q3
    | true =>
      show Q' (.bl true) H1
      exact k _ H1 (.d (.bl true)) os1 g1 R1 (Dx.bl true) q1
theorem ew_notV (h : EW K X ta S fun x os => ∃ b, x = .d (.bl b) ∧ Q (.d (.bl (!b))) os) : EW K X (tNotV ta) S Q := fun as H σ Q' R x k =>
  h as H σ _ R x fun v H1 d os1 g1 R1 r1 ⟨b, e, q1⟩ => by
    subst e
    cases r1
    exact ⟨b, rfl, k _ H1 (.d (.bl _)) os1 g1 R1 (Dx.bl _) q1⟩
end

/-! ### statements -/
section
variable {K : PySem.W.Frag} {X : Xc} {S : Sa} {E : Ea} {te : TE} {tt : TT} {t u : TS}
theorem w_seq (h : W K X t { E with nx := W K X u E } S) : W K X (tSeq t u) E S := fun as H σ D R x n r b c => by
  refine h as H σ { D with nx := u D } R x (fun bs H1 σ1 S1 s1 R1 q1 => ?_) r b c
  exact q1 bs H1 σ1 D R1 (x.stp s1) (fun cs H2 σ2 S2 s2 R2 q2 => n cs H2 σ2 S2 (s1.trans s2) R2 q2) (fun cs H2 v d os2 s2 R2 r2 q2 => r cs H2 v d os2 (s1.trans s2) R2 r2 q2)
    (fun cs H2 σ2 S2 s2 R2 q2 => b cs H2 σ2 S2 (s1.trans s2) R2 q2) (fun cs H2 σ2 S2 s2 R2 q2 => c cs H2 σ2 S2 (s1.trans s2) R2 q2)
theorem w_next (q : E.nx S) : W K X tNext E S := fun as H σ D R x n r b c => n as H σ S Stp.refl R q
theorem w_brk (q : E.bk S) : W K X tBreak E S := fun as H σ D R x n r b c => b as H σ S Stp.refl R q
theorem w_cont (q : E.ct S) : W K X tCont E S := fun as H σ D R x n r b c => c as H σ S Stp.refl R q
theorem w_ret (h : EW K X te S E.rt) : W K X (tRet te) E S := fun as H σ D R x n r b c => h as H σ _ R (x.h R) fun v H1 d os1 g1 R1 r1 q1 => r as H1 v d os1 (Stp.of_go g1 R1) R1 r1 q1
theorem w_retN (h : E.rt (.d .non) S.os) : W K X tRetN E S := fun as H σ D R x n r b c => r as H .non (.d .non) S.os Stp.refl R.o Dx.non h
theorem w_drop (h : EW K X te S fun _ os => E.nx ⟨S.s, os⟩) : W K X (tDrop te) E S := fun as H σ D R x n r b c => h as H σ _ R (x.h R) fun v H1 d os1 g1 R1 r1 q1 => n as H1 σ _ (Stp.of_go g1 R1) (R.go g1 R1) q1
theorem Re.set {as : List Addr} {H : Hp} {σ : St} {v : V} {d : Sv} (i : Nat) (R : Re K as H σ S) (r : SvR K as H v d) : Re K as H (σ.set i (some v)) ⟨S.s.set i (some d), S.os⟩ :=
  ⟨R.o, by simp [R.slen], fun j e h => by
    have h' : (S.s.set i (some d))[j]? = some (some e) := h
    by_cases hj : i = j
    · subst hj
      by_cases hl : i < S.s.length
      · rw [List.getElem?_set_self hl] at h'
        cases h'
        exact ⟨v, by rw [List.getElem?_set_self (by rw [R.slen]; exact hl)], r⟩
      · rw [List.getElem?_eq_none (by simpa using hl)] at h'
        cases h'
    · rw [List.getElem?_set_ne hj] at h'
      obtain ⟨w, e1, r1⟩ := R.slot j e h'
      exact ⟨w, by rw [List.getElem?_set_ne hj]; exact e1, r1⟩⟩
theorem w_asg {i : Nat} (h : EW K X te S fun d os => E.nx ⟨S.s.set i (some d), os⟩) : W K X (tAsg te (gName i)) E S := fun as H σ D R x n r b c =>
  h as H σ _ R (x.h R) fun v H1 d os1 g1 R1 r1 q1 => n as H1 _ _ (Stp.of_go g1 R1) ((R.go g1 R1).set i r1) q1
theorem w_if (h : TW K X tt S fun b os => if b = true then W K X t E ⟨S.s, os⟩ else W K X u E ⟨S.s, os⟩) : W K X (tIfS tt t u) E S := fun as H σ D R x n r b c =>
  h as H σ _ R (x.h R) fun y H1 os1 g1 R1 q1 => by
    have s1 := Stp.of_go g1 R1
    cases y with
    | true =>
      show t D σ H1
      exact (show W K X t E ⟨S.s, os1⟩ from q1) as H1 σ D (R.go g1 R1) (x.stp s1) (fun cs H2 σ2 S2 s2 R2 q2 => n cs H2 σ2 S2 (s1.trans s2) R2 q2) (fun cs H2 v d os2 s2 R2 r2 q2 => r cs H2 v d os2 (s1.trans s2) R2 r2 q2)
        (fun cs H2 σ2 S2 s2 R2 q2 => b cs H2 σ2 S2 (s1.trans s2) R2 q2) (fun cs H2 σ2 S2 s2 R2 q2 => c cs H2 σ2 S2 (s1.trans s2) R2 q2)
    | false =>
      show u D σ H1
      exact (show W K X u E ⟨S.s, os1⟩ from q1) as H1 σ D (R.go g1 R1) (x.stp s1) (fun cs H2 σ2 S2 s2 R2 q2 => n cs H2 σ2 S2 (s1.trans s2) R2 q2) (fun cs H2 v d os2 s2 R2 r2 q2 => r cs H2 v d os2 (s1.trans s2) R2 r2 q2)
        (fun cs H2 σ2 S2 s2 R2 q2 => b cs H2 σ2 S2 (s1.trans s2) R2 q2) (fun cs H2 σ2 S2 s2 R2 q2 => c cs H2 σ2 S2 (s1.trans s2) R2 q2)
theorem w_mono {E' : Ea} (h : W K X t E S) (n : ∀ S, E.nx S → E'.nx S) (r : ∀ d os, E.rt d os → E'.rt d os) (b : ∀ S, E.bk S → E'.bk S) (c : ∀ S, E.ct S → E'.ct S) : W K X t E' S := fun as H σ D R x kn kr kb kc =>
  h as H σ D R x (fun bs H' σ' S' s R' q => kn bs H' σ' S' s R' (n _ q)) (fun bs H' v d os s R' r' q => kr bs H' v d os s R' r' (r _ _ q)) (fun bs H' σ' S' s R' q => kb bs H' σ' S' s R' (b _ q)) (fun bs H' σ' S' s R' q => kc bs H' σ' S' s R' (c _ q))
/-- never come to -/
theorem w_never (h : False) : W K X t E S := h.elim
end
end Br

/-! BrB: calls, operations on data. -/
namespace Br
open PySem L2

/-! ### data as the library's own -/
mutual
def D.py : D → Option PyData
  | .non => some .none
  | .bl b => some (.bool b)
  | .int i => some (.int i)
  | .str x => some (.str x)
  | .lst xs => (D.pys xs).map .list
  | .tup xs => (D.pys xs).map .tuple
  | .dk _ => none
  | .ob _ _ => none
  | .xo _ _ => none
def D.pys : List D → Option (List PyData)
  | [] => some []
  | x :: r => (D.py x).bind fun p => (D.pys r).map fun ps => p :: ps
end
section
variable {K : PySem.W.Frag} {as : List Addr} {H : Hp}
mutual
theorem Dx.dp1 : ∀ (d : D) (v : V) (p : PyData), Dx K as H v d → d.py = some p → Dp K H v p
  | .non, _, _, h, e => by
    cases h
    have e2 : some PyData.none = some _ := e
    cases e2
    exact .non
  | .bl b, _, _, h, e => by
    cases h
    have e2 : some (PyData.bool b) = some _ := e
    cases e2
    exact .bl b
  | .int b, _, _, h, e => by
    cases h
    have e2 : some (PyData.int b) = some _ := e
    cases e2
    exact .int b
  | .str b, _, _, h, e => by
    cases h
    have e2 : some (PyData.str b) = some _ := e
    cases e2
    exact .str b
  | .lst ds, _, p, h, e => by
    cases h with
    | lst hl hr =>
      have e2 : (D.pys ds).map PyData.list = some p := e
      obtain ⟨ps, q, rfl⟩ := Option.map_eq_some_iff.mp e2
      exact .lst hl.sq (DxA.dp1 ds _ ps hr q)
  | .tup ds, _, p, h, e => by
    cases h with
    | tup hl hr =>
      have e2 : (D.pys ds).map PyData.tuple = some p := e
      obtain ⟨ps, q, rfl⟩ := Option.map_eq_some_iff.mp e2
      exact .tup hl.sq (DxA.dp1 ds _ ps hr q)
  | .dk _, _, p, _, e => by
    have e2 : (none : Option PyData) = some p := e
    cases e2
  | .ob _ _, _, p, _, e => by
    have e2 : (none : Option PyData) = some p := e
    cases e2
  | .xo _ _, _, p, _, e => by
    have e2 : (none : Option PyData) = some p := e
    cases e2
theorem DxA.dp1 : ∀ (ds : List D) (vs : List V) (ps : List PyData), DxA K as H vs ds → D.pys ds = some ps → DpAll K H vs ps
  | [], _, ps, h, e => by
    cases h
    have e2 : some [] = some ps := e
    cases e2
    exact .nil
  | d :: ds, _, ps, h, e => by
    cases h with
    | cons h r =>
      have e2 : ((D.py d).bind fun p => (D.pys ds).map fun ps => p :: ps) = some ps := e
      obtain ⟨p, q1, q2⟩ := Option.bind_eq_some_iff.mp e2
      obtain ⟨qs, q3, q4⟩ := Option.map_eq_some_iff.mp q2
      subst q4
      exact .cons (Dx.dp1 d _ p h q1) (DxA.dp1 ds _ qs r q3)
end
theorem Dx.dp {v : V} {d : D} {p : PyData} (h : Dx K as H v d) (e : d.py = some p) : Dp K H v p := Dx.dp1 d v p h e
end

/-! ### promises over data -/
abbrev Xa := Addr → List (Str × D) → Os → Prop
abbrev FD := List Sv → Os → (D → Os → Prop) → Xa → Prop
/-- the promise: from the arguments' data and the store to the answer's -/
def spD (K : PySem.W.Frag) (f : FD) : Sp := fun vs H Q E => ∃ (as : List Addr) (os : Os) (ds : List Sv) (QA : D → Os → Prop) (EA : Xa), Ro K as H os ∧ SvA K as H vs ds ∧ f ds os QA EA ∧
  (∀ v H' d os', Go as H H' → Ro K as H' os' → Dx K as H' v d → QA d os' → Q v H') ∧
  (∀ C dd H' fs fds os', Go as H H' → Ro K as H' os' → H dd = none → H' dd = some (.xd fs) → DxF K as H' fs fds → EA C fds os' → E (.ref C) (some dd) H')
section
variable {K : PySem.W.Frag} {as bs : List Addr} {H H' : Hp} {os os' : Os}
/-- back to the caller's things -/
theorem Ro.back (s : Stp as H bs H') (n : as.length = os.length) (R : Ro K bs H' os') : Ro K as H' (os'.take os.length) := by
  obtain ⟨nw, e, _⟩ := s.pre
  have hl : os.length ≤ os'.length := by rw [← R.len, ← n, e, List.length_append]; omega
  refine ⟨?_, by rw [n, List.length_take]; omega, fun k a ob h1 h2 => ?_⟩
  · have q := R.nd
    rw [e] at q
    exact (List.nodup_append.mp q).1
  · have hk : k < as.length := (List.getElem?_eq_some_iff.mp h1).1
    have h1' : bs[k]? = some a := by rw [e, List.getElem?_append_left hk]; exact h1
    have h2' : os'[k]? = some ob := by rw [List.getElem?_take_of_lt (by omega)] at h2; exact h2
    exact (R.own k a ob h1' h2').way (Way.of_sub s.sub) fun _ z => z
/-- what a return hands out -/
def RetOk (n : Nat) (QA : D → Os → Prop) : Sv → Os → Prop := fun x os' => match x with
  | .d d => QA d (os'.take n)
  | .o k => n ≤ k ∧ ∃ xs, os'[k]? = some (.ml xs) ∧ QA (.lst xs) (os'.take n)
theorem ret_back {QA : D → Os → Prop} {v : V} {x : Sv} {Q : VK} (s : Stp as H bs H') (n : as.length = os.length) (R : Ro K bs H' os') (r : SvR K bs H' v x) (q : RetOk os.length QA x os')
    (k : ∀ v H' d os', Go as H H' → Ro K as H' os' → Dx K as H' v d → QA d os' → Q v H') : Q v H' := by
  cases x with
  | d d => exact k v H' d _ s.go (R.back s n) (Dx.way (Way.of_sub s.sub) r) q
  | o j =>
    obtain ⟨hj, xs, e, q⟩ := q
    obtain ⟨a, ea, rfl⟩ := r
    obtain ⟨vs, h1, h2⟩ := R.own j a _ ea e
    obtain ⟨nw, eb, hf⟩ := s.pre
    have ha : a ∉ as := fun z => by
      obtain ⟨i, hi, ei⟩ := List.mem_iff_getElem.mp z
      have h3 : bs[i]? = some a := by rw [eb, List.getElem?_append_left hi, List.getElem?_eq_getElem hi, ei]
      have h4 : i = j := by
        obtain ⟨l1, m1⟩ := List.getElem?_eq_some_iff.mp h3
        obtain ⟨l2, m2⟩ := List.getElem?_eq_some_iff.mp ea
        exact (List.getElem_inj R.nd).mp (m1.trans m2.symm)
      omega
    exact k _ H' _ _ s.go (R.back s n) (.lst (.inl ⟨ha, .inl h1⟩) (h2.way (Way.of_sub s.sub))) q
def startS (N : List Str) (ds : List Sv) : Sl := ds.map some ++ List.replicate (N.length - ds.length) none
theorem SvA.length : ∀ {vs : List V} {ds : List Sv}, SvA K as H vs ds → vs.length = ds.length
  | _, _, .nil => rfl
  | _, _, .cons _ r => by rw [List.length_cons, List.length_cons, SvA.length r]
theorem SvA.get : ∀ {v : List V} {d : List Sv} {i : Nat} {x : Sv}, SvA K as H v d → d[i]? = some x → ∃ u, v[i]? = some u ∧ SvR K as H u x
  | _, _, _, _, .nil, e => by simp at e
  | _, _, 0, _, .cons h _, e => by simp at e; subst e; exact ⟨_, rfl, h⟩
  | _, _, i + 1, x, .cons _ r, e => by
    obtain ⟨u, h1, h2⟩ := SvA.get (i := i) (x := x) r (by simpa using e)
    exact ⟨u, by simpa using h1, h2⟩
theorem re_start {N : List Str} {vs : List V} {ds : List Sv} (R : Ro K as H os) (r : SvA K as H vs ds) : Re K as H (L2.start N vs) ⟨startS N ds, os⟩ := by
  have hl := r.length
  refine ⟨R, by unfold L2.start startS; simp [hl], fun i d h => ?_⟩
  have h' : (startS N ds)[i]? = some (some d) := h
  unfold startS at h'
  by_cases hi : i < ds.length
  · rw [List.getElem?_append_left (by simpa using hi), List.getElem?_map] at h'
    cases e : ds[i]? with
    | none => rw [e] at h'; cases h'
    | some y =>
      rw [e] at h'
      cases h'
      obtain ⟨u, h1, h2⟩ := r.get e
      refine ⟨u, ?_, h2⟩
      unfold L2.start
      rw [List.getElem?_append_left (by simpa [hl] using hi), List.getElem?_map, h1]
      rfl
  · rw [List.getElem?_append_right (by simpa using hi), List.getElem?_replicate] at h'
    split at h' <;> cases h'
/-- a body's abstract reading is a reading of the promise -/
theorem read_of {N : List Str} {f : FD} {t : TS} {vs : List V} {Q : VK} {E : XK} (h : spD K f vs H Q E)
    (w : ∀ ds os QA EA, f ds os QA EA → W K ⟨fun cls d _ H => E cls d H, fun C fds S => EA C fds (S.os.take os.length)⟩ t { nx := fun S => RetOk os.length QA (.d .non) S.os, rt := RetOk os.length QA } ⟨startS N ds, os⟩) : t { nx := fun _ H' => Q .non H', rt := Q } (L2.start N vs) H := by
  obtain ⟨as, os, ds, QA, EA, R, r, hf, kq, ke⟩ := h
  refine w ds os QA EA hf as H _ _ (re_start R r) (fun bs H' σ' S' C dd fs fds s R' n e r' z => ?_) (fun bs H' σ' S' s R' q => ?_) (fun bs H' v d os' s R' r' q => ?_) (fun _ _ _ _ _ _ q => q.elim) fun _ _ _ _ _ _ q => q.elim
  · exact ke C dd H' fs fds _ s.go (R'.o.back s R.len) n e (DxF.way (Way.of_sub s.sub) r') z
  · exact ret_back s R.len R'.o (v := .non) (x := .d .non) Dx.non q kq
  · exact ret_back s R.len R' r' q kq
end

/-! ### a call of a def -/
section
variable {K : PySem.W.Frag} {X : Xc} {S : Sa} {Q : Sv → Os → Prop} {ta : TA} {f : FD}
theorem SvA.nilr {as : List Addr} {H : Hp} : ∀ {vs : List V} {ds : List Sv}, SvA K as H vs ds → SvA K as H (vs ++ []) ds := fun h => by
  rw [List.append_nil]
  exact h
theorem ew_call (h : AW K X ta S fun ds os => f ds os (fun d os' => Q (.d d) os') fun _ _ _ => False) : EW K X (tCall (spD K f) [] E0 ta) S Q := fun as H σ Q' R x k =>
  h as H σ _ R x fun vs H1 ds os1 g1 R1 r1 q1 => ⟨as, os1, ds, _, _, R1, r1.nilr, q1, fun v H2 d os2 g2 R2 r2 q2 => k v H2 (.d d) os2 (g1.trans g2) R2 r2 q2, fun _ _ _ _ _ _ _ _ _ _ _ z => z.elim⟩
/-- one that may raise -/
theorem ew_callS {wx : WX} {xe : Addr → List (Str × D) → Sa → Prop} (h : AW K ⟨wx, xe⟩ ta S fun ds os => f ds os (fun d os' => Q (.d d) os') fun C fds os' => xe C fds ⟨S.s, os'⟩) : EW K ⟨wx, xe⟩ (tCallS (spD K f) (WE wx) ta) S Q := fun as H σ Q' R x k =>
  h as H σ _ R x fun vs H1 ds os1 g1 R1 r1 q1 => ⟨as, os1, ds, _, _, R1, r1, q1, fun v H2 d os2 g2 R2 r2 q2 => k v H2 (.d d) os2 (g1.trans g2) R2 r2 q2,
    fun C dd H2 fs fds os2 g2 R2 n2 e2 r2 z => x H2 C dd fs fds os2 (g1.trans g2) R2 (g1.free (R1.notin n2) n2) e2 r2 z⟩
end

/-! ### operations on values -/
section
variable {K : PySem.W.Frag} {os : Os} {Q : Sv → Os → Prop}
theorem bw_pure {r : R2} {x y : Sv} {z : D} (h : ∀ as H v u (Q' : VK), Ro K as H os → SvR K as H v x → SvR K as H u y → (∀ v, Dx K as H v z → Q' v H) → r v u H Q') (q : Q (.d z) os) : BW K r x y os Q :=
  fun as H v u Q' R rx ry k => h as H v u Q' R rx ry fun w rw => k w H (.d z) os (Go.refl _ _) R rw q
theorem cw_pure {r : List V → Hp → VK → Prop} {xs : List Sv} {z : D} (h : ∀ as H vs (Q' : VK), Ro K as H os → SvA K as H vs xs → (∀ v, Dx K as H v z → Q' v H) → r vs H Q') (q : Q (.d z) os) : CW K r xs os Q :=
  fun as H vs Q' R r k => h as H vs Q' R r fun w rw => k w H (.d z) os (Go.refl _ _) R rw q
/-- what gives a new object -/
theorem cw_new {r : List V → Hp → VK → Prop} {xs : List Sv} {z : D}
    (h : ∀ as H vs (Q' : VK), Ro K as H os → SvA K as H vs xs → (∀ p o, H p = none → Dx K as (upd H p o) (.ref p) z → Q' (.ref p) (upd H p o)) → (∀ v, Dx K as H v z → Q' v H) → r vs H Q') (q : Q (.d z) os) : CW K r xs os Q :=
  fun as H vs Q' R r k => h as H vs Q' R r (fun p o hp rw => k (.ref p) (upd H p o) (.d z) os (Go.new hp) (R.new hp) rw q) fun w rw => k w H (.d z) os (Go.refl _ _) R rw q
theorem bw_new {r : R2} {x y : Sv} {z : D}
    (h : ∀ as H v u (Q' : VK), Ro K as H os → SvR K as H v x → SvR K as H u y → (∀ p o, H p = none → Dx K as (upd H p o) (.ref p) z → Q' (.ref p) (upd H p o)) → (∀ v, Dx K as H v z → Q' v H) → r v u H Q') (q : Q (.d z) os) : BW K r x y os Q :=
  fun as H v u Q' R rx ry k => h as H v u Q' R rx ry (fun p o hp rw => k (.ref p) (upd H p o) (.d z) os (Go.new hp) (R.new hp) rw q) fun w rw => k w H (.d z) os (Go.refl _ _) R rw q
/-- ints -/
theorem bw_i0 {g : Int → Int → Int} {i j : Int} (q : Q (.d (.int (g i j))) os) : BW K (rI0 fun i j => .int (g i j)) (.d (.int i)) (.d (.int j)) os Q :=
  bw_pure (fun as H v u Q' R rx ry k => by
    cases rx
    cases ry
    exact ⟨i, j, rfl, rfl, k _ (.int _)⟩) q
theorem bw_ib {g : Int → Int → Bool} {i j : Int} (q : Q (.d (.bl (g i j))) os) : BW K (rI0 fun i j => .bl (g i j)) (.d (.int i)) (.d (.int j)) os Q :=
  bw_pure (fun as H v u Q' R rx ry k => by
    cases rx
    cases ry
    exact ⟨i, j, rfl, rfl, k _ (.bl _)⟩) q
theorem bw_i {C : Int → Int → Prop} {g : Int → Int → Int} {i j : Int} (c : C i j) (q : Q (.d (.int (g i j))) os) : BW K (rI C fun i j => .int (g i j)) (.d (.int i)) (.d (.int j)) os Q :=
  bw_pure (fun as H v u Q' R rx ry k => by
    cases rx
    cases ry
    exact ⟨i, j, rfl, rfl, c, k _ (.int _)⟩) q
/-- texts -/
def rCatS : R2 := fun x y H Q => ∃ i j, x = .str i ∧ y = .str j ∧ i.length + j.length ≤ sizeLine ∧ Q (.str (i ++ j)) H
theorem bw_catS {i j : Str} (c : i.length + j.length ≤ sizeLine) (q : Q (.d (.str (i ++ j))) os) : BW K rCatS (.d (.str i)) (.d (.str j)) os Q :=
  bw_pure (fun as H v u Q' R rx ry k => by
    cases rx
    cases ry
    exact ⟨i, j, rfl, rfl, c, k _ (.str _)⟩) q
theorem bw_inS {c : Nat} {z : Str} (q : Q (.d (.bl (decide (c ∈ z.cps.toList)))) os) : BW K rInS (.d (.str ⟨#[c]⟩)) (.d (.str z)) os Q :=
  bw_pure (fun as H v u Q' R rx ry k => by
    cases rx
    cases ry
    exact ⟨c, z, rfl, rfl, k _ (.bl _)⟩) q
theorem bw_notInS {c : Nat} {z : Str} (q : Q (.d (.bl (!decide (c ∈ z.cps.toList)))) os) : BW K rNotInS (.d (.str ⟨#[c]⟩)) (.d (.str z)) os Q :=
  bw_pure (fun as H v u Q' R rx ry k => by
    cases rx
    cases ry
    exact ⟨c, z, rfl, rfl, k _ (.bl _)⟩) q
theorem bw_eqS {i j : Str} (q : Q (.d (.bl (decide (i = j)))) os) : BW K rEq (.d (.str i)) (.d (.str j)) os Q :=
  bw_pure (fun as H v u Q' R rx ry k => by
    cases rx
    cases ry
    have e : decide (V.str i = V.str j) = decide (i = j) := by simp
    exact ⟨rfl, by rw [e]; exact k _ (.bl _)⟩) q
theorem bw_neS {i j : Str} (q : Q (.d (.bl (!decide (i = j)))) os) : BW K rNe (.d (.str i)) (.d (.str j)) os Q :=
  bw_pure (fun as H v u Q' R rx ry k => by
    cases rx
    cases ry
    have e : decide (V.str i = V.str j) = decide (i = j) := by simp
    exact ⟨rfl, by rw [e]; exact k _ (.bl _)⟩) q
theorem bw_eqI {i j : Int} (q : Q (.d (.bl (decide (i = j)))) os) : BW K rEq (.d (.int i)) (.d (.int j)) os Q :=
  bw_pure (fun as H v u Q' R rx ry k => by
    cases rx
    cases ry
    have e : decide (V.int i = V.int j) = decide (i = j) := by simp
    exact ⟨rfl, by rw [e]; exact k _ (.bl _)⟩) q
theorem bw_neI {i j : Int} (q : Q (.d (.bl (!decide (i = j)))) os) : BW K rNe (.d (.int i)) (.d (.int j)) os Q :=
  bw_pure (fun as H v u Q' R rx ry k => by
    cases rx
    cases ry
    have e : decide (V.int i = V.int j) = decide (i = j) := by simp
    exact ⟨rfl, by rw [e]; exact k _ (.bl _)⟩) q
/-- data at any depth -/
theorem bw_eqD {x y : D} {p r : PyData} (hx : x.py = some p) (hy : y.py = some r) (sp : SeqAt.shaped p = true) (sr : SeqAt.shaped r = true) (q : Q (.d (.bl (PyData.eqv p r))) os) : BW K (rEqD K) (.d x) (.d y) os Q :=
  bw_pure (fun as H v u Q' R rx ry k => ⟨p, r, Dx.dp rx hx, Dx.dp ry hy, sp, sr, k _ (.bl _)⟩) q
theorem bw_neD {x y : D} {p r : PyData} (hx : x.py = some p) (hy : y.py = some r) (sp : SeqAt.shaped p = true) (sr : SeqAt.shaped r = true) (q : Q (.d (.bl (!PyData.eqv p r))) os) : BW K (rNeD K) (.d x) (.d y) os Q :=
  bw_pure (fun as H v u Q' R rx ry k => ⟨p, r, Dx.dp rx hx, Dx.dp ry hy, sp, sr, k _ (.bl _)⟩) q
/-- an item -/
theorem DxA.atI {as : List Addr} {H : Hp} {vs : List V} {ds : List D} {i : Int} {z : D} (r : DxA K as H vs ds) (h : L2.atI ds i = some z) : ∃ u, L2.atI vs i = some u ∧ Dx K as H u z := by
  unfold L2.atI at h ⊢
  rw [r.length]
  cases e : ixN ds.length i with
  | none => rw [e] at h; cases h
  | some j =>
    rw [e] at h
    exact r.get h
theorem bw_ixL {xs : List D} {i : Int} {z : D} (h : L2.atI xs i = some z) (q : Q (.d z) os) : BW K (rIxL K) (.d (.lst xs)) (.d (.int i)) os Q :=
  bw_pure (fun as H v u Q' R rx ry k => by
    cases rx with
    | lst hl hr =>
      cases ry
      obtain ⟨u, e, r⟩ := hr.atI h
      exact ⟨_, _, i, u, rfl, rfl, hl.sq, e, k _ r⟩) q
theorem bw_ixT {xs : List D} {i : Int} {z : D} (h : L2.atI xs i = some z) (q : Q (.d z) os) : BW K (rIxT K) (.d (.tup xs)) (.d (.int i)) os Q :=
  bw_pure (fun as H v u Q' R rx ry k => by
    cases rx with
    | tup hl hr =>
      cases ry
      obtain ⟨u, e, r⟩ := hr.atI h
      exact ⟨_, _, i, u, rfl, rfl, hl.sq, e, k _ r⟩) q
theorem bw_ixS {s : Str} {i : Int} {c : Nat} (hz : s.length ≤ sizeLine) (h : L2.atI s.cps.toList i = some c) (q : Q (.d (.str ⟨#[c]⟩)) os) : BW K rIxS (.d (.str s)) (.d (.int i)) os Q :=
  bw_pure (fun as H v u Q' R rx ry k => by
    cases rx
    cases ry
    exact ⟨s, i, c, rfl, rfl, hz, h, k _ (.str _)⟩) q
/-- lengths -/
def rLen (K : PySem.W.Frag) : List V → Hp → VK → Prop := fun xs H Q => ∃ p ys, xs = [.ref p] ∧ (SqL K H p ys ∨ SqT K H p ys) ∧ Q (.int ys.length) H
def rLenT : List V → Hp → VK → Prop := fun xs H Q => ∃ z, xs = [.str z] ∧ z.length ≤ sizeLine ∧ Q (.int z.length) H
theorem cw_lenL {xs : List D} (q : Q (.d (.int (xs.length : Int))) os) : CW K (rLen K) [.d (.lst xs)] os Q :=
  cw_pure (fun as H vs Q' R r k => by
    cases r with
    | cons h t =>
      cases t
      cases h with
      | lst hl hr =>
        refine ⟨_, _, rfl, .inl hl.sq, ?_⟩
        rw [hr.length]
        exact k _ (.int _)) q
theorem cw_lenU {xs : List D} (q : Q (.d (.int (xs.length : Int))) os) : CW K (rLen K) [.d (.tup xs)] os Q :=
  cw_pure (fun as H vs Q' R r k => by
    cases r with
    | cons h t =>
      cases t
      cases h with
      | tup hl hr =>
        refine ⟨_, _, rfl, .inr hl.sq, ?_⟩
        rw [hr.length]
        exact k _ (.int _)) q
theorem cw_lenS {z : Str} (hz : z.length ≤ sizeLine) (q : Q (.d (.int (z.length : Int))) os) : CW K rLenT [.d (.str z)] os Q :=
  cw_pure (fun as H vs Q' R r k => by
    cases r with
    | cons h t =>
      cases t
      cases h
      exact ⟨z, rfl, hz, k _ (.int _)⟩) q
/-- tuple(a list), list(..) -/
def rTupOf (K : PySem.W.Frag) : List V → Hp → VK → Prop := fun xs H Q => ∃ p ys, xs = [.ref p] ∧ ((SqL K H p ys ∧ ∀ l, H l = none → Q (.ref l) (upd H l (.tup ys))) ∨ (SqT K H p ys ∧ Q (.ref p) H))
theorem dx_newT {as : List Addr} {H : Hp} {p : Addr} {vs : List V} {ds : List D} (R : Ro K as H os) (hp : H p = none) (r : DxA K as H vs ds) : Dx K as (upd H p (.tup vs)) (.ref p) (.tup ds) :=
  .tup (.inl ⟨R.notin hp, .inl upd_same⟩) (r.way (Way.of_go (Go.new hp)))
theorem dx_newL {as : List Addr} {H : Hp} {p : Addr} {vs : List V} {ds : List D} (R : Ro K as H os) (hp : H p = none) (r : DxA K as H vs ds) : Dx K as (upd H p (.lst vs)) (.ref p) (.lst ds) :=
  .lst (.inl ⟨R.notin hp, .inl upd_same⟩) (r.way (Way.of_go (Go.new hp)))
theorem cw_tupL {xs : List D} (q : Q (.d (.tup xs)) os) : CW K (rTupOf K) [.d (.lst xs)] os Q :=
  cw_new (fun as H vs Q' R r k1 k2 => by
    cases r with
    | cons h t =>
      cases t
      cases h with
      | lst hl hr => exact ⟨_, _, rfl, .inl ⟨hl.sq, fun l hl => k1 l _ hl (dx_newT R hl hr)⟩⟩) q
theorem cw_tupU {xs : List D} (q : Q (.d (.tup xs)) os) : CW K (rTupOf K) [.d (.tup xs)] os Q :=
  cw_new (fun as H vs Q' R r k1 k2 => by
    cases r with
    | cons h t =>
      cases t
      cases h with
      | tup hl hr => exact ⟨_, _, rfl, .inr ⟨hl.sq, k2 _ (.tup hl hr)⟩⟩) q
def rListOf (K : PySem.W.Frag) : List V → Hp → VK → Prop := fun xs H Q => ∃ p ys, xs = [.ref p] ∧ (SqL K H p ys ∨ SqT K H p ys) ∧ ∀ l, H l = none → Q (.ref l) (upd H l (.lst ys))
theorem cw_lstL {xs : List D} (q : Q (.d (.lst xs)) os) : CW K (rListOf K) [.d (.lst xs)] os Q :=
  cw_new (fun as H vs Q' R r k1 k2 => by
    cases r with
    | cons h t =>
      cases t
      cases h with
      | lst hl hr => exact ⟨_, _, rfl, .inl hl.sq, fun l hl => k1 l _ hl (dx_newL R hl hr)⟩) q
theorem cw_lstU {xs : List D} (q : Q (.d (.lst xs)) os) : CW K (rListOf K) [.d (.tup xs)] os Q :=
  cw_new (fun as H vs Q' R r k1 k2 => by
    cases r with
    | cons h t =>
      cases t
      cases h with
      | tup hl hr => exact ⟨_, _, rfl, .inr hl.sq, fun l hl => k1 l _ hl (dx_newL R hl hr)⟩) q
/-- abs, min, max, int -/
def rAbs : List V → Hp → VK → Prop := fun xs H Q => ∃ i, xs = [.int i] ∧ Q (.int (if i < 0 then -i else i)) H
theorem cw_abs {i : Int} (q : Q (.d (.int (if i < 0 then -i else i))) os) : CW K rAbs [.d (.int i)] os Q :=
  cw_pure (fun as H vs Q' R r k => by
    cases r with
    | cons h t =>
      cases t
      cases h
      exact ⟨i, rfl, k _ (.int _)⟩) q
def rMin2 : List V → Hp → VK → Prop := fun xs H Q => ∃ i j, xs = [.int i, .int j] ∧ Q (.int (if j < i then j else i)) H
theorem cw_min2 {i j : Int} (q : Q (.d (.int (if j < i then j else i))) os) : CW K rMin2 [.d (.int i), .d (.int j)] os Q :=
  cw_pure (fun as H vs Q' R r k => by
    cases r with
    | cons h t =>
      cases t with
      | cons h2 t =>
        cases t
        cases h
        cases h2
        exact ⟨i, j, rfl, k _ (.int _)⟩) q
def rInt1 : List V → Hp → VK → Prop := fun xs H Q => (∃ i, xs = [.int i] ∧ Q (.int i) H) ∨ ∃ k, xs = [.bl k] ∧ Q (.int (if k then 1 else 0)) H
theorem cw_intI {i : Int} (q : Q (.d (.int i)) os) : CW K rInt1 [.d (.int i)] os Q :=
  cw_pure (fun as H vs Q' R r k => by
    cases r with
    | cons h t =>
      cases t
      cases h
      exact .inl ⟨i, rfl, k _ (.int _)⟩) q
theorem cw_intB {b : Bool} (q : Q (.d (.int (if b then 1 else 0))) os) : CW K rInt1 [.d (.bl b)] os Q :=
  cw_pure (fun as H vs Q' R r k => by
    cases r with
    | cons h t =>
      cases t
      cases h
      exact .inr ⟨b, rfl, k _ (.int _)⟩) q
end
section
variable {X : Cx}
theorem op_addS : OpR X (binaryOp .Add) rCatS := op_add_str
theorem call_lenA : CallR X (.builtin "len") (rLen X.K) := call_len_seq
theorem call_lenS1 : CallR X (.builtin "len") rLenT := call_len_str
theorem call_tupA : CallR X (.type "tuple") (rTupOf X.K) := call_tuple_of
theorem call_lstA : CallR X (.type "list") (rListOf X.K) := call_list_of
theorem call_absA (hc : X.calm = true) : CallR X (.builtin "abs") rAbs := by first | exact call_abs | exact call_abs hc
theorem call_min2A (hc : X.calm = true) : CallR X (.builtin "min") rMin2 := call_min2 hc
theorem call_intA : CallR X (.type "int") rInt1 := call_int1
end

/-! ### displays, slices -/
section
variable {K : PySem.W.Frag} {X : Xc} {S : Sa} {Q : Sv → Os → Prop} {ta : TA} {te : TE} {tl th : TO}
inductive AllD : List Sv → List D → Prop
  | nil : AllD [] []
  | cons {x : D} {xs : List Sv} {ds : List D} : AllD xs ds → AllD (.d x :: xs) (x :: ds)
theorem AllD.dx {as : List Addr} {H : Hp} : ∀ {vs : List V} {xs : List Sv} {ds : List D}, AllD xs ds → SvA K as H vs xs → DxA K as H vs ds
  | _, _, _, .nil, .nil => .nil
  | _, _, _, .cons a, .cons h r => .cons h (AllD.dx a r)
theorem ew_lst (h : AW K X ta S fun xs os => ∃ ds, AllD xs ds ∧ ds.length ≤ sizeLine ∧ Q (.d (.lst ds)) os) : EW K X (tLst ta) S Q := fun as H σ Q' R x k =>
  h as H σ _ R x fun vs H1 xs os1 g1 R1 r1 ⟨ds, a, hl, q⟩ => ⟨by rw [(a.dx r1).length]; exact hl, fun p hp => k (.ref p) _ (.d (.lst ds)) os1 (g1.trans (Go.new hp)) (R1.new hp) (dx_newL R1 hp (a.dx r1)) q⟩
theorem ew_tup (h : AW K X ta S fun xs os => ∃ ds, AllD xs ds ∧ ds.length ≤ sizeLine ∧ Q (.d (.tup ds)) os) : EW K X (tTup ta) S Q := fun as H σ Q' R x k =>
  h as H σ _ R x fun vs H1 xs os1 g1 R1 r1 ⟨ds, a, hl, q⟩ => ⟨by rw [(a.dx r1).length]; exact hl, fun p hp => k (.ref p) _ (.d (.tup ds)) os1 (g1.trans (Go.new hp)) (R1.new hp) (dx_newT R1 hp (a.dx r1)) q⟩
theorem ow_none {Q : Option Int → Os → Prop} (q : Q none S.os) : OW K X tNoPart S Q := fun as H σ Q' R x k => k none H S.os (Go.refl _ _) R.o q
theorem ow_some {Q : Option Int → Os → Prop} (h : EW K X te S fun x os => ∃ i, x = .d (.int i) ∧ Q (some i) os) : OW K X (tPart te) S Q := fun as H σ Q' R x k =>
  h as H σ _ R x fun v H1 d os1 g1 R1 r1 ⟨i, e, q⟩ => by
    subst e
    cases r1
    exact ⟨i, rfl, k (some i) H1 os1 g1 R1 q⟩
def SW (K : PySem.W.Frag) (r : V → Option Int → Option Int → Hp → VK → Prop) (x : Sv) (lo hi : Option Int) (os : Os) (Q : Sv → Os → Prop) : Prop :=
  ∀ as H v (Q' : VK), Ro K as H os → SvR K as H v x → (∀ z H' d os', Go as H H' → Ro K as H' os' → SvR K as H' z d → Q d os' → Q' z H') → r v lo hi H Q'
theorem ew_sl {r : V → Option Int → Option Int → Hp → VK → Prop} (h : EW K X te S fun x os1 => OW K X tl ⟨S.s, os1⟩ fun lo os2 => OW K X th ⟨S.s, os2⟩ fun hi os3 => SW K r x lo hi os3 Q) : EW K X (tSl r te tl th) S Q := fun as H σ Q' R x k =>
  h as H σ _ R x fun v H1 d os1 g1 R1 r1 q1 => q1 as H1 σ _ (R.go g1 R1) (x.go g1 R1) fun lo H2 os2 g2 R2 q2 => q2 as H2 σ _ (R.go (g1.trans g2) R2) (x.go (g1.trans g2) R2) fun hi H3 os3 g3 R3 q3 =>
    q3 as H3 v Q' R3 (r1.go (g2.trans g3)) fun z H4 e os4 g4 R4 r4 q4 => k z H4 e os4 (((g1.trans g2).trans g3).trans g4) R4 r4 q4
theorem sw_S {z : Str} {lo hi : Option Int} {os : Os} (hz : z.length ≤ sizeLine) (q : Q (.d (.str (cutS z lo hi))) os) : SW K rSlS (.d (.str z)) lo hi os Q := fun as H v Q' R r k => by
  cases r
  exact ⟨z, rfl, hz, k _ H (.d (.str _)) os (Go.refl _ _) R (Dx.str _) q⟩
def cutD (xs : List D) (lo hi : Option Int) : List D := (xs.drop (HT.sIx xs.length 0 lo)).take (HT.sIx xs.length xs.length hi - HT.sIx xs.length 0 lo)
theorem cut_dx {as : List Addr} {H : Hp} {vs : List V} {ds : List D} (r : DxA K as H vs ds) (lo hi : Option Int) : DxA K as H (cutV vs lo hi) (cutD ds lo hi) := by
  unfold cutV cutD
  rw [r.length]
  exact (r.drop _).take _
theorem sw_L {xs : List D} {lo hi : Option Int} {os : Os} (q : Q (.d (.lst (cutD xs lo hi))) os) : SW K (rSlL K) (.d (.lst xs)) lo hi os Q := fun as H v Q' R r k => by
  cases r with
  | lst hl hr => exact ⟨_, _, rfl, hl.sq, fun p hp => k _ _ (.d (.lst _)) os (Go.new hp) (R.new hp) (dx_newL R hp (cut_dx hr lo hi)) q⟩
end
end Br

/-! BrC: what is walked, targets, loops, comprehensions, the store's dicts and lists. -/
namespace Br
open PySem L2

/-! ### what is walked -/
/-- J walks over ds, whatever comes later -/
def ItD (K : PySem.W.Frag) (J : It) (as : List Addr) (H : Hp) (ds : List D) : Prop :=
  ∀ bs H2 os, Stp as H bs H2 → Ro K bs H2 os → ∀ i, (∀ d, ds[i]? = some d → J.go i H2 ∧ ∀ x H3, J.yld i H2 x H3 → Go bs H2 H3 ∧ Ro K bs H3 os ∧ Dx K bs H3 x d) ∧ (ds.length ≤ i → J.stop i H2)
def IW (K : PySem.W.Frag) (X : Xc) (wi : TI) (S : Sa) (Q : List D → Os → Prop) : Prop :=
  ∀ as H σ (R' : It → Hp → Prop), Re K as H σ S → XH K X as H σ S.s → (∀ J H' ds os', Go as H H' → Ro K as H' os' → ItD K J as H' ds → Q ds os' → R' J H') → wi σ H R'
section
variable {K : PySem.W.Frag} {X : Xc} {S : Sa} {tl : TE} {ta : TA} {Q : List D → Os → Prop}
theorem iw_list (h : EW K X tl S fun x os => ∃ ds, x = .d (.lst ds) ∧ Q ds os) : IW K X (iList K tl) S Q := fun as H σ R' R x k =>
  h as H σ _ R x fun v H1 d os1 g1 R1 r1 ⟨ds, e, q⟩ => by
    subst e
    cases r1 with
    | @lst a xs _ hl hr =>
      refine ⟨a, rfl, ⟨xs, hl.sq⟩, k (Itl K a) H1 ds os1 g1 R1 (fun bs H2 os s R2 i => ?_) q⟩
      have hl2 := s.way.l _ _ hl
      have hr2 := hr.way s.way
      refine ⟨fun d hd => ?_, fun hn => ⟨xs, hl2.sq, by rw [hr.length]; exact hn⟩⟩
      obtain ⟨u, e1, e2⟩ := hr2.get hd
      refine ⟨⟨xs, u, hl2.sq, e1⟩, fun y H3 hy => ?_⟩
      obtain ⟨rfl, hy⟩ := hy
      have z := hy xs hl2.sq
      rw [e1] at z
      cases z
      exact ⟨Go.refl _ _, R2, e2⟩
theorem iw_tup (h : EW K X tl S fun x os => ∃ ds, x = .d (.tup ds) ∧ Q ds os) : IW K X (iTup K tl) S Q := fun as H σ R' R x k =>
  h as H σ _ R x fun v H1 d os1 g1 R1 r1 ⟨ds, e, q⟩ => by
    subst e
    cases r1 with
    | @tup a xs _ hl hr =>
      refine ⟨a, rfl, ⟨xs, hl.sq⟩, k (Itt K a) H1 ds os1 g1 R1 (fun bs H2 os s R2 i => ?_) q⟩
      have hl2 := s.way.t _ _ hl
      have hr2 := hr.way s.way
      refine ⟨fun d hd => ?_, fun hn => ⟨xs, hl2.sq, by rw [hr.length]; exact hn⟩⟩
      obtain ⟨u, e1, e2⟩ := hr2.get hd
      refine ⟨⟨xs, u, hl2.sq, e1⟩, fun y H3 hy => ?_⟩
      obtain ⟨rfl, hy⟩ := hy
      have z := hy xs hl2.sq
      rw [e1] at z
      cases z
      exact ⟨Go.refl _ _, R2, e2⟩
/-- lo, lo + c, .. -/
def rngD (lo c : Int) (n : Nat) : List D := (List.range n).map fun i => D.int (lo + (i : Nat) * c)
theorem rngD_get {lo c : Int} {n i : Nat} {d : D} (h : (rngD lo c n)[i]? = some d) : i < n ∧ d = .int (lo + (i : Nat) * c) := by
  unfold rngD at h
  rw [List.getElem?_map] at h
  obtain ⟨j, h1, h2⟩ := Option.map_eq_some_iff.mp h
  obtain ⟨h3, h4⟩ := List.getElem?_eq_some_iff.mp h1
  rw [List.getElem_range] at h4
  rw [List.length_range] at h3
  subst h4
  exact ⟨h3, h2.symm⟩
theorem rngD_len {lo c : Int} {n : Nat} : (rngD lo c n).length = n := by unfold rngD; simp
theorem iw_rng1 (h : AW K X ta S fun xs os => ∃ j : Int, xs = [.d (.int j)] ∧ -(2 ^ 62) ≤ j ∧ j < 2 ^ 62 ∧ Q (rngD 0 1 j.toNat) os) : IW K X (iRng1 ta) S Q := fun as H σ R' R x k =>
  h as H σ _ R x fun vs H1 ds os1 g1 R1 r1 ⟨j, e, h1, h2, q⟩ => by
    subst e
    cases r1 with
    | cons r1 rn =>
      cases rn
      cases r1
      refine ⟨j, rfl, h1, h2, k _ H1 _ os1 g1 R1 (fun bs H2 os s R2 i => ⟨fun d hd => ?_, fun hn => ?_⟩) q⟩
      · obtain ⟨hi, rfl⟩ := rngD_get hd
        refine ⟨hi, fun y H3 hy => ?_⟩
        obtain ⟨rfl, rfl⟩ := hy
        refine ⟨Go.refl _ _, R2, ?_⟩
        rw [Int.mul_one]
        exact .int _
      · rw [rngD_len] at hn
        exact hn
theorem iw_rng2 (h : AW K X ta S fun xs os => ∃ i j : Int, xs = [.d (.int i), .d (.int j)] ∧ (-(2 ^ 62) ≤ i ∧ i < 2 ^ 62 ∧ -(2 ^ 62) ≤ j ∧ j < 2 ^ 62) ∧ Q (rngD i 1 (j - i).toNat) os) : IW K X (iRng2 ta) S Q := fun as H σ R' R x k =>
  h as H σ _ R x fun vs H1 ds os1 g1 R1 r1 ⟨i0, j, e, h1, q⟩ => by
    subst e
    cases r1 with
    | cons r1 rn =>
      cases rn with
      | cons r2 rn =>
        cases rn
        cases r1
        cases r2
        refine ⟨i0, j, rfl, h1, k _ H1 _ os1 g1 R1 (fun bs H2 os s R2 i => ⟨fun d hd => ?_, fun hn => ?_⟩) q⟩
        · obtain ⟨hi, rfl⟩ := rngD_get hd
          refine ⟨hi, fun y H3 hy => ?_⟩
          obtain ⟨rfl, rfl⟩ := hy
          refine ⟨Go.refl _ _, R2, ?_⟩
          rw [Int.mul_one]
          exact .int _
        · rw [rngD_len] at hn
          exact hn
theorem iw_rng3 (h : AW K X ta S fun xs os => ∃ (i j c : Int) (n : Nat), xs = [.d (.int i), .d (.int j), .d (.int c)] ∧ RgC i j c n ∧ Q (rngD i c n) os) : IW K X (iRng3 ta) S Q := fun as H σ R' R x k =>
  h as H σ _ R x fun vs H1 ds os1 g1 R1 r1 ⟨i0, j, c, n, e, h1, q⟩ => by
    subst e
    cases r1 with
    | cons r1 rn =>
      cases rn with
      | cons r2 rn =>
        cases rn with
        | cons r3 rn =>
          cases rn
          cases r1
          cases r2
          cases r3
          refine ⟨i0, j, c, n, rfl, h1, k _ H1 _ os1 g1 R1 (fun bs H2 os s R2 i => ⟨fun d hd => ?_, fun hn => ?_⟩) q⟩
          · obtain ⟨hi, rfl⟩ := rngD_get hd
            refine ⟨hi, fun y H3 hy => ?_⟩
            obtain ⟨rfl, rfl⟩ := hy
            exact ⟨Go.refl _ _, R2, .int _⟩
          · rw [rngD_len] at hn
            exact hn
theorem iw_str (h : EW K X tl S fun x os => ∃ z : Str, x = .d (.str z) ∧ Q (z.cps.toList.map fun c => D.str ⟨#[c]⟩) os) : IW K X (iStr tl) S Q := fun as H σ R' R x k =>
  h as H σ _ R x fun v H1 d os1 g1 R1 r1 ⟨z, e, q⟩ => by
    subst e
    cases r1
    refine ⟨z, rfl, k (Its z) H1 _ os1 g1 R1 (fun bs H2 os s R2 i => ⟨fun d hd => ?_, fun hn => ?_⟩) q⟩
    · rw [List.getElem?_map] at hd
      obtain ⟨c, h1, h2⟩ := Option.map_eq_some_iff.mp hd
      have h1' : z.cps[i]? = some c := by rw [← Array.getElem?_toList]; exact h1
      have hi : i < z.cps.size := (Array.getElem?_eq_some_iff.mp h1').1
      refine ⟨hi, fun y H3 hy => ?_⟩
      obtain ⟨rfl, c', e1, rfl⟩ := hy
      rw [h1'] at e1
      cases e1
      subst h2
      exact ⟨Go.refl _ _, R2, .str _⟩
    · rw [List.length_map, Array.length_toList] at hn
      exact hn
end

/-! ### targets -/
def GW (K : PySem.W.Frag) (g : TG) (d : Sv) (S : Sa) (Q : Sa → Prop) : Prop :=
  ∀ as H σ v (Q' : St → Hp → Prop), Re K as H σ S → SvR K as H v d → (∀ σ' S', Re K as H σ' S' → Q S' → Q' σ' H) → g v σ H Q'
def GsW (K : PySem.W.Frag) (g : TGs) (ds : List D) (S : Sa) (Q : Sa → Prop) : Prop :=
  ∀ as H σ vs (Q' : St → Hp → Prop), Re K as H σ S → DxA K as H vs ds → (∀ σ' S', Re K as H σ' S' → Q S' → Q' σ' H) → g vs σ H Q'
section
variable {K : PySem.W.Frag} {X : Xc} {S : Sa} {Q : Sa → Prop} {g : TG} {gs : TGs}
theorem gw_name {j : Nat} {d : Sv} (q : Q ⟨S.s.set j (some d), S.os⟩) : GW K (gName j) d S Q := fun as H σ v Q' R r k => k _ _ (R.set j r) q
theorem gw_tup {n : Nat} {xs : List D} (hn : xs.length = n) (h : GsW K gs xs S Q) : GW K (gTup K n gs) (.d (.tup xs)) S Q := fun as H σ v Q' R r k => by
  cases r with
  | tup hl hr => exact ⟨_, _, rfl, hl.sq, by rw [hr.length]; exact hn, h as H σ _ Q' R hr k⟩
theorem gs_nil (q : Q S) : GsW K gNil [] S Q := fun as H σ vs Q' R r k => by
  cases r
  exact ⟨rfl, k σ S R q⟩
theorem gs_cons {d : D} {ds : List D} (h : GW K g (.d d) S fun S' => GsW K gs ds S' Q) : GsW K (gCons g gs) (d :: ds) S Q := fun as H σ vs Q' R r k => by
  cases r with
  | cons r1 r2 => exact ⟨_, _, rfl, h as H σ _ _ R r1 fun σ' S' R' q => q as H σ' _ Q' R' r2 k⟩
/-- x, y = e -/
theorem w_asgG {te : TE} {E : Ea} (h : EW K X te S fun d os => GW K g d ⟨S.s, os⟩ E.nx) : W K X (tAsg te g) E S := fun as H σ D R x n r b c =>
  h as H σ _ R (x.h R) fun v H1 d os1 g1 R1 r1 q1 => q1 as H1 σ v _ (R.go g1 R1) r1 fun σ' S' R' q => n as H1 σ' S' (Stp.of_go g1 R1) R' q
theorem w_par {i j : Nat} {ta : TA} {E : Ea} (h : AW K X ta S fun ds os => ∃ x y, ds = [x, y] ∧ E.nx ⟨(S.s.set i (some x)).set j (some y), os⟩) : W K X (tPar i j ta) E S := fun as H σ D R x n r b c =>
  h as H σ _ R (x.h R) fun vs H1 ds os1 g1 R1 r1 ⟨y, z, e, q⟩ => by
    subst e
    cases r1 with
    | cons r1 rn =>
      cases rn with
      | cons r2 rn =>
        cases rn
        exact ⟨_, _, rfl, n as H1 _ _ (Stp.of_go g1 R1) (((R.go g1 R1).set i r1).set j r2) q⟩
end

/-! ### for -/
section
variable {K : PySem.W.Frag} {X : Xc} {S : Sa} {E : Ea} {wi : TI} {g : TG} {tb : TS}
theorem w_for (h : IW K X wi S fun ds os => ∃ Pv : Nat → Sa → Prop, Pv 0 ⟨S.s, os⟩ ∧
      (∀ i d S', ds[i]? = some d → Pv i S' → GW K g (.d d) S' (W K X tb { nx := Pv (i + 1), ct := Pv (i + 1), bk := E.nx, rt := E.rt })) ∧ ∀ S', Pv ds.length S' → E.nx S') : W K X (tFor wi g tb) E S := fun as H σ D R x n r b c =>
  h as H σ _ R (x.h R) fun J H1 ds os1 g1 R1 it ⟨Pv, p0, turn, fin⟩ => by
    have s1 : Stp as H as H1 := Stp.of_go g1 R1
    refine ⟨fun i m σ H2 => m = ds.length - i ∧ i ≤ ds.length ∧ ∃ bs S', Stp as H1 bs H2 ∧ Re K bs H2 σ S' ∧ Pv i S', ⟨_, rfl, Nat.zero_le _, as, _, Stp.refl, R.go g1 R1, p0⟩, ?_⟩
    rintro i m σ2 H2 ⟨rfl, hi, bs, S2, s2, R2, p⟩
    by_cases hlt : i < ds.length
    · have hd : ds[i]? = some ds[i] := List.getElem?_eq_getElem hlt
      obtain ⟨hgo, hy⟩ := (it bs H2 S2.os s2 R2.o i).1 _ hd
      refine .inr ⟨hgo, fun σ' H' => ∃ cs S', Stp as H1 cs H' ∧ Re K cs H' σ' S' ∧ Pv (i + 1) S', fun σ' H' z => ⟨ds.length - (i + 1), by omega, rfl, hlt, z⟩, fun y H3 hyl => ?_⟩
      obtain ⟨g3, R3, r3⟩ := hy y H3 hyl
      have s3 : Stp bs H2 bs H3 := Stp.of_go g3 R3
      refine turn i _ S2 hd p bs H3 σ2 y _ (R2.go g3 R3) r3 fun σ4 S4 R4 w => ?_
      refine w bs H3 σ4 _ R4 ((x.stp s1).stp (s2.trans s3)) (fun cs H5 σ5 S5 s5 R5 q5 => ⟨cs, S5, (s2.trans s3).trans s5, R5, q5⟩) (fun cs H5 v d os5 s5 R5 r5 q5 => r cs H5 v d os5 (((s1.trans s2).trans s3).trans s5) R5 r5 q5)
        (fun cs H5 σ5 S5 s5 R5 q5 => n cs H5 σ5 S5 (((s1.trans s2).trans s3).trans s5) R5 q5) (fun cs H5 σ5 S5 s5 R5 q5 => ⟨cs, S5, (s2.trans s3).trans s5, R5, q5⟩)
    · have e : i = ds.length := by omega
      subst e
      exact .inl ⟨(it bs H2 S2.os s2 R2.o _).2 (Nat.le_refl _), n bs H2 σ2 S2 (s1.trans s2) R2 (fin S2 p)⟩
/-- while, by a word that falls -/
theorem w_while {tc : TT} (Pv : Nat → Sa → Prop) (m0 : Nat) (p0 : Pv m0 S)
    (turn : ∀ m S', Pv m S' → TW K X tc S' fun b os => if b = true then W K X tb { nx := fun S2 => ∃ m', m' < m ∧ Pv m' S2, ct := fun S2 => ∃ m', m' < m ∧ Pv m' S2, bk := E.nx, rt := E.rt } ⟨S'.s, os⟩ else E.nx ⟨S'.s, os⟩) : W K X (tWhile tc tb) E S := fun as H σ D R x n r b c => by
  refine ⟨fun m σ H2 => ∃ bs S', Stp as H bs H2 ∧ Re K bs H2 σ S' ∧ Pv m S', ⟨m0, as, S, Stp.refl, R, p0⟩, ?_⟩
  rintro m σ2 H2 ⟨bs, S2, s2, R2, p⟩
  refine turn m S2 p bs H2 σ2 _ R2 ((x.stp s2).h R2) fun y H3 os3 g3 R3 q => ?_
  have s3 : Stp bs H2 bs H3 := Stp.of_go g3 R3
  cases y with
  | false =>
    show D.nx σ2 H3
    exact n bs H3 σ2 _ (s2.trans s3) (R2.go g3 R3) q
  | true =>
    show ∃ N : St → Hp → Prop, _
    refine ⟨fun σ' H' => ∃ m', m' < m ∧ ∃ cs S', Stp as H cs H' ∧ Re K cs H' σ' S' ∧ Pv m' S', fun σ' H' ⟨m', l, z⟩ => ⟨m', l, z⟩, ?_⟩
    refine (show W K X tb _ _ from q) bs H3 σ2 _ (R2.go g3 R3) (x.stp (s2.trans s3)) (fun cs H5 σ5 S5 s5 R5 ⟨m', l, q5⟩ => ⟨m', l, cs, S5, (s2.trans s3).trans s5, R5, q5⟩) (fun cs H5 v d os5 s5 R5 r5 q5 => r cs H5 v d os5 ((s2.trans s3).trans s5) R5 r5 q5)
      (fun cs H5 σ5 S5 s5 R5 q5 => n cs H5 σ5 S5 ((s2.trans s3).trans s5) R5 q5) (fun cs H5 σ5 S5 s5 R5 ⟨m', l, q5⟩ => ⟨m', l, cs, S5, (s2.trans s3).trans s5, R5, q5⟩)
end

/-! ### comprehensions -/
def wipeS (s : Sl) : List Nat → Sl
  | [] => s
  | v :: vs => (wipeS s vs).set v none
section
variable {K : PySem.W.Frag} {X : Xc} {S : Sa} {Q : Sv → Os → Prop} {wi : TI} {g : TG} {tt : TT} {te : TE}
theorem wipe_in {σ : St} {i : Nat} : ∀ {vs : List Nat}, i ∈ vs → (wipe σ vs)[i]? = if i < σ.length then some none else none
  | [], h => nomatch h
  | v :: vs, h => by
    show ((wipe σ vs).set v none)[i]? = _
    by_cases hv : v = i
    · subst hv
      rw [List.getElem?_set, wipe_length]
      simp
    · rw [List.getElem?_set_ne hv]
      rcases List.mem_cons.mp h with e | h
      · exact absurd e.symm hv
      · exact wipe_in h
theorem wipe_out1 {σ : St} {i : Nat} : ∀ {vs : List Nat}, i ∉ vs → (wipe σ vs)[i]? = σ[i]?
  | [], _ => rfl
  | v :: vs, h => by
    have h1 : v ≠ i := fun e => h (by rw [e]; exact List.mem_cons_self)
    show ((wipe σ vs).set v none)[i]? = _
    rw [List.getElem?_set_ne h1]
    exact wipe_out1 fun z => h (List.mem_cons_of_mem _ z)
theorem wipe_ext {σ τ : St} {vs : List Nat} (hl : τ.length = σ.length) (h : ∀ i, i ∉ vs → τ[i]? = σ[i]?) : wipe τ vs = wipe σ vs := by
  refine List.ext_getElem? fun i => ?_
  by_cases hi : i ∈ vs
  · rw [wipe_in hi, wipe_in hi, hl]
  · rw [wipe_out1 hi, wipe_out1 hi, h i hi]
theorem re_wipe {as : List Addr} {H : Hp} {σ : St} {s : Sl} {os : Os} : ∀ {vs : List Nat}, Re K as H σ ⟨s, os⟩ → Re K as H (wipe σ vs) ⟨wipeS s vs, os⟩
  | [], R => R
  | v :: vs, R => by
    have ih := re_wipe (vs := vs) R
    refine ⟨R.o, by show ((wipe σ vs).set v none).length = ((wipeS s vs).set v none).length; simpa using ih.slen, fun i d h => ?_⟩
    have h' : ((wipeS s vs).set v none)[i]? = some (some d) := h
    by_cases hv : v = i
    · subst hv
      by_cases hl : v < (wipeS s vs).length
      · rw [List.getElem?_set_self hl] at h'
        cases h'
      · rw [List.getElem?_eq_none (by simpa using hl)] at h'
        cases h'
    · rw [List.getElem?_set_ne hv] at h'
      obtain ⟨u, e, r⟩ := ih.slot i d h'
      exact ⟨u, by show ((wipe σ vs).set v none)[i]? = _; rw [List.getElem?_set_ne hv]; exact e, r⟩
/-- a target that stores at vs alone -/
def Wg (g : TG) (vs : List Nat) : Prop := ∀ v σ H Q, g v σ H Q → g v σ H fun σ2 H2 => Q σ2 H2 ∧ σ2.length = σ.length ∧ ∀ i, i ∉ vs → σ2[i]? = σ[i]?
def Wgs (g : TGs) (vs : List Nat) : Prop := ∀ v σ H Q, g v σ H Q → g v σ H fun σ2 H2 => Q σ2 H2 ∧ σ2.length = σ.length ∧ ∀ i, i ∉ vs → σ2[i]? = σ[i]?
theorem wg_name {j : Nat} {vs : List Nat} (h : j ∈ vs) : Wg (gName j) vs := fun v σ H Q q => ⟨q, by simp, fun i hi => List.getElem?_set_ne fun (e : j = i) => hi (e ▸ h)⟩
theorem wgs_nil {vs : List Nat} : Wgs gNil vs := fun v σ H Q q => ⟨q.1, q.2, rfl, fun _ _ => rfl⟩
/-- what follows may be widened -/
def Mg (g : TG) : Prop := ∀ v σ H (Q Q' : St → Hp → Prop), (∀ σ H, Q σ H → Q' σ H) → g v σ H Q → g v σ H Q'
def Mgs (g : TGs) : Prop := ∀ v σ H (Q Q' : St → Hp → Prop), (∀ σ H, Q σ H → Q' σ H) → g v σ H Q → g v σ H Q'
theorem mg_name {j : Nat} : Mg (gName j) := fun v σ H Q Q' k q => k _ _ q
theorem mgs_nil : Mgs gNil := fun v σ H Q Q' k q => ⟨q.1, k _ _ q.2⟩
theorem mgs_cons {g : TG} {gs : TGs} (a : Mg g) (b : Mgs gs) : Mgs (gCons g gs) := fun v σ H Q Q' k ⟨x, r, e, q⟩ => ⟨x, r, e, a _ _ _ _ _ (fun σ2 H2 z => b _ _ _ _ _ k z) q⟩
theorem mg_tup {n : Nat} {gs : TGs} (b : Mgs gs) : Mg (gTup K n gs) := fun v σ H Q Q' k ⟨a, xs, e1, e2, e3, q⟩ => ⟨a, xs, e1, e2, e3, b _ _ _ _ _ k q⟩
theorem wgs_cons {g : TG} {gs : TGs} {vs : List Nat} (m : Mg g) (mb : Mgs gs) (a : Wg g vs) (b : Wgs gs vs) : Wgs (gCons g gs) vs := fun v σ H Q ⟨x, r, e, q⟩ =>
  ⟨x, r, e, m _ _ _ _ _ (fun σ2 H2 ⟨z, l, o⟩ => mb _ _ _ _ _ (fun σ3 H3 ⟨y, l2, o2⟩ => ⟨y, l2.trans l, fun i hi => (o2 i hi).trans (o i hi)⟩) (b _ _ _ _ z)) (a _ _ _ _ q)⟩
theorem wg_tup {n : Nat} {gs : TGs} {vs : List Nat} (b : Wgs gs vs) : Wg (gTup K n gs) vs := fun v σ H Q ⟨a, xs, e1, e2, e3, q⟩ => ⟨a, xs, e1, e2, e3, b _ _ _ _ q⟩
theorem ro_add {as : List Addr} {H : Hp} {os : Os} {p : Addr} (R : Ro K as H os) (hp : H p = none) : Ro K (as ++ [p]) (upd H p (.lst [])) (os ++ [.ml []]) := by
  have R' := R.new (o := .lst []) hp
  refine ⟨?_, by simp [R.len], fun k a ob h1 h2 => ?_⟩
  · refine List.nodup_append.mpr ⟨R.nd, List.nodup_cons.mpr ⟨by simp, List.nodup_nil⟩, fun a ha b hb e => ?_⟩
    rw [List.mem_singleton.mp hb] at e
    exact R.notin hp (e ▸ ha)
  · by_cases hk : k < as.length
    · rw [List.getElem?_append_left hk] at h1
      rw [List.getElem?_append_left (by rw [← R.len]; exact hk)] at h2
      refine (R.own k a ob h1 h2).way ?_ fun u e => ?_
      · have w1 : Way K as (as ++ [p]) H H := Way.of_add hp
        have w2 : Way K (as ++ [p]) (as ++ [p]) H (upd H p (.lst [])) := Way.of_go (Go.at (by simp))
        exact ⟨fun a xs z => w2.l _ _ (w1.l _ _ z), fun a xs z => w2.t _ _ (w1.t _ _ z), fun a u n z => let ⟨n1, z1⟩ := w1.r _ _ n z; w2.r _ _ n1 z1, fun a u n z => let ⟨n1, z1⟩ := w1.o _ _ n z; w2.o _ _ n1 z1⟩
      · rw [upd_ne (ne_of_none e hp)]
        exact e
    · have hk2 : k = as.length := by
        have := (List.getElem?_eq_some_iff.mp h1).1
        rw [List.length_append] at this
        simp at this
        omega
      subst hk2
      rw [List.getElem?_append_right (Nat.le_refl _)] at h1
      rw [R.len, List.getElem?_append_right (Nat.le_refl _)] at h2
      simp at h1 h2
      subst h1
      subst h2
      exact ⟨[], upd_same, .nil⟩
theorem ro_drop {as : List Addr} {H : Hp} {os : Os} {p : Addr} {ob : Ob} (R : Ro K (as ++ [p]) H (os ++ [ob])) : Ro K as H os ∧ ObR K as H p ob ∧ p ∉ as := by
  have hl : as.length = os.length := by
    have := R.len
    simpa using this
  have sub : ∀ x ∈ as, x ∈ as ++ [p] := fun x h => List.mem_append_left _ h
  have hnd := List.nodup_append.mp R.nd
  refine ⟨⟨hnd.1, hl, fun k a ob h1 h2 => ?_⟩, ?_, fun z => hnd.2.2 p z p (by simp) rfl⟩
  · have hk := (List.getElem?_eq_some_iff.mp h1).1
    exact (R.own k a ob (by rw [List.getElem?_append_left hk]; exact h1) (by rw [List.getElem?_append_left (by omega)]; exact h2)).way (Way.of_sub sub) fun _ e => e
  · refine (R.own as.length p ob (by simp) (by rw [hl]; simp)).way (Way.of_sub sub) fun _ e => e
/-- the store's last list has grown -/
theorem ro_grow {as : List Addr} {H : Hp} {os : Os} {p : Addr} {vs : List V} {xs : List D} {v : V} {d : D} (R : Ro K (as ++ [p]) H (os ++ [.ml xs])) (e : H p = some (.lst vs)) (r : Dx K (as ++ [p]) H v d) :
    Ro K (as ++ [p]) (upd H p (.lst (vs ++ [v]))) (os ++ [.ml (xs ++ [d])]) := by
  have g : Go (as ++ [p]) H (upd H p (.lst (vs ++ [v]))) := Go.at (by simp)
  have hl : as.length = os.length := by
    have := R.len
    simpa using this
  have hnd := List.nodup_append.mp R.nd
  refine ⟨R.nd, by simp [hl], fun k a ob h1 h2 => ?_⟩
  by_cases hk : k < as.length
  · have h1' := h1
    rw [List.getElem?_append_left hk] at h1
    rw [List.getElem?_append_left (by omega)] at h2
    refine (R.own k a ob h1' (by rw [List.getElem?_append_left (by omega)]; exact h2)).way (Way.of_go g) fun u q => ?_
    have hne : a ≠ p := fun z => hnd.2.2 a (List.mem_of_getElem? h1) p (by simp) z
    rw [upd_ne hne]
    exact q
  · have hk2 : k = as.length := by
      have := (List.getElem?_eq_some_iff.mp h1).1
      rw [List.length_append] at this
      simp at this
      omega
    subst hk2
    rw [List.getElem?_append_right (Nat.le_refl _)] at h1
    rw [hl, List.getElem?_append_right (Nat.le_refl _)] at h2
    simp at h1 h2
    subst h1
    subst h2
    obtain ⟨ws, e2, r2⟩ := (ro_drop R).2.1
    rw [e] at e2
    cases e2
    have hown := R.own as.length p (.ml xs) (by simp) (by rw [hl]; simp)
    obtain ⟨ws, e3, r3⟩ := hown
    rw [e] at e3
    cases e3
    exact ⟨_, upd_same, DxA.app (r3.way (Way.of_go g)) (.cons (r.way (Way.of_go g)) .nil)⟩
theorem ew_lc {vs : List Nat} (hg : Wg g vs) (hm : Mg g) (h : IW K X wi S fun ds os => ∃ Pv : Nat → List D → Os → Prop, Pv 0 [] os ∧
      (∀ i d acc os', ds[i]? = some d → Pv i acc os' → GW K g (.d d) ⟨wipeS S.s vs, os' ++ [.ml acc]⟩ fun S2 => TW K X0 tt S2 fun b os2 =>
        if b = true then EW K X0 te ⟨S2.s, os2⟩ fun y os3 => ∃ z os4, y = .d z ∧ os3 = os4 ++ [.ml acc] ∧ acc.length < sizeLine ∧ Pv (i + 1) (acc ++ [z]) os4 else ∃ os4, os2 = os4 ++ [.ml acc] ∧ Pv (i + 1) acc os4) ∧
      ∀ acc os', Pv ds.length acc os' → Q (.d (.lst acc)) os') : EW K X (tLc wi g tt te vs) S Q := fun as H σ Q' R x k =>
  h as H σ _ R x fun J H1 ds os1 g1 R1 it ⟨Pv, p0, turn, fin⟩ Dl hD => by
    have R1' := R.go g1 R1
    refine ⟨fun i m H2 => m = ds.length - i ∧ i ≤ ds.length ∧ ∃ acc os2, Stp as H1 (as ++ [Dl]) H2 ∧ Re K (as ++ [Dl]) H2 σ ⟨S.s, os2 ++ [.ml acc]⟩ ∧ Pv i acc os2, ⟨_, rfl, Nat.zero_le _, [], os1, ?_, ?_, p0⟩, ?_⟩
    · exact ⟨⟨[Dl], rfl, fun a ha => by rw [List.mem_singleton.mp ha]; exact hD⟩, Go.new hD, fun a ha => by
        by_cases e : a = Dl
        · rw [e]
          exact hD
        · rw [upd_ne e] at ha
          exact ha⟩
    · refine ⟨ro_add R1 hD, R1'.slen, fun i d hd => ?_⟩
      obtain ⟨u, e, r⟩ := R1'.slot i d hd
      refine ⟨u, e, ?_⟩
      have r2 := r.wayA hD
      exact r2.go (Go.at (by simp))
    rintro i m H2 ⟨rfl, hi, acc, os2, s2, R2, p⟩
    by_cases hlt : i < ds.length
    · have hd : ds[i]? = some ds[i] := List.getElem?_eq_getElem hlt
      obtain ⟨hgo, hy⟩ := (it _ H2 _ s2 R2.o i).1 _ hd
      refine .inr ⟨hgo, fun H' => ∃ acc os3, Stp as H1 (as ++ [Dl]) H' ∧ Re K (as ++ [Dl]) H' σ ⟨S.s, os3 ++ [.ml acc]⟩ ∧ Pv (i + 1) acc os3, fun H' z => ⟨ds.length - (i + 1), by omega, rfl, hlt, z⟩, fun y H3 hyl => ?_⟩
      obtain ⟨g3, R3, r3⟩ := hy y H3 hyl
      have R3' := R2.go g3 R3
      have s3 : Stp as H1 (as ++ [Dl]) H3 := s2.trans (Stp.of_go g3 R3)
      have base := turn i _ acc os2 hd p (as ++ [Dl]) H3 (wipe σ vs) y (fun σ2 H4 => H4 = H3 ∧ ∃ S2, Re K (as ++ [Dl]) H3 σ2 S2 ∧ TW K X0 tt S2 fun b os2 =>
        if b = true then EW K X0 te ⟨S2.s, os2⟩ fun y os3 => ∃ z os4, y = .d z ∧ os3 = os4 ++ [.ml acc] ∧ acc.length < sizeLine ∧ Pv (i + 1) (acc ++ [z]) os4 else ∃ os4, os2 = os4 ++ [.ml acc] ∧ Pv (i + 1) acc os4) (re_wipe R3') r3 fun σ2 S2 R4 q => ⟨rfl, S2, R4, q⟩
      refine hm _ _ _ _ _ ?_ (hg _ _ _ _ base)
      rintro σ2 H4 ⟨⟨rfl, S2, R4, tw⟩, hl, ho⟩
      refine ⟨(wipe_ext hl fun i hi => ho i hi).trans (wipe_ext (wipe_length σ vs) fun i hi => wipe_out1 hi), ?_⟩
      refine tw _ H4 σ2 _ R4 XH.x0 fun b H5 os5 g5 R5 q5 => ?_
      have s5 := s3.trans (Stp.of_go g5 R5)
      cases b with
      | false =>
        obtain ⟨os4, rfl, q6⟩ := (show ∃ os4, os5 = os4 ++ [.ml acc] ∧ Pv (i + 1) acc os4 from q5)
        show ∃ acc os3, _
        exact ⟨acc, os4, s5, R3'.go g5 R5, q6⟩
      | true =>
        show te σ2 H5 _
        refine (show EW K X0 te ⟨S2.s, os5⟩ _ from q5) _ H5 σ2 _ (R4.go g5 R5) XH.x0 fun u H6 e os6 g6 R6 r6 ⟨z, os7, ez, eo, hz, q7⟩ => ?_
        subst ez
        subst eo
        obtain ⟨ws, ew, rw'⟩ := (ro_drop R6).2.1
        refine ⟨ws, ew, by rw [rw'.length]; exact hz, acc ++ [z], os7, ?_, ?_, q7⟩
        · exact (s5.trans (Stp.of_go g6 R6)).trans (Stp.of_go (Go.at (by simp)) (ro_grow R6 ew r6))
        · exact (R3'.go (g5.trans g6) R6).go (Go.at (by simp)) (ro_grow R6 ew r6)
    · have e : i = ds.length := by omega
      subst e
      obtain ⟨Rd, ob, nin⟩ := ro_drop R2.o
      obtain ⟨ws, ew, rw'⟩ := ob
      exact .inl ⟨(it _ H2 _ s2 R2.o _).2 (Nat.le_refl _), k (.ref Dl) H2 (.d (.lst acc)) os2 (g1.trans s2.go) Rd (Dx.lst (.inl ⟨nin, .inl ew⟩) rw') (fin acc os2 p)⟩
theorem tw_yes {S : Sa} {Q : Bool → Os → Prop} (q : Q true S.os) : TW K X tYes S Q := fun as H σ Q' R x k => k true H S.os (Go.refl _ _) R.o q
end
end Br

/-! BrE: the store's dicts; a def that makes one; rooms; a law's end. -/
namespace Br
open PySem L2

/-! ### the store's dicts -/
def keyD : Key → D
  | .inl i => .int i
  | .inr x => .str x
def lookD (kvs : List (Key × D)) (k : Key) : Option D := (kvs.find? fun kv => decide (kv.1 = k)).map (·.2)
def putD (kvs : List (Key × D)) (k : Key) (v : D) : List (Key × D) :=
  if (kvs.any fun kv => decide (kv.1 = k)) = true then kvs.map (fun kv => if kv.1 = k then (kv.1, v) else kv) else kvs ++ [(k, v)]
section
variable {K : PySem.W.Frag} {as : List Addr} {H : Hp}
theorem key_v {v : V} {k : Key} (h : Dx K as H v (keyD k)) : v = kV k := by
  cases k with
  | inl i =>
    cases h
    rfl
  | inr x =>
    cases h
    rfl
theorem DxP.length : ∀ {vs : List (Key × V)} {ds : List (Key × D)}, DxP K as H vs ds → vs.length = ds.length
  | _, _, .nil => rfl
  | _, _, .cons _ r => by rw [List.length_cons, List.length_cons, DxP.length r]
theorem DxP.look {k : Key} : ∀ {vs : List (Key × V)} {ds : List (Key × D)} {z : D}, DxP K as H vs ds → lookD ds k = some z → ∃ v, valV vs k = some v ∧ Dx K as H v z
  | _, _, _, .nil, e => by simp [lookD] at e
  | _, _, z, .cons (k := k2) (v := v) (d := d) (ds := ds) (vs := vs) h r, e => by
    by_cases hk : k2 = k
    · have e2 : some d = some z := by rw [← e]; simp [lookD, List.find?_cons, hk]
      cases e2
      exact ⟨v, valV_pos (p := (k2, v)) hk, h⟩
    · have e2 : lookD ds k = some z := by rw [← e]; simp [lookD, List.find?_cons, hk]
      obtain ⟨u, h1, h2⟩ := DxP.look r e2
      exact ⟨u, by rw [valV_neg (p := (k2, v)) hk]; exact h1, h2⟩
theorem DxP.any {k : Key} : ∀ {vs : List (Key × V)} {ds : List (Key × D)}, DxP K as H vs ds → (vs.any fun kv => decide (kv.1 = k)) = (ds.any fun kv => decide (kv.1 = k))
  | _, _, .nil => rfl
  | _, _, .cons _ r => by rw [List.any_cons, List.any_cons, DxP.any r]
theorem DxP.mapk {k : Key} {u : V} {z : D} (h : Dx K as H u z) : ∀ {vs : List (Key × V)} {ds : List (Key × D)}, DxP K as H vs ds → DxP K as H (vs.map fun kv => if kv.1 = k then (kv.1, u) else kv) (ds.map fun kv => if kv.1 = k then (kv.1, z) else kv)
  | _, _, .nil => .nil
  | _, _, .cons (k := k2) h2 r => by
    rw [List.map_cons, List.map_cons]
    by_cases hk : k2 = k
    · rw [if_pos hk, if_pos hk]
      exact .cons h (DxP.mapk h r)
    · rw [if_neg hk, if_neg hk]
      exact .cons h2 (DxP.mapk h r)
theorem DxP.app : ∀ {v w : List (Key × V)} {d e : List (Key × D)}, DxP K as H v d → DxP K as H w e → DxP K as H (v ++ w) (d ++ e)
  | _, _, _, _, .nil, s => s
  | _, _, _, _, .cons h r, s => .cons h (DxP.app r s)
theorem DxP.put {k : Key} {u : V} {z : D} {vs : List (Key × V)} {ds : List (Key × D)} (h : Dx K as H u z) (r : DxP K as H vs ds) : DxP K as H (putK vs k u) (putD ds k z) := by
  unfold putK putD
  rw [r.any (k := k)]
  split
  · exact DxP.mapk h r
  · exact DxP.app r (.cons h .nil)
/-- a thing of the store is written -/
theorem ro_set {os : Os} {k : Nat} {a : Addr} {o : HO} {ob : Ob} (R : Ro K as H os) (ha : as[k]? = some a) (h : ObR K as (upd H a o) a ob) : Ro K as (upd H a o) (os.set k ob) := by
  have hm : a ∈ as := List.mem_of_getElem? ha
  refine ⟨R.nd, by rw [List.length_set]; exact R.len, fun j b ob2 h1 h2 => ?_⟩
  by_cases hj : k = j
  · subst hj
    rw [ha] at h1
    cases h1
    by_cases hl : k < os.length
    · rw [List.getElem?_set_self hl] at h2
      cases h2
      exact h
    · rw [List.getElem?_eq_none (by simpa using hl)] at h2
      cases h2
  · rw [List.getElem?_set_ne hj] at h2
    refine (R.own j b ob2 h1 h2).way (Way.of_go (Go.at hm)) fun u e => ?_
    have hne : b ≠ a := fun z => by
      subst z
      obtain ⟨l1, m1⟩ := List.getElem?_eq_some_iff.mp h1
      obtain ⟨l2, m2⟩ := List.getElem?_eq_some_iff.mp ha
      exact hj ((List.getElem_inj R.nd).mp (m2.trans m1.symm))
    rw [upd_ne hne]
    exact e
end
section
variable {K : PySem.W.Frag} {X : Xc} {S : Sa} {Q : Sv → Os → Prop} {td ty tv : TE} {E : Ea}
theorem ew_dget (h : EW K X td S fun x os1 => EW K X ty ⟨S.s, os1⟩ fun y os2 => ∃ k kvs key z, x = .o k ∧ os2[k]? = some (.md kvs) ∧ y = .d (keyD key) ∧ lookD kvs key = some z ∧ Q (.d z) os2) : EW K X (tDGet td ty) S Q := fun as H σ Q' R x k =>
  h as H σ _ R x fun v H1 d os1 g1 R1 r1 q1 => q1 as H1 σ _ (R.go g1 R1) (x.go g1 R1) fun u H2 e os2 g2 R2 r2 ⟨j, kvs, key, z, ex, eo, ey, el, q2⟩ => by
    subst ex
    subst ey
    obtain ⟨a, ea, rfl⟩ := r1
    obtain ⟨vs, h1, h2⟩ := R2.own j a _ ea eo
    obtain ⟨w, h3, h4⟩ := h2.look el
    have hk := key_v r2
    subst hk
    refine ⟨a, w, rfl, ?_, k w H2 (.d z) os2 (g1.trans g2) R2 h4 q2⟩
    rw [← h3]
    exact DGet.k h1
theorem w_dput (h : EW K X tv S fun v os1 => EW K X td ⟨S.s, os1⟩ fun x os2 => EW K X ty ⟨S.s, os2⟩ fun y os3 => ∃ k kvs key z, v = .d z ∧ x = .o k ∧ os3[k]? = some (.md kvs) ∧ y = .d (keyD key) ∧ kvs.length ≤ 1000 ∧
    E.nx ⟨S.s, os3.set k (.md (putD kvs key z))⟩) : W K X (sDPut td ty tv) E S := fun as H σ D R x n r b c =>
  h as H σ _ R (x.h R) fun v H1 d os1 g1 R1 r1 q1 => q1 as H1 σ _ (R.go g1 R1) ((x.h R).go g1 R1) fun u H2 e os2 g2 R2 r2 q2 => q2 as H2 σ _ (R.go (g1.trans g2) R2) ((x.h R).go (g1.trans g2) R2) fun y H3 f os3 g3 R3 r3 ⟨j, kvs, key, z, ev, ex, eo, ey, hl, q3⟩ => by
    subst ev
    subst ex
    subst ey
    obtain ⟨a, ea, rfl⟩ := r2
    obtain ⟨vs, h1, h2⟩ := R3.own j a _ ea eo
    have hk := key_v r3
    subst hk
    have hm : a ∈ as := List.mem_of_getElem? ea
    have rz : Dx K as H3 v z := (r1.go (g2.trans g3) : SvR K as H3 v (.d z))
    have R4 : Ro K as (upd H3 a (.dK (putK vs key v))) (os3.set j (.md (putD kvs key z))) := ro_set R3 ea ⟨_, upd_same, DxP.way (Way.of_go (Go.at hm)) (h2.put rz)⟩
    have g4 : Go as H (upd H3 a (.dK (putK vs key v))) := ((g1.trans g2).trans g3).trans (Go.at hm)
    have hz : vs.length < sizeLine := by
      rw [h2.length]
      exact Nat.lt_of_le_of_lt hl (by decide)
    exact ⟨a, _, rfl, DPut.k h1 hz, n as _ σ _ (Stp.of_go g4 R4) (R.go g4 R4) q3⟩
end

section
variable {K : PySem.W.Frag} {X : Xc} {S : Sa} {Q : Sv → Os → Prop} {td tv : TE} {E : Ea} {z : Str}
/-- by a written text -/
theorem ew_dgetS (h : EW K X td S fun v os1 => ∃ k kvs d, v = .o k ∧ os1[k]? = some (.md kvs) ∧ lookD kvs (.inr z) = some d ∧ Q (.d d) os1) : EW K X (tDGet td (tC (.str z))) S Q :=
  ew_dget (ew_mono h fun x os1 ⟨k, kvs, d, ex, eo, el, q⟩ => ew_str ⟨k, kvs, .inr z, d, ex, eo, rfl, el, q⟩)
theorem w_dputS (h : EW K X tv S fun v os1 => EW K X td ⟨S.s, os1⟩ fun x os2 => ∃ k kvs d kv2 os3, v = .d d ∧ x = .o k ∧ os2[k]? = some (.md kvs) ∧ kvs.length ≤ 1000 ∧ putD kvs (.inr z) d = kv2 ∧ os2.set k (.md kv2) = os3 ∧ E.nx ⟨S.s, os3⟩) : W K X (sDPut td (tC (.str z)) tv) E S :=
  w_dput (ew_mono h fun v os1 h1 => ew_mono h1 fun x os2 ⟨k, kvs, d, kv2, os3, ev, ex, eo, hl, e1, e2, q⟩ => ew_str ⟨k, kvs, .inr z, d, ev, ex, eo, rfl, hl, by rw [e1, e2]; exact q⟩)
end

/-! ### a def that makes a thing of the store -/
abbrev FN := List Sv → Os → (Ob → Os → Prop) → Prop
def spN (K : PySem.W.Frag) (f : FN) : Sp := fun vs H Q _ => ∃ (as : List Addr) (os : Os) (ds : List Sv) (QN : Ob → Os → Prop), Ro K as H os ∧ SvA K as H vs ds ∧ f ds os QN ∧
  ∀ p H' ob os', Stp as H (as ++ [p]) H' → Ro K (as ++ [p]) H' (os' ++ [ob]) → QN ob os' → Q (.ref p) H'
def RetN (n : Nat) (QN : Ob → Os → Prop) : Sv → Os → Prop := fun x os' => x = .o n ∧ os'.length = n + 1 ∧ ∃ ob, os'[n]? = some ob ∧ QN ob (os'.take n)
theorem take_last {α : Type} {l : List α} {n : Nat} {x : α} (h : l.length = n + 1) (e : l[n]? = some x) : l.take n ++ [x] = l := by
  obtain ⟨hn, e2⟩ := List.getElem?_eq_some_iff.mp e
  rw [← e2]
  have : l.take (n + 1) = l := List.take_of_length_le (by omega)
  rw [← List.take_append_getElem hn] at this
  exact this
theorem readN_of {K : PySem.W.Frag} {N : List Str} {f : FN} {t : TS} {vs : List V} {H : Hp} {Q : VK} {E : XK} (h : spN K f vs H Q E)
    (w : ∀ ds os QN, f ds os QN → W K X0 t { nx := fun S => False, rt := RetN os.length QN } ⟨startS N ds, os⟩) : t { nx := fun _ H' => Q .non H', rt := Q } (L2.start N vs) H := by
  obtain ⟨as, os, ds, QN, R, r, hf, k⟩ := h
  refine w ds os QN hf as H _ _ (re_start R r) XS.x0 (fun _ _ _ _ _ _ q => q.elim) (fun bs H' v d os' s R' r' q => ?_) (fun _ _ _ _ _ _ q => q.elim) fun _ _ _ _ _ _ q => q.elim
  obtain ⟨rfl, hl, ob, e, q⟩ := q
  obtain ⟨a, ea, rfl⟩ := r'
  obtain ⟨nw, eb, hf⟩ := s.pre
  have hb : bs = as ++ [a] := by
    have h1 : bs.length = os.length + 1 := R'.len.trans hl
    have h2 : as.length = os.length := R.len
    rw [eb, List.length_append] at h1
    match nw, h1 with
    | [b], _ =>
      rw [eb, ← h2, List.getElem?_append_right (Nat.le_refl _)] at ea
      simp at ea
      rw [eb, ea]
    | [], h1 => simp at h1; omega
    | _ :: _ :: _, h1 => simp at h1; omega
  subst hb
  exact k a H' ob _ s (by rw [take_last hl e]; exact R') q
section
variable {K : PySem.W.Frag} {X : Xc} {S : Sa}
/-- x = f(..), f making a thing -/
theorem w_asgN {ta : TA} {i : Nat} {f : FN} {E : Ea} (h : AW K X ta S fun ds os => f ds os fun ob os' => E.nx ⟨S.s.set i (some (.o os'.length)), os' ++ [ob]⟩) : W K X (tAsg (tCall (spN K f) [] E0 ta) (gName i)) E S := fun as H σ D R x n r b c =>
  h as H σ _ R (x.h R) fun vs H1 ds os1 g1 R1 r1 q1 => ⟨as, os1, ds, _, R1, r1.nilr, q1, fun p H2 ob os2 s2 R2 q2 => by
    have s1 : Stp as H as H1 := Stp.of_go g1 R1
    have hl : as.length = os2.length := by
      have := R2.len
      simpa using this
    have R3 : Re K (as ++ [p]) H2 σ ⟨S.s, os2 ++ [ob]⟩ := ⟨R2, R.slen, fun j d hd => by
      obtain ⟨u, e, z⟩ := R.slot j d hd
      exact ⟨u, e, z.stp (s1.trans s2)⟩⟩
    exact n _ H2 _ _ (s1.trans s2) (R3.set i (v := .ref p) (d := .o os2.length) ⟨p, by rw [← hl]; simp, rfl⟩) q2⟩
/-- pairs of a display -/
inductive PrR (K : PySem.W.Frag) (as : List Addr) (H : Hp) : List (V × V) → List (D × D) → Prop
  | nil : PrR K as H [] []
  | cons {x y : V} {a b : D} {ps : List (V × V)} {ds : List (D × D)} : Dx K as H x a → Dx K as H y b → PrR K as H ps ds → PrR K as H ((x, y) :: ps) ((a, b) :: ds)
def DW (K : PySem.W.Frag) (X : Xc) (trs : List (TE × TE)) (S : Sa) (Q : List (D × D) → Os → Prop) : Prop :=
  ∀ as H σ (Q' : List (V × V) → Hp → Prop), Re K as H σ S → XH K X as H σ S.s → (∀ ps H' ds os', Go as H H' → Ro K as H' os' → PrR K as H' ps ds → Q ds os' → Q' ps H') → tPairs trs σ H Q'
theorem dw_nil {Q : List (D × D) → Os → Prop} (q : Q [] S.os) : DW K X [] S Q := fun as H σ Q' R x k => k [] H [] S.os (Go.refl _ _) R.o .nil q
theorem dw_cons {Q : List (D × D) → Os → Prop} {tk tv : TE} {trs : List (TE × TE)} (h : EW K X tk S fun x os1 => EW K X tv ⟨S.s, os1⟩ fun y os2 => ∃ a b, x = .d a ∧ y = .d b ∧ DW K X trs ⟨S.s, os2⟩ fun ds os3 => Q ((a, b) :: ds) os3) : DW K X ((tk, tv) :: trs) S Q := fun as H σ Q' R x k =>
  h as H σ _ R x fun v H1 d os1 g1 R1 r1 q1 => q1 as H1 σ _ (R.go g1 R1) (x.go g1 R1) fun u H2 e os2 g2 R2 r2 ⟨a, b, ea, eb, q2⟩ => by
    subst ea
    subst eb
    have ra : Dx K as H2 v a := (r1.go g2 : SvR K as H2 v (.d a))
    have rb : Dx K as H2 u b := r2
    exact q2 as H2 σ _ (R.go (g1.trans g2) R2) (x.go (g1.trans g2) R2) fun ps H3 ds os3 g3 R3 r3 q3 => k _ H3 _ os3 ((g1.trans g2).trans g3) R3 (.cons (ra.way (Way.of_go g3)) (rb.way (Way.of_go g3)) r3) q3
def mergeD (kvs more : List (Key × D)) : List (Key × D) := more.foldl (fun acc kv => putD acc kv.1 kv.2) kvs
theorem merge_dx {as : List Addr} {H : Hp} : ∀ {more : List (Key × V)} {md : List (Key × D)} {kvs : List (Key × V)} {kds : List (Key × D)}, DxP K as H more md → DxP K as H kvs kds → DxP K as H (mergeK kvs more) (mergeD kds md)
  | _, _, _, _, .nil, s => s
  | _, _, _, _, .cons (k := k) (v := v) (vs := vs) (d := d) (ds := ds) h r, s => merge_dx (kvs := putK _ k v) (kds := putD _ k d) r (s.put h)
theorem pr_keys {as : List Addr} {H : Hp} : ∀ {ps : List (V × V)} {kds : List (Key × D)}, PrR K as H ps (kds.map fun kv => (keyD kv.1, kv.2)) → ∃ kvs : List (Key × V), ps = kvs.map (fun kv => (kV kv.1, kv.2)) ∧ DxP K as H kvs kds
  | [], [], _ => ⟨[], rfl, .nil⟩
  | [], _ :: _, h => nomatch h
  | _ :: _, [], h => nomatch h
  | (x, y) :: ps, (k, d) :: kds, .cons h1 h2 r => by
    obtain ⟨kvs, e, z⟩ := pr_keys (kds := kds) r
    have hk := key_v h1
    subst hk
    subst e
    exact ⟨(k, y) :: kvs, rfl, .cons h2 z⟩
/-- a new dict at p -/
theorem ro_addD {as : List Addr} {H : Hp} {os : Os} {p : Addr} (R : Ro K as H os) (hp : H p = none) : Ro K (as ++ [p]) (upd H p (.dK [])) (os ++ [.md []]) := by
  refine ⟨List.nodup_append.mpr ⟨R.nd, List.nodup_cons.mpr ⟨by simp, List.nodup_nil⟩, fun a ha b hb e => ?_⟩, by simp [R.len], fun k a ob h1 h2 => ?_⟩
  · rw [List.mem_singleton.mp hb] at e
    exact R.notin hp (e ▸ ha)
  · have w1 : Way K as (as ++ [p]) H H := Way.of_add hp
    have w2 : Way K (as ++ [p]) (as ++ [p]) H (upd H p (.dK [])) := Way.of_go (Go.at (by simp))
    by_cases hk : k < as.length
    · rw [List.getElem?_append_left hk] at h1
      rw [List.getElem?_append_left (by rw [← R.len]; exact hk)] at h2
      refine ((R.own k a ob h1 h2).way w1 fun _ e => e).way w2 fun u e => ?_
      rw [upd_ne (ne_of_none e hp)]
      exact e
    · have hk2 : k = as.length := by
        have := (List.getElem?_eq_some_iff.mp h1).1
        rw [List.length_append] at this
        simp at this
        omega
      subst hk2
      rw [List.getElem?_append_right (Nat.le_refl _)] at h1
      rw [R.len, List.getElem?_append_right (Nat.le_refl _)] at h2
      simp at h1 h2
      subst h1
      subst h2
      exact ⟨[], upd_same, .nil⟩
theorem stp_add {as : List Addr} {H : Hp} {p : Addr} {o : HO} (hp : H p = none) : Stp as H (as ++ [p]) (upd H p o) :=
  ⟨⟨[p], rfl, fun a ha => by rw [List.mem_singleton.mp ha]; exact hp⟩, Go.new hp, fun a ha => by
    by_cases e : a = p
    · rw [e]
      exact hp
    · rw [upd_ne e] at ha
      exact ha⟩
theorem w_retDisp {trs : List (TE × TE)} {E : Ea} (h : DW K X0 trs ⟨S.s, S.os ++ [.md []]⟩ fun ds os3 => ∃ os4 kds, os3 = os4 ++ [.md []] ∧ ds = kds.map (fun kv => (keyD kv.1, kv.2)) ∧ kds.length ≤ 15 ∧ E.rt (.o S.os.length) (os4 ++ [.md (mergeD [] kds)])) :
    W K X (tRet (tDisp trs)) E S := fun as H σ D R x n r b c p hp => by
  have R1 : Re K (as ++ [p]) (upd H p (.dK [])) σ ⟨S.s, S.os ++ [.md []]⟩ := ⟨ro_addD R.o hp, R.slen, fun j d hd => by
    obtain ⟨u, e, z⟩ := R.slot j d hd
    exact ⟨u, e, z.stp (stp_add hp)⟩⟩
  refine h _ _ σ _ R1 XH.x0 fun ps H2 ds os3 g2 R2 r2 ⟨os4, kds, e3, ed, hl, q⟩ => ?_
  subst e3
  subst ed
  obtain ⟨kvs, ek, rk⟩ := pr_keys r2
  have hlen : as.length = os4.length := by
    have := R2.len
    simpa using this
  have hpos : (as ++ [p])[as.length]? = some p := by simp
  obtain ⟨ws, e1, e2⟩ := R2.own as.length p (.md []) hpos (by rw [hlen]; simp)
  cases e2
  have g3 : Go (as ++ [p]) H2 (upd H2 p (.dK (mergeK [] kvs))) := Go.at (by simp)
  have R3 : Ro K (as ++ [p]) (upd H2 p (.dK (mergeK [] kvs))) (os4 ++ [.md (mergeD [] kds)]) := by
    have z := ro_set (ob := .md (mergeD [] kds)) R2 hpos ⟨mergeK [] kvs, upd_same, DxP.way (Way.of_go g3) (merge_dx rk .nil)⟩
    rw [hlen, List.set_append_right _ _ (Nat.le_refl _)] at z
    simpa using z
  have sN : Stp as H (as ++ [p]) (upd H2 p (.dK (mergeK [] kvs))) := ((stp_add hp).trans (Stp.of_go g2 R2)).trans (Stp.of_go g3 R3)
  refine ⟨e1, kvs, ek, by rw [rk.length]; exact hl, r _ _ (.ref p) (.o S.os.length) _ sN R3 ⟨p, by rw [← R.o.len]; simp, rfl⟩ q⟩
end
end Br

/-! BrT: small words for the readings. -/
namespace Br
open PySem L2
theorem br_ite {c : Prop} [Decidable c] {A B : Prop} (h1 : c → A) (h2 : ¬ c → B) : if decide c = true then A else B := by
  by_cases h : c
  · rw [decide_eq_true h]
    exact h1 h
  · rw [decide_eq_false h]
    exact h2 h
theorem br_iteN {c : Prop} [Decidable c] {A B : Prop} (h1 : ¬ c → A) (h2 : c → B) : if (!decide c) = true then A else B := by
  by_cases h : c
  · rw [decide_eq_true h]
    exact h2 h
  · rw [decide_eq_false h]
    exact h1 h
theorem br_iteB {b : Bool} {A B : Prop} (h1 : b = true → A) (h2 : b = false → B) : if b = true then A else B := by
  cases b with
  | true => exact h1 rfl
  | false => exact h2 rfl
theorem br_T {A B : Prop} (h : A) : if true = true then A else B := h
theorem br_F {A B : Prop} (h : B) : if false = true then A else B := h
theorem set_set {os : Os} {k : Nat} {a b : Ob} : (os.set k a).set k b = os.set k b := List.set_set ..
theorem get_set {os : Os} {k : Nat} {a b : Ob} (h : os[k]? = some a) : (os.set k b)[k]? = some b := List.getElem?_set_self (List.getElem?_eq_some_iff.mp h).1
theorem c_div {i j : Int} (h : 0 < j) (h2 : j < 2 ^ 8000) : CDivW i j := wide_div (b := 8000) h (by omega) (by decide) (by decide)
theorem c_mul {i j : Int} (a b : Nat) (ha : i.natAbs < 2 ^ a) (hb : j.natAbs < 2 ^ b) (h0 : 0 < a) (h1 : 0 < b) (h : a + b ≤ 1000000) : CMulW i j := wide_mul ha hb h0 h1 h
theorem alld1 {x : D} : AllD [.d x] [x] := .cons .nil
theorem small_len {n : Nat} (h : n ≤ 1000000) : n ≤ sizeLine := Nat.le_trans h (by decide)
theorem pys_ints : ∀ ns : List Int, D.pys (ns.map D.int) = some (ns.map PyData.int)
  | [] => rfl
  | n :: r => by
    show ((D.py (.int n)).bind fun p => (D.pys (r.map D.int)).map fun ps => p :: ps) = _
    rw [pys_ints r]
    rfl
theorem bw_neNil {K : PySem.W.Frag} {os : Os} {Q : Sv → Os → Prop} {ns : List Int} (q : Q (.d (.bl (!ns.isEmpty))) os) : BW K (rNeD K) (.d (.lst (ns.map D.int))) (.d (.lst [])) os Q := by
  refine bw_neD (p := .list (ns.map PyData.int)) (r := .list []) ?_ rfl (PySem.W.ke_shaped_ints ns) (PySem.W.ke_shaped_ints []) ?_
  · show (D.pys (ns.map D.int)).map PyData.list = _
    rw [pys_ints]
    rfl
  · cases ns with
    | nil => exact q
    | cons n r => exact q
theorem at_mod {ns : List Int} {n : Int} (h : ns ≠ []) : ∃ c, L2.atI (ns.map D.int) (n % ((ns.map D.int).length : Int)) = some (.int c) := by
  have hl : 0 < ns.length := List.length_pos_iff.mpr h
  have e : ((ns.map D.int).length : Int) = (ns.length : Int) := by rw [List.length_map]
  have h1 : 0 ≤ n % (ns.length : Int) := Int.emod_nonneg _ (by omega)
  have h2 : n % (ns.length : Int) < (ns.length : Int) := Int.emod_lt_of_pos _ (by omega)
  have hk : (n % (ns.length : Int)).toNat < ns.length := by omega
  obtain ⟨j, hj⟩ : ∃ j : Nat, n % (ns.length : Int) = (j : Int) := ⟨(n % (ns.length : Int)).toNat, by omega⟩
  have hj2 : j < ns.length := by omega
  refine ⟨ns[j], ?_⟩
  rw [e, hj]
  exact atI_nat (by rw [List.getElem?_map, List.getElem?_eq_getElem hj2]; rfl)
theorem w_cut {K : PySem.W.Frag} {X : Xc} {S : Sa} {E : Ea} {t u : TS} (Mid : Sa → Prop) (h1 : W K X t { E with nx := Mid } S) (h2 : ∀ S', Mid S' → W K X u E S') : W K X (tSeq t u) E S :=
  w_seq (w_mono h1 h2 (fun _ _ z => z) (fun _ z => z) fun _ z => z)
theorem w_join {K : PySem.W.Frag} {X : Xc} {S S2 : Sa} {E : Ea} {t u : TS} {b : Bool} (Mid : Sa → Prop) (h1 : if b = true then W K X t { E with nx := Mid } S else W K X u { E with nx := Mid } S2) (h2 : ∀ S', Mid S' → E.nx S') : if b = true then W K X t E S else W K X u E S2 := by
  cases b with
  | true => exact w_mono (show W K X t { E with nx := Mid } S from h1) h2 (fun _ _ z => z) (fun _ z => z) fun _ z => z
  | false => exact w_mono (show W K X u { E with nx := Mid } S2 from h1) h2 (fun _ _ z => z) (fun _ z => z) fun _ z => z
theorem ret_set {os : Os} {k : Nat} {ob : Ob} {d : D} {QA : D → Os → Prop} (q : QA d (os.set k ob)) : RetOk os.length QA (.d d) (os.set k ob) := by
  show QA d ((os.set k ob).take os.length)
  rw [List.take_of_length_le (by rw [List.length_set]; exact Nat.le_refl _)]
  exact q
theorem ret_same {os : Os} {d : D} {QA : D → Os → Prop} (q : QA d os) : RetOk os.length QA (.d d) os := by
  show QA d (os.take os.length)
  rw [List.take_length]
  exact q
theorem c_divS {i j : Int} (h : 0 < j) (h2 : j < 2 ^ 64) : CDivW i j := wide_div (b := 64) h (by omega) (by decide) (by decide)
theorem c_mulS {i j : Int} (h1 : -(2 ^ 200) < i ∧ i < 2 ^ 200) (h2 : -(2 ^ 200) < j ∧ j < 2 ^ 200) : CMulW i j := wide_mul (a := 200) (b := 200) (by omega) (by omega) (by decide) (by decide) (by decide)
/-- a display's things, as data -/
def unD : List Sv → Option (List D)
  | [] => some []
  | .d x :: r => (unD r).map fun ds => x :: ds
  | .o _ :: _ => none
theorem unD_all : ∀ {xs : List Sv} {ds : List D}, unD xs = some ds → AllD xs ds
  | [], ds, h => by
    have e : some [] = some ds := h
    cases e
    exact .nil
  | .d x :: r, ds, h => by
    have e : (unD r).map (fun ds => x :: ds) = some ds := h
    obtain ⟨es, e1, rfl⟩ := Option.map_eq_some_iff.mp e
    exact .cons (unD_all e1)
  | .o _ :: _, ds, h => by
    have e : (none : Option (List D)) = some ds := h
    cases e
section
variable {K : PySem.W.Frag} {X : Xc} {S : Sa} {Q : Sv → Os → Prop} {ta : TA}
theorem ew_lst2 (h : AW K X ta S fun xs os => ∃ ds, unD xs = some ds ∧ ds.length ≤ sizeLine ∧ Q (.d (.lst ds)) os) : EW K X (tLst ta) S Q :=
  ew_lst fun as H σ Q' R x k => h as H σ Q' R x fun vs H1 xs os1 g1 R1 r1 ⟨ds, e, q⟩ => k vs H1 xs os1 g1 R1 r1 ⟨ds, unD_all e, q⟩
theorem ew_tup2 (h : AW K X ta S fun xs os => ∃ ds, unD xs = some ds ∧ ds.length ≤ sizeLine ∧ Q (.d (.tup ds)) os) : EW K X (tTup ta) S Q :=
  ew_tup fun as H σ Q' R x k => h as H σ Q' R x fun vs H1 xs os1 g1 R1 r1 ⟨ds, e, q⟩ => k vs H1 xs os1 g1 R1 r1 ⟨ds, unD_all e, q⟩
end
end Br

/-! BrU: kinds asked, texts joined, looked through; an exception made and raised. -/
namespace Br
open PySem L2
/-- the kind of data -/
def D.ty : D → Option String
  | .non => some "NoneType"
  | .bl _ => some "bool"
  | .int _ => some "int"
  | .str _ => some "str"
  | .lst _ => some "list"
  | .tup _ => some "tuple"
  | .dk _ => some "dict"
  | .ob _ _ => none
  | .xo _ _ => none
section
variable {K : PySem.W.Frag} {X : Xc} {S : Sa} {Q : Sv → Os → Prop} {te to : TE} {ta : TA}
theorem dx_ty {as : List Addr} {H : Hp} {v : V} {d : D} {n : String} (r : Dx K as H v d) (e : d.ty = some n) : TyX K H v (.type n) := by
  cases r with
  | non => cases e; exact .base .non
  | bl b => cases e; exact .base (.bl b)
  | int i => cases e; exact .base (.int i)
  | str x => cases e; exact .base (.str x)
  | lst hl hr =>
    cases e
    rcases hl with ⟨_, h | ⟨o, h⟩⟩ | ⟨o, its, k, h, c, _⟩
    · exact .base (.lst h)
    · exact .base (.frz h)
    · exact .kList h c
  | tup hl hr =>
    cases e
    rcases hl with ⟨_, h | ⟨o, h⟩⟩ | ⟨o, its, k, h, c, _⟩
    · exact .base (.tup h)
    · exact .fTuple h
    · exact .kTuple h c
  | dk n h hr =>
    cases e
    rcases h with h | ⟨o, h⟩
    · exact .base (.dK h)
    · exact .fDict h
  | ob => cases e
  | xo => cases e
/-- isinstance(x, a built-in type) -/
theorem ew_isi {n : String} (h : EW K X te S fun x os => ∃ d a r, x = .d d ∧ d.ty = some a ∧ kitB a n = some r ∧ Q (.d (.bl r)) os) : EW K X (tCB (rIsi K) (tCons te (tCons (tC (.ty n)) tNil))) S Q := fun as H σ Q' R x k =>
  h as H σ _ R x fun v H1 d os1 g1 R1 r1 ⟨e, a, r, ed, ea, er, q⟩ => by
    subst ed
    exact ⟨v, .ty n, .type a, .type n, r, rfl, .ty n, dx_ty r1 ea, kit_ty er, k (.bl r) H1 (.d (.bl r)) os1 g1 R1 (Dx.bl r) q⟩
/-- sep.join(a list of texts) -/
theorem ew_join (h : EW K X to S fun x os => ∃ a : Str, x = .d (.str a) ∧ EW K X te ⟨S.s, os⟩ fun y os2 => ∃ ys : List Str, y = .d (.lst (ys.map D.str)) ∧ (ys.map (·.length)).sum + ys.length * a.length ≤ 16777216 ∧ Q (.d (.str (Txt.join a ys))) os2) :
    EW K X (tM1 (fun x xs H Q => ∃ a p, ∃ ys : List Str, x = .str a ∧ xs = [.ref p] ∧ (SqL K H p (ys.map V.str) ∨ SqT K H p (ys.map V.str)) ∧ (ys.map (·.length)).sum + ys.length * a.length ≤ 16777216 ∧ Q (.str (Txt.join a ys)) H) to te) S Q := fun as H σ Q' R x k =>
  h as H σ _ R x fun v H1 d os1 g1 R1 r1 ⟨a, ed, h2⟩ => by
    subst ed
    cases r1
    refine ⟨⟨a, rfl⟩, h2 as H1 σ _ (R.go g1 R1) (x.go g1 R1) fun u H2 e os2 g2 R2 r2 ⟨ys, ey, hl, q⟩ => ?_⟩
    subst ey
    cases r2 with
    | @lst p vs _ hl2 hr =>
      have ev := DxA.of_strs hr
      subst ev
      exact ⟨a, p, ys, rfl, rfl, .inl hl2.sq, hl, k _ H2 (.d (.str _)) os2 (g1.trans g2) R2 (Dx.str _) q⟩
/-- a.index(b) -/
theorem ew_sindex (h : EW K X to S fun x os => ∃ a : Str, x = .d (.str a) ∧ EW K X te ⟨S.s, os⟩ fun y os2 => ∃ (b : Str) (i : Nat), y = .d (.str b) ∧ (Builtin.Str.occurrences a b 0 a.length 1).head? = some i ∧ Q (.d (.int (i : Int))) os2) :
    EW K X (tM1 (fun x xs H Q => ∃ a b i rest, x = .str a ∧ xs = [.str b] ∧ Builtin.Str.occurrences a b 0 a.length 1 = i :: rest ∧ Q (.int (i : Nat)) H) to te) S Q := fun as H σ Q' R x k =>
  h as H σ _ R x fun v H1 d os1 g1 R1 r1 ⟨a, ed, h2⟩ => by
    subst ed
    cases r1
    refine ⟨⟨a, rfl⟩, h2 as H1 σ _ (R.go g1 R1) (x.go g1 R1) fun u H2 e os2 g2 R2 r2 ⟨b, i, ey, ho, q⟩ => ?_⟩
    subst ey
    cases r2
    cases eo : Builtin.Str.occurrences a b 0 a.length 1 with
    | nil => rw [eo] at ho; cases ho
    | cons j rest =>
      rw [eo] at ho
      cases ho
      exact ⟨a, b, i, rest, rfl, rfl, eo, k _ H2 (.d (.int _)) os2 (g1.trans g2) R2 (Dx.int _) q⟩
end
/-! ### an exception of the text's own -/
/-- data without a place -/
def D.flat : D → Option V
  | .non => some .non
  | .bl b => some (.bl b)
  | .int i => some (.int i)
  | .str x => some (.str x)
  | _ => none
theorem dx_flat {K : PySem.W.Frag} {as : List Addr} {H : Hp} {v : V} : ∀ {d : D}, d.flat = some v → Dx K as H v d
  | .non, e => by cases e; exact .non
  | .bl b, e => by cases e; exact .bl b
  | .int i, e => by cases e; exact .int i
  | .str x, e => by cases e; exact .str x
  | .lst _, e => by cases e
  | .tup _, e => by cases e
  | .dk _, e => by cases e
  | .ob _ _, e => by cases e
  | .xo _ _, e => by cases e
theorem flat_dx {K : PySem.W.Frag} {as : List Addr} {H : Hp} {u v : V} : ∀ {d : D}, d.flat = some v → Dx K as H u d → u = v
  | .non, e, r => by cases e; cases r; rfl
  | .bl b, e, r => by cases e; cases r; rfl
  | .int i, e, r => by cases e; cases r; rfl
  | .str x, e, r => by cases e; cases r; rfl
  | .lst _, e, _ => by cases e
  | .tup _, e, _ => by cases e
  | .dk _, e, _ => by cases e
  | .ob _ _, e, _ => by cases e
  | .xo _ _, e, _ => by cases e
/-- C.__init__ of one field -/
def spI1 (C : Addr) (f : Str) (P : V → Prop) : Sp := fun vs H Q _ => ∃ (a : Addr) (v : V), vs = [.ref a, v] ∧ P v ∧ H a = some (exo a C none) ∧
  ∀ dx H', H dx = none → dx ≠ a → H' a = some (exo a C (some dx)) → H' dx = some (exd dx [(f, v)]) → (∀ b o, H b = some o → b ≠ a → H' b = some o) → Q .non H'
section
variable {K : PySem.W.Frag} {X : Xc} {S : Sa} {E : Ea} {ta : TA}
theorem w_raise1 {C : Addr} {f : Str} {P : V → Prop} {Wx : WX} (hw : Wx = X.wx) (h : AW K X ta S fun xs os => ∃ d v, xs = [.d d] ∧ d.flat = some v ∧ P v ∧ X.xe C [(f, d)] ⟨S.s, os⟩) :
    W K X (fun _ σ H => tMkO C (spI1 C f P) [] ta σ H fun cls dd H' => Wx cls dd σ H') E S := fun as H σ D R x n r b c => by
  refine h as H σ _ R (x.h R) fun vs H1 xs os1 g1 R1 r1 ⟨d, v, e, ef, hP, q⟩ => ?_
  subst e
  cases r1 with
  | @cons u _ _ _ r1 rn =>
    cases rn
    have ev : v = u := (flat_dx ef r1).symm
    subst ev
    refine ⟨Nat.le_of_ble_eq_true rfl, fun a ha => ⟨a, _, rfl, hP, upd_same, fun dx H2 h1 h2 h3 h4 h6 => ⟨rfl, dx, _, h3, h4, ?_, ?_⟩⟩⟩
    · rw [upd_ne h2] at h1
      exact h1
    · have hdx : H1 dx = none := by
        rw [upd_ne h2] at h1
        exact h1
      have gg : ∀ b o, H1 b = some o → (upd (del H2 a) dx (.xd [(f, v)])) b = some o := fun b o e => by
        have hb : b ≠ a := ne_of_none e ha
        rw [upd_ne (ne_of_none e hdx), del_ne hb]
        exact h6 b o (by rw [upd_ne hb]; exact e) hb
      have g2 : Go as H1 (upd (del H2 a) dx (.xd [(f, v)])) := fun b o e _ => gg b o e
      have R3 : Ro K as (upd (del H2 a) dx (.xd [(f, v)])) os1 := ⟨R1.nd, R1.len, fun k b ob e1 e2 => (R1.own k b ob e1 e2).way (Way.of_go g2) fun w e => gg b w e⟩
      have g3 : Go as H (upd (del H2 a) dx (.xd [(f, v)])) := g1.trans g2
      have z := x.h R _ C dx [(f, v)] [(f, d)] os1 g3 R3 (g1.free (R1.notin hdx) hdx) upd_same (.cons (dx_flat ef) .nil) q
      rw [hw]
      exact z
end
end Br

/-! BrX: an exception that is caught and kept. -/
namespace Br
open PySem PySem.Spec PyProof.Rows L2
theorem exk_ok {P : Program} {w : World} {H : Hp} {h : Heap} {C dd a : Addr} {oe : Obj} {vs : Array Value} (e : h.get? a = some oe) (z : Zc (.ref C) (some dd) oe) (d : oe.data = .fields vs) : ObjOk P w H h a (Exk C dd a) :=
  ⟨⟨oe, vs, e, z, d⟩, ⟨oe, e⟩, fun _ _ ⟨o, v, q, r⟩ k => ⟨o, v, k o q, r⟩⟩
section
variable {X : Cx} {pins : List (Addr × Obj)} {σ : L2.St} {H : Hp} {s : Shared}
/-- what is pinned and new is tracked -/
theorem inv_keep {a : Addr} {oe : Obj} {o : HO} (I : Inv X ((a, oe) :: pins) σ H s) (n0 : X.s_0.heap.get? a = none) (hp : ∀ p ∈ X.pn ++ pins, p.1 ≠ a) (new : ObjOk X.prog X.w (upd H a o) s.heap a o) : Inv X pins σ (upd H a o) s := by
  obtain ⟨he, na, nL, nF, nc⟩ := I.pin (a, oe) (List.mem_append_right _ List.mem_cons_self)
  refine ⟨I.ok, I.os, I.bare, ⟨I.base.keep, I.base.slot, fun b u e n hx => ?_, I.base.there, fun b xs e => ?_, fun b u xs e => ?_, fun b ps e => ?_⟩, I.loc, I.cell, ?_, fun x c e => ?_, fun p hq => ?_, ?_, I.len⟩
  · rw [upd_ne (fun z => by rw [z, n0] at e; cases e)]
    exact I.base.free b u e n hx
  · have z := I.base.tups b xs e
    rw [upd_ne (ne_of_none z na)]
    exact z
  · have z := I.base.frzs b u xs e
    rw [upd_ne (ne_of_none z na)]
    exact z
  · obtain ⟨more, z⟩ := I.base.tbls b ps e
    refine ⟨more, ?_⟩
    rw [upd_ne (ne_of_none z na)]
    exact z
  · rw [upd_ne (Ne.symm nL)]
    exact I.free
  · have hc := I.freeC x c e
    rw [upd_ne (fun z => ?_)]
    · exact hc
    · obtain ⟨v, q⟩ := I.cell x c e
      rw [z] at q
      obtain ⟨o', h1, h2⟩ := id q
      rw [he] at h1
      cases h1
      exact nc v h2
  · have hq' : p ∈ X.pn ++ (a, oe) :: pins := by
      rcases List.mem_append.mp hq with z | z
      · exact List.mem_append_left _ z
      · exact List.mem_append_right _ (List.mem_cons_of_mem _ z)
    obtain ⟨h1, h2, h3, h4, h5⟩ := I.pin p hq'
    refine ⟨h1, ?_, h3, h4, h5⟩
    rw [upd_ne (hp p hq)]
    exact h2
  · exact HOk.laidN I.hok (fun _ _ e => e) na new
end
/-- except x as n: y = n -/
def wKeep (K : PySem.W.Frag) (c : Value) (i j : Nat) (D : Ends) : WX := fun cls d σ H =>
  PySem.W.exmOne K cls c = some true ∧ ∃ C dd, cls = .ref C ∧ d = some dd ∧ i < σ.length ∧ ∀ a, H a = none → D.nx (((σ.set i (some (.ref a))).set j (some (.ref a))).set i none) (upd H a (Exk C dd a))
section
variable {X : Cx} {x n y : Str} {c : Value} {i j : Nat} {body : List Stmt} {np p1 p2 p3 pos pos' : Pos} {tb : WX → TS}
theorem ps_try_keep (hs : X.stack = X.env :: X.outer) (hf : X.env.frame = some X.env.locals) (hN : X.N.Nodup) (hi : X.N[i]? = some n) (hln : X.env.kindOf n = some .local) (hlv : X.env.scope.names.lookup n = some .local) (hj : X.N[j]? = some y) (hjl : X.env.scope.names.lookup y = some .local) (hc : Names X x c) (hex : X.ex = [])
    (hb : ∀ (W : WX) (pn : List (Addr × Obj)) (xe : Value → Shared → Prop), Takes (X.tr pn xe) W → PassesOwn (model X.prog X.w) X.A X.env xe → PSs (X.tr pn xe) body (tb W))
    (hsw : swapsWith (.Name n p1) (some (.Name y p2)) p3.line X.env = pure false := by rfl) (hd1 : (n == ("__debug__" : Str)) = false := by decide) (hd2 : (n == ("__classdict__" : Str)) = false := by decide) :
    PS X (.Try body [.ExceptHandler (some (.Name x np)) (some n) [.Assign [.Name y p2] (.Name n p1) p3] pos'] [] [] pos) (fun D σ H => tb (wKeep X.K c i j D) D σ H) := by
  refine ⟨fun pins s σ H D I h => ?_⟩
  have ok := I.ok
  have hfr : X.A.frames = some (X.env :: X.outer) := by rw [ok.frames, hs]
  have hloc : Loc X.env.scope n := .inl hln
  refine wpAny_Try_except ?_
  refine wpAny_mono ((hb (wKeep X.K c i j D) (X.pn ++ pins) (fun e s₁ => wpAny (model X.prog X.w) X.A (noteFrame e X.env) (fun _ s₂ => wpAny (model X.prog X.w) X.A (setFlight e none) (fun _ s₃ =>
    wpAny (model X.prog X.w) X.A (handleBy e X.env [.ExceptHandler (some (.Name x np)) (some n) [.Assign [.Name y p2] (.Name n p1) p3] pos']) (SP X pins D) X.xe s₃) X.xe s₂) X.xe s₁) (fun u s' xx => ?_) PassesOwn.looking).run [] s σ H D (I.toTry _) h) (fun f s1 hsp => ?_) (fun e s1 he => he)
  · obtain ⟨a, B, sI, pins', σ', H', cls, d, rfl, J', nb, up, sky, na, os, ag, hb1, C, dd, rfl, rfl, hil, hyes⟩ := xx
    have J : Inv X pins σ' H' sI := J'.ofTry ok
    have sky' : Sky B (X.env :: X.outer) a (Zc (.ref C) (some dd)) X.env.locals s'.heap := by rw [← hs]; exact sky
    show wpAny (model X.prog X.w) X.A (noteFrame (.ref a) X.env) _ _ _
    refine Sky.land Zc.steady hfr hf sky' fun h3 fl3 up3 => ?_
    have J3 : Inv X pins σ' H' { s' with heap := h3 } := J.landed nb fl3.1 (up.trans up3) os ag
    obtain ⟨oe3, vs3, he3, hz3, hd3⟩ := fl3.there
    have notFr : ∀ {h : Heap} {o : Obj} {vs : Array Value}, h.FunFrames B (X.env :: X.outer) → h.get? a = some o → o.data = .fields vs → a ∉ frs (X.env :: X.outer) := fun {h o vs} ff e dd hm => by
      obtain ⟨_, o', e', hnf⟩ := ff.mem hm
      rw [e] at e'; cases e'
      exact hnf _ dd
    have nfr := notFr fl3.2.2.1 he3 hd3
    have nL : a ≠ X.env.locals := fun z => nfr (List.mem_filterMap.mpr ⟨X.env, List.mem_cons_self, by rw [hf, z]⟩)
    have nF : a ∉ X.fs := fun hm => by
      obtain ⟨e, he, q⟩ := List.mem_filterMap.mp hm
      exact nfr (List.mem_filterMap.mpr ⟨e, List.mem_cons_of_mem _ he, q⟩)
    have nI : sI.heap.get? a = none := by
      cases e : sI.heap.get? a with
      | none => rfl
      | some o =>
        have z := nb a o e (by rw [hs]; exact nfr)
        rw [fl3.2.1] at z
        cases z
    have n0 : X.s_0.heap.get? a = none := by
      cases e : X.s_0.heap.get? a with
      | none => rfl
      | some o =>
        obtain ⟨o', z⟩ := J.base.there a o e (by rw [hex]; exact fun z => nomatch z)
        rw [nI] at z
        cases z
    have np' : ∀ p ∈ X.pn ++ pins, p.1 ≠ a := fun p hp z => by
      have e := (J.pin p hp).1
      rw [z, nI] at e
      cases e
    have S3 := J3.suite he3 hd3 na nL nF
    refine wpAny_handleBy_cons (codeAny_handlers_test ?_) (by intro q; cases q)
    have LT : PySem.W.Looks (model X.prog X.w) h3 (typeOf (.ref a)) (.ref C) := fun A Q E s k q => wpAny_typeOf_ref (k _ _ he3) (by rw [hz3.1]; exact q)
    have LM := PySem.W.exm_one (M := model X.prog X.w) (J3.kIn) LT hb1
    have test : ∀ {Q : Value → Shared → Prop} {E : Value → Shared → Prop}, Q c { s' with heap := h3 } → wpAny (model X.prog X.w) (X.A.mark (some (.ref a))) (eval (.Name x np) X.env) Q E { s' with heap := h3 } := fun {Q E} q => by
      obtain ⟨hg, hdbg, hm | ⟨hm, hv, hnn⟩⟩ := hc
      · exact ld_glob (X := X.suite a ((a, oe3) :: (X.pn ++ pins))) S3 hg hm q hdbg
      · exact ld_blt (X := X.suite a ((a, oe3) :: (X.pn ++ pins))) S3 hg hm hv q hnn hdbg
    refine test (LM.here ?_)
    refine codeAny_handlers_suite_as ?_
    refine HandSPX.lands_againZ fl3 fun h4 fl4 up4 => ?_
    have J4 : Inv X pins σ' H' { s' with heap := h4 } := J.landed nb fl4.1 ((up.trans up3).trans up4) os ag
    obtain ⟨oe4, vs4, he4, hz4, hd4⟩ := fl4.there
    have S4 := J4.suite he4 hd4 na nL nF
    refine store_ok (X := X.suite a ((a, oe4) :: (X.pn ++ pins))) (v := .ref a) S4 hN hi hloc rfl (fun s5 S5 => ?_) (.inr hln)
    have suite : PSs (X.suite a ((a, oe4) :: (X.pn ++ pins))) [.Assign [.Name y p2] (.Name n p1) p3] (tAsg (tVar i) (gName j)) :=
      pss_one (ps_set (X := X.suite a ((a, oe4) :: (X.pn ++ pins))) hN hj (.inl hjl) (pe_var (X := X.suite a ((a, oe4) :: (X.pn ++ pins))) hi (.inl hlv) hd1 hd2) hsw (.inr hjl))
    refine wpAny_mono (suite.run [] s5 _ H' { nx := fun σ6 H6 => H6 = H' ∧ σ6 = (σ'.set i (some (.ref a))).set j (some (.ref a)), rt := fun _ _ => False, bk := fun _ _ => False, ct := fun _ _ => False } S5 ⟨.ref a, by rw [List.getElem?_set_self hil], rfl, rfl⟩) (fun f s6 hsp => ?_) (fun _ _ z => False.elim z)
    cases f with
    | next =>
      obtain ⟨σ6, H6, S6, q6, q7⟩ := hsp
      subst q6
      have pinA := S6.pin (a, oe4) (List.mem_append_left _ List.mem_cons_self)
      have S7 : Inv X ((a, oe4) :: pins) σ6 H6 s6 := (Inv.unsuite S6 ok).pins_of fun p hp => by
        rcases List.mem_cons.mp hp with e | z
        · rw [e]
          exact pinA
        · exact S6.pin p (List.mem_append_left _ (List.mem_cons_of_mem _ (List.mem_append_right _ z)))
      refine gone_ok S7 hN hi hln fun s7 J7 => ?_
      have e7 := (J7.pin (a, oe4) (List.mem_append_right _ List.mem_cons_self)).1
      refine ⟨_, _, inv_keep J7 n0 np' (exk_ok e7 hz4 hd4), ?_⟩
      rw [q7]
      exact hyes a na
    | brk =>
      obtain ⟨σ6, H6, S6, q6⟩ := hsp
      exact q6.elim
    | cont =>
      obtain ⟨σ6, H6, S6, q6⟩ := hsp
      exact q6.elim
    | ret u =>
      obtain ⟨v6, σ6, H6, S6, r6, q6⟩ := hsp
      exact q6.elim
  · cases f with
    | next =>
      obtain ⟨σ', H', J', q⟩ := hsp
      exact wpAny_execs_nil ⟨σ', H', J'.ofTry ok, q⟩
    | brk =>
      obtain ⟨σ', H', J', q⟩ := hsp
      exact ⟨σ', H', J'.ofTry ok, q⟩
    | cont =>
      obtain ⟨σ', H', J', q⟩ := hsp
      exact ⟨σ', H', J'.ofTry ok, q⟩
    | ret u =>
      obtain ⟨v, σ', H', J', r, q⟩ := hsp
      exact ⟨v, σ', H', J'.ofTry ok, r, q⟩
end
/-! ### what is asked of a kept exception -/
/-- kept.f -/
def tXk (C : Addr) (f : Str) (te : TE) : TE := fun σ H Q => te σ H fun x H1 => ∃ (a dd : Addr) (fs : List (Str × V)) (v : V), x = .ref a ∧ H1 a = some (Exk C dd a) ∧ H1 dd = some (.xd fs) ∧ fs.lookup f = some v ∧ Q v H1
theorem inst_exk {X : Cx} {pins : List (Addr × Obj)} {σ : L2.St} {H : Hp} {s : Shared} {C dd a : Addr} {fs : List (Str × V)} (I : Inv X pins σ H s) (ea : H a = some (Exk C dd a)) (ed : H dd = some (.xd fs)) :
    ∃ (oe : Obj) (od : Obj) (mA : Str → Option Value), PySem.W.InstAt s.heap a oe C (some od) ∧ (∀ f, RelO (fs.lookup f) (mA f)) ∧ ∀ n, PySem.W.lookIn n od = some (mA n) := by
  obtain ⟨⟨oe, vs, he, hz, hd⟩, _⟩ := (show ObjOk X.prog X.w H s.heap a (Exk C dd a) from I.hok a _ ea)
  have hx : ObjOk X.prog X.w H s.heap dd (.xd fs) := I.hok dd _ ed
  obtain ⟨mA, hns, hr⟩ := hx
  obtain ⟨od, ho, hl⟩ := lookIn_ns hns
  exact ⟨oe, od, mA, ⟨he, hz.1, by unfold PySem.W.notCls; rw [hd] <;> rfl, by rw [hz.2]; exact ho⟩, hr, hl⟩
theorem pe_xk {X : Cx} {C : Addr} {e : Expr} {te : TE} {pos : Pos} {n : Str} (T : XfC X.K C) (hno : PySem.W.findIn X.K (.ref C) n = some none) (he : PE X e te) (hb : attributeBase e n X.env (eval e X.env) = eval e X.env := by rfl) :
    PE X (.Attribute e n pos) (tXk C n te) := by
  refine ⟨fun pins s σ H Q I h => ?_⟩
  refine attr_of hb (thn (he.run pins s σ H _ I h) fun u s1 hh => ?_)
  obtain ⟨x, H1, I1, rx, a, dd, fs, v, ex, ea, ed, l, q⟩ := hh
  subst ex
  obtain rfl : u = Value.ref a := rx
  obtain ⟨oe, od, mA, J, hr, hl⟩ := inst_exk I1 ea ed
  obtain ⟨u, hu, ru⟩ := RelO.some_of (v := v) (o := mA n) (by rw [← l]; exact hr n)
  exact HandSPX.exc_get I1.kIn J T.ga T.gg T.exC (PySem.W.findObj_own T.hdC hno rfl (by rw [hl, hu])) (handed_of ru) ⟨v, H1, I1.tok _, ru, q⟩
/-- isinstance(kept, c) -/
def rIsK (K : PySem.W.Frag) (C : Addr) : List V → Hp → VK → Prop := fun xs H Q => ∃ (a dd : Addr) (fs : List (Str × V)) (c : V) (cv : Value) (b : Bool), xs = [.ref a, c] ∧ H a = some (Exk C dd a) ∧ H dd = some (.xd fs) ∧ ClsV c cv ∧ PySem.W.kitOne K (.ref C) cv = some b ∧ Q (.bl b) H
theorem call_isK {X : Cx} {D : Addr} (C : ExcC X.K D) (hcl : (PySem.W.clsIn X.K D).isSome = true) : CallR X (.builtin "isinstance") (rIsK X.K D) := by
  intro pins s σ H xs us Q I r h
  obtain ⟨a, dd, fs, c, cv, b, rfl, ea, ed, hcv, e, q⟩ := h
  obtain ⟨u1, u2, rfl, r1, r2⟩ := vals2 r
  cases (show u1 = Value.ref a from r1)
  have ec := hcv.eq r2
  subst ec
  obtain ⟨oe, od, mA, J, hr, hl⟩ := inst_exk I ea ed
  exact PySem.W.kia_one (PySem.W.kitx_exc hcl C.hg C.hk C.hs C.ha C.hn C.ht C.hm) I.kIn J e (fun z => nomatch z) fun tk => ⟨.bl b, H, I.tok tk, rfl, q⟩
section
variable {K : PySem.W.Frag} {X : Xc} {S : Sa} {Q : Sv → Os → Prop} {te : TE} {E : Ea}
def lookF (fds : List (Str × D)) (f : Str) : Option D := (fds.find? fun kv => kv.1 = f).map (·.2)
theorem dxf_look {as : List Addr} {H : Hp} {f : Str} : ∀ {vs : List (Str × V)} {ds : List (Str × D)} {z : D}, DxF K as H vs ds → lookF ds f = some z → ∃ v, vs.lookup f = some v ∧ Dx K as H v z
  | _, _, _, .nil, e => by simp [lookF] at e
  | _, _, z, .cons (k := k) (v := v) (d := d) (ds := ds) (vs := vs) h r, e => by
    by_cases hk : k = f
    · have e2 : some d = some z := by rw [← e]; simp [lookF, List.find?_cons, hk]
      cases e2
      refine ⟨v, ?_, h⟩
      rw [List.lookup_cons, hk]
      simp
    · have e2 : lookF ds f = some z := by rw [← e]; simp [lookF, List.find?_cons, hk]
      obtain ⟨u, h1, h2⟩ := dxf_look r e2
      refine ⟨u, ?_, h2⟩
      rw [List.lookup_cons, show (f == k) = false by simpa using fun z => hk z.symm]
      exact h1
theorem ew_xk {C : Addr} {f : Str} (h : EW K X te S fun x os => ∃ fds d, x = .d (.xo C fds) ∧ lookF fds f = some d ∧ Q (.d d) os) : EW K X (tXk C f te) S Q := fun as H σ Q' R x k =>
  h as H σ _ R x fun v H1 d os1 g1 R1 r1 ⟨fds, z, ed, el, q⟩ => by
    subst ed
    cases r1 with
    | xo n1 n2 h1 h2 hr =>
      obtain ⟨u, e1, e2⟩ := dxf_look hr el
      exact ⟨_, _, _, u, rfl, h1, h2, e1, k u H1 (.d z) os1 g1 R1 e2 q⟩
theorem ew_isK {C : Addr} {n : String} (h : EW K X te S fun x os => ∃ fds r, x = .d (.xo C fds) ∧ PySem.W.kitOne K (.ref C) (.type n) = some r ∧ Q (.d (.bl r)) os) : EW K X (tCB (rIsK K C) (tCons te (tCons (tC (.ty n)) tNil))) S Q := fun as H σ Q' R x k =>
  h as H σ _ R x fun v H1 d os1 g1 R1 r1 ⟨fds, r, ed, er, q⟩ => by
    subst ed
    cases r1 with
    | xo n1 n2 h1 h2 hr => exact ⟨_, _, _, .ty n, .type n, r, rfl, h1, h2, .ty n, er, k (.bl r) H1 (.d (.bl r)) os1 g1 R1 (Dx.bl r) q⟩
theorem bw_isN0 {os : Os} (q : Q (.d (.bl true)) os) : BW K rIsN (.d .non) (.d .non) os Q :=
  bw_pure (fun as H v u Q' R rx ry k => by
    cases rx
    cases ry
    exact ⟨rfl, k _ (.bl true)⟩) q
theorem bw_isN1 {os : Os} {C : Addr} {fds : List (Str × D)} (q : Q (.d (.bl false)) os) : BW K rIsN (.d (.xo C fds)) (.d .non) os Q :=
  bw_pure (fun as H v u Q' R rx ry k => by
    cases rx
    cases ry
    exact ⟨rfl, k _ (.bl false)⟩) q
/-- try: .. except c as n: y = n -/
theorem w_try_keep {c : Value} {i j : Nat} {tb : WX → TS} {xe : Addr → List (Str × D) → Sa → Prop} (hi : i < S.s.length) (h : ∀ wx, W K ⟨wx, xe⟩ (tb wx) { nx := E.nx, rt := E.rt, bk := E.bk, ct := E.ct } S)
    (hx : ∀ C fds S', xe C fds S' → PySem.W.exmOne K (.ref C) c = some true ∧ i < S'.s.length ∧ E.nx ⟨((S'.s.set i (some (.d (.xo C fds)))).set j (some (.d (.xo C fds)))).set i none, S'.os⟩) :
    W K X (fun D σ H => tb (wKeep K c i j D) D σ H) E S := fun as H σ D R x n r b ct => by
  refine h (wKeep K c i j D) as H σ D R ?_ n r b ct
  intro bs H' σ' S' C dd fs fds s R' hdd e rf z
  obtain ⟨h1, h2, h3⟩ := hx C fds S' z
  refine ⟨h1, C, dd, rfl, rfl, by rw [R'.slen]; exact h2, fun a ha => ?_⟩
  have g : Go bs H' (upd H' a (Exk C dd a)) := Go.new ha
  have R2 : Re K bs (upd H' a (Exk C dd a)) σ' S' := R'.go g (R'.o.new ha)
  have hdn : dd ∉ bs := fun hm => by
    obtain ⟨k, hk, ek⟩ := List.mem_iff_getElem.mp hm
    have h1 : bs[k]? = some dd := by rw [List.getElem?_eq_getElem hk, ek]
    have h2 : k < S'.os.length := R'.o.len ▸ hk
    have z := R'.o.own k dd S'.os[k] h1 (List.getElem?_eq_getElem h2)
    cases eo : S'.os[k] with
    | ml xs =>
      rw [eo] at z
      obtain ⟨vs, q, _⟩ := z
      rw [e] at q
      cases q
    | md xs =>
      rw [eo] at z
      obtain ⟨vs, q, _⟩ := z
      rw [e] at q
      cases q
  have had : dd ≠ a := ne_of_none e ha
  have rx : Dx K bs (upd H' a (Exk C dd a)) (.ref a) (.xo C fds) := .xo (R'.o.notin ha) hdn upd_same (by rw [upd_ne had]; exact e) (DxF.way (Way.of_go g) rf)
  have R3 := (R2.set i (v := .ref a) (d := .d (.xo C fds)) rx).set j (v := .ref a) (d := .d (.xo C fds)) rx
  have R4 : Re K bs (upd H' a (Exk C dd a)) (((σ'.set i (some (.ref a))).set j (some (.ref a))).set i none) ⟨((S'.s.set i (some (.d (.xo C fds)))).set j (some (.d (.xo C fds)))).set i none, S'.os⟩ := by
    refine ⟨R3.o, by simpa using R3.slen, fun k d hd => ?_⟩
    have hd' : ((((S'.s.set i (some (Sv.d (.xo C fds)))).set j (some (Sv.d (.xo C fds)))).set i none)[k]? = some (some d)) := hd
    by_cases hk : i = k
    · subst hk
      rw [List.getElem?_set] at hd'
      split at hd'
      · split at hd' <;> cases hd'
      · exact absurd rfl ‹_›
    · rw [List.getElem?_set_ne hk] at hd'
      obtain ⟨u, e1, e2⟩ := R3.slot k d hd'
      exact ⟨u, by rw [List.getElem?_set_ne hk]; exact e1, e2⟩
  exact n bs _ _ _ (s.trans (Stp.of_go g R2.o)) R4 h3
end
end Br

/-! BrR: a text back to front. -/
namespace Br
open PySem PySem.Spec PyProof.Rows L2
/-- z[::-1], of which its length is told -/
def tRevS (te : TE) : TE := fun σ H Q => te σ H fun x H1 => ∃ z : Str, x = .str z ∧ z.length ≤ sizeLine ∧ ∀ y : Str, y.length ≤ z.length → Q (.str y) H1
theorem pe_revs {X : Cx} {e : Expr} {te : TE} {k : Nat} {p1 p2 p3 pos : Pos} (he : PE X e te) : PE X (.Subscript e (.Slice none none (some (.UnaryOp .USub (.Constant (.int 1) k p1) p2)) p3) pos) (tRevS te) := by
  refine ⟨fun pins s σ H Q I h => ?_⟩
  refine Subscript_ (thn (he.run pins s σ H _ I h) fun v s1 ⟨x, H1, I1, r1, q1⟩ => ?_)
  obtain ⟨z, ex, hz, q⟩ := q1
  subst ex
  obtain ⟨t, rfl⟩ := r1
  have hst : PO X (some (.UnaryOp .USub (.Constant (.int 1) k p1) p2)) (tPart (tUn (rU fun i => .int (-i)) (tC (.int 1)))) := po_some (pe_un un_neg pe_int)
  refine wpAny_Slice (thn (po_none.run pins s1 σ H1 (fun o H2 => o = none ∧ H2 = H1) I1 ⟨rfl, rfl⟩) fun vl s2 ⟨l, H2, I2, pl, el, e2⟩ => ?_)
  subst el e2
  refine thn (po_none.run pins s2 σ H2 (fun o H3 => o = none ∧ H3 = H2) I2 ⟨rfl, rfl⟩) fun vu s3 ⟨u, H3, I3, pu, eu, e3⟩ => ?_
  subst eu e3
  refine thn (hst.run pins s3 σ H3 (fun o H4 => o = some (-1) ∧ H4 = H3) I3 ⟨1, rfl, -1, rfl, rfl, rfl⟩) fun vs s4 ⟨o, H4, I4, ps, eo, e4⟩ => ?_
  subst eo e4
  obtain ⟨l, rfl, el⟩ := IsPart.raw pl
  obtain ⟨u, rfl, eu⟩ := IsPart.raw pu
  obtain ⟨st, rfl, es⟩ := IsPart.raw ps
  have I5 : Inv X pins σ H4 { s4 with heap := s4.heap.push { cls := .type "slice", data := .fields #[partValue l, partValue u, partValue st] } } := I4.kept (t' := s4.toks) fun b ob q => Heap.get?_push_of_some _ q
  show wpAny (model X.prog X.w) X.A (subscriptTail e (.Slice none none (some (.UnaryOp .USub (.Constant (.int 1) k p1) p2)) p3) (.str z t) (.ref s4.heap.objs.size)) (EP X pins σ Q) X.xe { s4 with heap := s4.heap.push { cls := .type "slice", data := .fields #[partValue l, partValue u, partValue st] } }
  refine tail_any (ops := [.ref s4.heap.objs.size, .str z t]) (typeIs_str _ _ _) PySem.F.slot_str_getitem.lookup ?_ (by with_unfolding_all rfl)
  refine wpAny_getItem_str_slice (l := l) (u := u) (st := st) (Heap.IsSliceOf.new _ _ _ _) (by rw [es]; rfl) ?_
  cases l with
  | some l => cases el
  | none =>
    cases u with
    | some u => cases eu
    | none =>
      cases st with
      | none => cases es
      | some st =>
        obtain ⟨n, tk⟩ := st
        have en : n = -1 := by
          have e : some n = some (-1) := es
          injection e
        subst en
        have hlen := step_rev_len z tk
        have hn : ¬ (((((some ((-1 : Int), tk)).map (·.1)).getD 1 == 1) && ((slicePicked z none none (some ((-1 : Int), tk))).length == z.length)) = true) := by
          have : ((((some ((-1 : Int), tk)).map (·.1)).getD 1 == 1)) = false := rfl
          rw [this]
          simp
        have e1 : Txt.sliceBy z none none (-1, tk) = ⟨((slicePicked z none none (some (-1, tk))).filterMap (z.cps[·]?)).toArray⟩ := by
          unfold Txt.sliceBy
          rw [if_neg hn]
        have e2 : sliceMade z t none none (some (-1, tk)) = Made.str (Txt.sliceBy z none none (-1, tk)) := by
          rw [e1]
          unfold sliceMade
          rw [if_neg hn]
        rw [e2]
        exact ⟨by rw [hlen]; exact hz, .str _, _, I5.tok _, ⟨_, rfl⟩, q _ (Nat.le_of_eq hlen)⟩
section
variable {K : PySem.W.Frag} {X : Xc} {S : Sa} {Q : Sv → Os → Prop} {te : TE}
theorem ew_revs (h : EW K X te S fun x os => ∃ z : Str, x = .d (.str z) ∧ z.length ≤ sizeLine ∧ ∀ y : Str, y.length ≤ z.length → Q (.d (.str y)) os) : EW K X (tRevS te) S Q := fun as H σ Q' R x k =>
  h as H σ _ R x fun v H1 d os1 g1 R1 r1 ⟨z, ed, hz, q⟩ => by
    subst ed
    cases r1
    exact ⟨z, rfl, hz, fun y hy => k _ H1 (.d (.str y)) os1 g1 R1 (Dx.str _) (q y hy)⟩
end
end Br

/-! BrF: a byte in two signs; a tuple's slices. -/
namespace PySem.W
open Lean Elab Tactic Meta PySem PySem.Calls PyProof.Rows
open Builtin Builtin.Str Builtin.Int Builtin.Float
def br_two (n : Nat) : PySem.Str := ⟨#[("0123456789abcdef" : PySem.Str).cps.getD (n / 16) 0, ("0123456789abcdef" : PySem.Str).cps.getD (n % 16) 0]⟩
theorem br_fmt02 {a : Int} {t : Tok} {n : Nat} (ha : a = (n : Int)) (hn : n < 256) : ∀ u, Meets («int.__format__» ⟨[.int a t, .str ⟨#[48, 50, 120]⟩ u], []⟩) (fun _ R s => ∀ t' k, R (.ok (.ret (.str (br_two n) t'))) { s with toks := k }) := by
  intro _
  apply KPc.meets_of
  intro _ _ _ _ _ _ _
  unfold Builtin.«int.__format__»
  refine wpAny_bind (wpAny_of_eq (a := (_, _)) rfl ?_)
  refine wpAny_bind (wpAny_of_eq (a := _) rfl ?_)
  kxf_if
  refine wpAny_bind (wpAny_typeNameOf (T := "str") (typeIs_str _ _ _) (by decide) fun _ => ?_)
  refine wpAny_bind (wpAny_of_eq (a := some _) rfl ?_)
  kxf_if
  kxf_if
  refine wpAny_bind (wpAny_typeNameOfCut_int ?_)
  (repeat kxf_if)
  subst ha
  refine KXf.ret_text (T := br_two n) ?_ ?_ (by assumption)
  · rename_i h _
    clear h
    revert hn
    revert n
    decide +kernel
  · rename_i h _
    clear h
    refine Nat.le_trans (m := 100) ?_ (by rw [sizeLine_eq]; decide)
    revert hn
    revert n
    decide +kernel
end PySem.W

namespace Br
open PySem PySem.Spec PyProof.Rows L2
/-- f'{x:02x}' of a byte -/
def tFmt2 (te : TE) : TE := fun σ H Q => te σ H fun x H1 => ∃ n : Nat, x = .int (n : Int) ∧ n < 256 ∧ Q (.str (PySem.W.br_two n)) H1
theorem pe_fmt02x {X : Cx} {e : Expr} {te : TE} {pos p1 p2 : Pos} {k : Nat} (he : PE X e te) : PE X (.FormattedValue e (-1) (some (.JoinedStr [.Constant (.str "02x") k p1] p2)) pos) (tFmt2 te) := by
  refine ⟨fun pins s σ H Q I h => ?_⟩
  have hs : PE X (.JoinedStr [.Constant (.str "02x") k p1] p2) (tC (.str "02x")) := pe_joined1 pe_str
  refine wpAny_FormattedValue_spec (thn (he.run pins s σ H _ I h) fun v s1 ⟨x, H1, I1, r1, n, ex, hn, q⟩ => ?_)
  subst ex
  obtain ⟨t, rfl⟩ := r1
  refine thn (hs.run pins s1 σ H1 (fun y H2 => y = .str "02x" ∧ H2 = H1) I1 ⟨rfl, rfl⟩) fun r s2 ⟨y, H2, I2, r2, ey, e2⟩ => ?_
  subst ey e2
  obtain ⟨t2, rfl⟩ := r2
  refine ⟨_, t2, rfl, PySem.W.KXf.field_int (spec' := ⟨#[48, 50, 120]⟩) (by decide +kernel) (by decide) (by rw [sizeLine_eq]; decide) (PySem.W.br_fmt02 rfl hn) fun t' k => ?_⟩
  exact ⟨.str _, _, I2.tok _, ⟨t', rfl⟩, q⟩
section
variable {K : PySem.W.Frag} {X : Xc} {S : Sa} {Q : Sv → Os → Prop} {te : TE}
theorem ew_fmt2 (h : EW K X te S fun x os => ∃ n : Nat, x = .d (.int (n : Int)) ∧ n < 256 ∧ Q (.d (.str (PySem.W.br_two n))) os) : EW K X (tFmt2 te) S Q := fun as H σ Q' R x k =>
  h as H σ _ R x fun v H1 d os1 g1 R1 r1 ⟨n, ed, hn, q⟩ => by
    subst ed
    cases r1
    exact ⟨n, rfl, hn, k _ H1 (.d (.str _)) os1 g1 R1 (Dx.str _) q⟩
theorem cutD_all {xs : List D} {lo hi : Option Int} (h : HT.sIx xs.length 0 lo = 0 ∧ HT.sIx xs.length xs.length hi = xs.length) : cutD xs lo hi = xs := by
  unfold cutD
  rw [h.1, h.2]
  simp
theorem sw_T {xs : List D} {lo hi : Option Int} {os : Os} (q : Q (.d (.tup (cutD xs lo hi))) os) : SW K (rSlA K) (.d (.tup xs)) lo hi os Q := fun as H v Q' R r k => by
  cases r with
  | @tup a vs _ hl hr =>
    refine ⟨a, vs, rfl, hl.sq, fun h => ?_, fun h p hp => k _ _ (.d (.tup _)) os (Go.new hp) (R.new hp) (dx_newT R hp (cut_dx hr lo hi)) q⟩
    rw [hr.length] at h
    rw [cutD_all h] at q
    exact k _ H (.d (.tup xs)) os (Go.refl _ _) R (.tup hl hr) q
end
/-! within a comprehension, where the context's own K isn't to be named -/
def tJn (K : PySem.W.Frag) (to te : TE) : TE := tM1 (fun x xs H Q => ∃ a p, ∃ ys : List Str, x = .str a ∧ xs = [.ref p] ∧ (SqL K H p (ys.map V.str) ∨ SqT K H p (ys.map V.str)) ∧ (ys.map (·.length)).sum + ys.length * a.length ≤ 16777216 ∧ Q (.str (Txt.join a ys)) H) to te
theorem pe_joinK {X : Cx} {K : PySem.W.Frag} (hK : X.K = K) {o e : Expr} {to te : TE} {apos pos : Pos} (ho : PE X o to) (he : PE X e te) (hs : starEach [e] X.env = [(false, eval e X.env)] := by rfl) (hbase : attributeBase o "join" X.env (eval o X.env) = eval o X.env := by rfl) (hline : (apos.endLine == pos.line) = true := by rfl) :
    PE X (.Call (.Attribute o "join" apos) [e] [] pos) (tJn K to te) := by
  subst hK
  exact pe_join ho he hs hbase hline
theorem pi_tupK {X : Cx} {K : PySem.W.Frag} (hK : X.K = K) {tg l : Expr} {tl : TE} (hl : PE X l tl) : PI X tg l (iTup K tl) := by
  subst hK
  exact pi_tup hl
section
variable {K : PySem.W.Frag} {X : Xc} {S : Sa} {Q : Sv → Os → Prop} {te to : TE}
theorem ew_joinK (h : EW K X to S fun x os => ∃ a : Str, x = .d (.str a) ∧ EW K X te ⟨S.s, os⟩ fun y os2 => ∃ ys : List Str, y = .d (.lst (ys.map D.str)) ∧ (ys.map (·.length)).sum + ys.length * a.length ≤ 16777216 ∧ Q (.d (.str (Txt.join a ys))) os2) : EW K X (tJn K to te) S Q := ew_join h
end
end Br

/-! BrG: a law's own def, called with nothing being shown: repr of data. -/
namespace Br
open PySem PySem.Spec PyProof.Rows L2
/-- a def's promise where no repr is under way -/
structure FnG (P : Program) (w : World) (K : PySem.W.Frag) (mg : Str → Option Value) (base : Heap) (k : Nat) (f : Addr) (fd : FuncData) (ps : List Str) (sp : Sp) : Prop where
  len : ∀ vs H Q E, sp vs H Q E → vs.length = ps.length
  run : ∀ (A : Around) (outer : List Env) (s : Shared) (H : Hp) (args : Args) (us : List Value) (vs : List V) (Q : VK) (E : XK), A.guards = some [] → Room k A → Env0 P w K mg base A outer s H → BindsTo s fd args (ps.zip us) → Vals vs us → sp vs H Q E →
    codeAny (model P w) A (.call (.ref f) args) (CR CX0 outer P w H s Q E) s
theorem fn_ofG {P : Program} {w : World} {K : PySem.W.Frag} {mg : Str → Option Value} {base : Heap} {k : Nat} {f : Addr} {name qual : Str} {params : Arguments} {body : List Stmt} {scope : Scope} {dV kV doc pm cdv ct oc : Value} {an od : Option Addr}
    {osl : Array (Option Value)} {N ps : List Str} {sp : Sp} (lk : K.lookup f = some ⟨oc, od, .func (PySem.W.fnOf name qual params body scope dV kV doc pm an cdv ct), osl⟩) (hcd : PySem.W.codeIn K cdv qual = true) (S : FnScope N ps scope)
    (len : ∀ vs H Q E, sp vs H Q E → vs.length = ps.length)
    (hbody : ∀ (A : Around) (outer : List Env) (s : Shared) (H : Hp) (vs : List V) (Q : VK) (E : XK), (A.deeper (envOfC qual scope s.heap.objs.size f cdv)).guards = some [] → Room k (A.deeper (envOfC qual scope s.heap.objs.size f cdv)) → sp vs H Q E →
      ∃ t, PSs (cxOf CX0 P w K mg base N qual scope f cdv A outer s H E) body t ∧ t { nx := fun _ H' => Q .non H', rt := Q } (L2.start N vs) H) :
    FnG P w K mg base (k + 1) f (PySem.W.fnOf name qual params body scope dV kV doc pm an cdv ct) ps sp where
  len := len
  run A outer s H args us vs Q E hg hr e0 hb r hsp := by
    have inK : K.In s.heap := e0.mod.kin.keeps fun p u q => (e0.bs p u q).1
    have free : s.heap.NoLimit := e0.mod.nolimit.keeps fun p u q => (e0.bs p u q).1
    have kinds : ∀ z ∈ ps.zip us, scope.names.lookup z.1 = some .local ∨ (scope.names.lookup z.1 = some .cell ∧ ((cellsFrom (s.heap.objs.size + 1) scope.names []).lookup z.1).isSome = true) := by
      rintro ⟨m, u⟩ hz
      cases S.par m (List.of_mem_zip hz).1 with
      | inl z => exact .inl z
      | inr z => exact .inr ⟨z, PySem.W.cellsFrom_some _ _ _ (.inl z)⟩
    apply codeAny_call_function hr.depth (inK _ _ lk) rfl S.co S.gen rfl (PySem.W.codeRec_of inK hcd)
    apply hb
    apply wpAny_newFunctionEnv_cells S.kind kinds
    intro env henv s1 hin
    cases henv
    refine ⟨free.keeps hin.toInCall.keep, codeAny_func ?_⟩
    have hg2 : (A.deeper (envOfC qual scope s.heap.objs.size f cdv)).guards = some [] := hg
    obtain ⟨t, rules, reading⟩ := hbody A outer s H vs Q E hg2 (hr.deeper _) hsp
    have J : Inv (cxOf CX0 P w K mg base N qual scope f cdv A outer s H E) [] (L2.start N vs) H s1 := inv_start S hr.hd e0 (len _ _ _ _ hsp) r hin
    have run := rules.run [] s1 (L2.start N vs) H _ J reading
    refine wpAny_mono run ?_ fun _ _ z => z
    intro fl s' ends
    cases fl with
    | brk => exact ends.elim fun _ z => z.elim fun _ z => z.2.elim
    | cont => exact ends.elim fun _ z => z.elim fun _ z => z.2.elim
    | ret u =>
      obtain ⟨v, _, H2, J2, rv, q⟩ := ends
      exact ⟨v, H2, J2.os, J2.bare, J2.base, J2.hok, rv, q⟩
    | next =>
      obtain ⟨_, H2, J2, q⟩ := ends
      exact ⟨V.non, H2, J2.os, J2.bare, J2.base, J2.hok, rfl, q⟩
/-- the call of a law's def, behind the top -/
theorem called {P : Program} {w : World} {K : PySem.W.Frag} {mg mb : Str → Option Value} {k : Nat} {fa a : Addr} {fd : FuncData} {x : Str} {sp : Sp} {s : Shared} {vs : List Value} {ns : List Int}
    (inK : K.In s.heap) (gl : s.heap.Ns mainGlobals mg) (bl : s.heap.Ns builtinsNs mb) (blb : ∀ y : Str, y ≠ "__name__" → mb y = bootBuiltins y) (lim : s.heap.NoLimit) (gens : s.gens = #[])
    (at_a : s.heap.get? a = some { cls := .type "list", data := .seq vs.toArray }) (nums : IntsAre vs ns) (short : ns.length ≤ sizeLine) (room : Room k callerA)
    (F : ∀ base : Heap, K.In base → base.Ns mainGlobals mg → FnG P w K mg base k fa fd [x] sp) (binds : ∀ (s : Shared) (u : Value), BindsTo s fd ⟨[u], []⟩ [(x, u)])
    (promise : ∀ H : Hp, SqL K H a (ns.map V.int) → sp [.ref a] H (fun v _ => v = .bl true) fun _ _ _ => False) :
    codeAny (model P w) callerA (.call (.ref fa) ⟨[.ref a], []⟩) (fun r s' => r = .ok (.ret (.bool true)) ∧ OldK s.heap s'.heap ∧ s'.os = s.os ∧ AllBare s'.gens) s := by
  have lenV := nums.length
  have vals := vals_ints nums
  -- what is tracked: the script, unless it is written
  obtain ⟨H, only, seq, ok, fresh⟩ : ∃ H : Hp, (∀ b, H b = none ∨ (b = a ∧ H b = some (.frz { cls := .type "list", data := .seq vs.toArray } (.lst (ns.map V.int))))) ∧ SqL K H a (ns.map V.int) ∧ HOk P w H s.heap ∧ (H a ≠ none → K.lookup a = none) := by
    cases hk : K.lookup a with
    | some o =>
      have e := inK a o hk
      rw [at_a] at e
      cases e
      exact ⟨fun _ => none, fun _ => .inl rfl, .inr ⟨_, vs.toArray, _, hk, rfl, rfl, rfl, by rw [List.size_toArray, lenV]; exact short, by simpa using vals⟩, fun _ _ z => (nomatch z), fun z => absurd rfl z⟩
    | none =>
      have tracked : ∀ b, (if b = a then some (HO.frz { cls := .type "list", data := .seq vs.toArray } (.lst (ns.map V.int))) else none) = none ∨ (b = a ∧ (if b = a then some (HO.frz { cls := .type "list", data := .seq vs.toArray } (.lst (ns.map V.int))) else none) = some (.frz { cls := .type "list", data := .seq vs.toArray } (.lst (ns.map V.int)))) := fun b => by
        by_cases e : b = a
        · exact .inr ⟨e, if_pos e⟩
        · exact .inl (if_neg e)
      refine ⟨fun b => if b = a then some (.frz { cls := .type "list", data := .seq vs.toArray } (.lst (ns.map V.int))) else none, tracked, .inl (.inr ⟨_, if_pos rfl⟩), fun b u z => ?_, fun _ => rfl⟩
      rcases tracked b with q | ⟨e, q⟩
      · have y := q.symm.trans z
        cases y
      · have y := q.symm.trans z
        cases y
        subst e
        exact ⟨at_a, by rw [List.length_map]; exact short, vs, _, vals, at_a⟩
  have dicts : ∀ {b : Addr} {o : Obj} {es : Array DictEntry} {ep : Nat}, s.heap.get? b = some o → o.data = .dict es ep → H b = none := fun {b o es ep} e d => by
    rcases only b with z | ⟨rfl, _⟩
    · exact z
    · rw [at_a] at e
      cases e
      exact absurd d (by intro z; cases z)
  have low : ∀ {b : Addr} {m : Str → Option Value}, s.heap.Ns b m → (hidT s.heap H).Ns b m := by
    rintro b m ⟨o, es, ep, e, d, r⟩
    exact ⟨o, es, ep, hidT_get e (dicts e d), d, r⟩
  have lowK : K.In (hidT s.heap H) := fun b o e => hidT_get (inK b o e) (by
    rcases only b with z | ⟨rfl, z⟩
    · exact z
    · have y := fresh (by rw [z]; intro q; cases q)
      rw [e] at y
      cases y)
  have limL : (hidT s.heap H).NoLimit := by
    obtain ⟨mc, h1, h2⟩ := lim
    exact ⟨mc, low h1, h2⟩
  have e0 : Env0 P w K mg (hidT s.heap H) callerA [] s H :=
    ⟨rfl, ⟨lowK, low gl, ⟨mb, low bl, blb⟩, limL⟩, fun b o e => of_hidT e, Nat.le_of_eq (hidT_size _ _), trivial, fun b hb => (by cases hb), ok, .of_eq gens⟩
  have run := (F _ lowK (low gl)).run callerA [] s H ⟨[.ref a], []⟩ [.ref a] [.ref a] (fun v _ => v = .bl true) (fun _ _ _ => False) rfl room e0 (binds s (.ref a)) (.cons rfl .nil) (promise H seq)
  refine codeAny_mono run fun r s' q => ?_
  cases r with
  | error e => exact q.elim
  | ok fl =>
    cases fl with
    | next => exact q.elim
    | brk => exact q.elim
    | cont => exact q.elim
    | ret u =>
      obtain ⟨v, H2, os, bare, un, ok2, rv, ev⟩ := q
      have ev' : v = .bl true := ev
      subst ev'
      have eu : u = Value.bool true := rv
      subst eu
      refine ⟨rfl, OldK.of_keep fun b o e => ?_, os, bare⟩
      rcases only b with z | ⟨rfl, z⟩
      · exact un.keep b o e z (by intro q; cases q) (by intro q; cases q)
      · have z2 := un.frzs _ _ _ z
        have y1 := (ok _ _ z).1
        have y2 := (ok2 _ _ z2).1
        rw [e] at y1
        cases y1
        exact y2
/-- the goal that the head leaves -/
theorem walkG {l : PySem.W.OpenLaw} {n k : Nat} {q : Program} {loose : List Str} {XP : (Str → Option Value) → Heap → Prop} {YP : World → Heap → Prop} {d : DefRec} {K : Params → PySem.W.Frag} {sp : World → Sp} {x : Str}
    (hn : l.most = some n) (hn2 : n ≤ sizeLine) (hdf : d.params.defaults = []) (room : Room k callerA) (hY : ∀ (w : World) (h : Heap), YP w h → (K w.params).In h)
    (F : ∀ (w : World) (mg : Str → Option Value) (fa : Addr) (h : Heap), (K w.params).In h → h.Ns mainGlobals mg → mg d.name = some (.ref fa) →
      ∃ fd : FuncData, (∀ (s : Shared) (u : Value), BindsTo s fd ⟨[u], []⟩ [(x, u)]) ∧ ∀ base : Heap, (K w.params).In base → base.Ns mainGlobals mg → FnG l.prog w (K w.params) mg base k fa fd [x] (sp w))
    (promise : ∀ (w : World) (H : Hp) (a : Addr) (ns : List Int), ns.length ≤ n → SqL (K w.params) H a (ns.map V.int) → sp w [.ref a] H (fun v _ => v = .bl true) fun _ _ _ => False) :
    PySem.W.WalkO q loose XP YP l.row.toRowW d [] (fun f vs => PySem.call f vs) := by
  refine Att.attach_call hn hdf ?_
  intro w s₀ s₁ mg mb fa o pm cd doc a vs ns G Y _ _ _ named obj nums len gens
  have inK := hY w _ Y
  obtain ⟨fd, binds, hF⟩ := F w mg fa _ inK G.T.g named
  exact called inK G.T.g G.T.b G.T.builtins G.T.nolimit gens obj nums (Nat.le_trans len hn2) room hF binds fun H seq => promise w H a ns len seq
/-! ### repr -/
def rRepr (K : PySem.W.Frag) : List V → Hp → VK → Prop := fun xs H Q => ∃ (a : Addr) (p : PyData), xs = [.ref a] ∧ Dp K H (.ref a) p ∧ p.showable = true ∧ p.hasDict = false ∧ p.depth ≤ 10 ∧ p.shown.length ≤ sizeLine ∧ Q (.str p.shown) H
theorem call_repr {X : Cx} (hg : X.A.guards = some []) (hu : X.A.units + 64 < cLine) : CallR X (.builtin "repr") (rRepr X.K) := by
  intro pins s σ H xs us Q I r h
  obtain ⟨a, p, rfl, hd, h1, h2, h3, h4, q⟩ := h
  obtain ⟨u, rfl, rx⟩ := vals1 r
  obtain ⟨as, rd⟩ := Dp.reads I p _ _ hd rx
  cases (show u = Value.ref a from rx)
  refine repr_of_reads' rd h1 (fun z => by rw [h2] at z; cases z) hg (by omega) (fun _ _ e => e) (fun h' t tk keep => ?_) h4
  exact ⟨.str p.shown, H, I.kept (t' := tk) keep, ⟨t, rfl⟩, q⟩
section
variable {K : PySem.W.Frag} {os : Os} {Q : Sv → Os → Prop}
theorem cw_reprL {xs : List D} {ps : List PyData} (e : D.pys xs = some ps) (h1 : (PyData.list ps).showable = true) (h2 : (PyData.list ps).hasDict = false) (h3 : (PyData.list ps).depth ≤ 10) (h4 : (PyData.list ps).shown.length ≤ sizeLine) (q : Q (.d (.str (PyData.list ps).shown)) os) : CW K (rRepr K) [.d (.lst xs)] os Q :=
  cw_pure (fun as H vs Q' R r k => by
    cases r with
    | cons h t =>
      cases t
      have dp := Dx.dp (p := .list ps) h (by show (D.pys xs).map PyData.list = _; rw [e]; rfl)
      cases h with
      | @lst a vs _ hl hr => exact ⟨a, _, rfl, dp, h1, h2, h3, h4, k _ (.str _)⟩) q
theorem cw_reprU {xs : List D} {ps : List PyData} (e : D.pys xs = some ps) (h1 : (PyData.tuple ps).showable = true) (h2 : (PyData.tuple ps).hasDict = false) (h3 : (PyData.tuple ps).depth ≤ 10) (h4 : (PyData.tuple ps).shown.length ≤ sizeLine) (q : Q (.d (.str (PyData.tuple ps).shown)) os) : CW K (rRepr K) [.d (.tup xs)] os Q :=
  cw_pure (fun as H vs Q' R r k => by
    cases r with
    | cons h t =>
      cases t
      have dp := Dx.dp (p := .tuple ps) h (by show (D.pys xs).map PyData.tuple = _; rw [e]; rfl)
      cases h with
      | @tup a vs _ hl hr => exact ⟨a, _, rfl, dp, h1, h2, h3, h4, k _ (.str _)⟩) q
end
end Br

namespace Ka
open PySem PySem.Spec PyProof.Rows L2 Br
def topS (i : Nat) : Stmt := PySem.Challenge.pw_byteround_k01_rows_of_bytes_as_texts.main.body.getD i (.Pass ⟨0, 0, 0, 0⟩)
def pen (cells : List Int) (nth left : Int) : List (Key × D) := [(.inr "cells", .lst (cells.map D.int)), (.inr "nth", .int nth), (.inr "left", .int left)]
theorem pen_cells {c : List Int} {n l : Int} : lookD (pen c n l) (.inr "cells") = some (.lst (c.map D.int)) := rfl
theorem pen_nth {c : List Int} {n l : Int} : lookD (pen c n l) (.inr "nth") = some (.int n) := rfl
theorem pen_left {c : List Int} {n l : Int} : lookD (pen c n l) (.inr "left") = some (.int l) := rfl
theorem put_nth {c : List Int} {n l m : Int} : putD (pen c n l) (.inr "nth") (.int m) = pen c m l := rfl
theorem put_left {c : List Int} {n l m : Int} : putD (pen c n l) (.inr "left") (.int m) = pen c n m := rfl
/-- the store o, a pen of the cells at k, of at most b draws -/
def Pn (k : Nat) (cells : List Int) (b : Int) (o os : Os) : Prop := ∃ nth left, os = o.set k (.md (pen cells nth left)) ∧ k < o.length ∧ (0 ≤ nth ∧ nth ≤ b) ∧ 0 ≤ left
theorem Pn.mono {k : Nat} {cells : List Int} {b c : Int} {o os : Os} (h : Pn k cells b o os) (hb : b ≤ c) : Pn k cells c o os := by
  obtain ⟨n, l, e, hk, hn, hl⟩ := h
  exact ⟨n, l, e, hk, ⟨hn.1, by omega⟩, hl⟩
theorem Pn.len {k : Nat} {cells : List Int} {b : Int} {o os : Os} (h : Pn k cells b o os) : os.length = o.length := by
  obtain ⟨n, l, e, _⟩ := h
  rw [e, List.length_set]
theorem Pn.ret {k : Nat} {cells : List Int} {b c : Int} {o os os2 : Os} {d : D} {QA : D → Os → Prop} (h : Pn k cells b o os) (h2 : Pn k cells c o os2) (q : QA d os2) : RetOk os.length QA (.d d) os2 := by
  show QA d (os2.take os.length)
  rw [List.take_of_length_le (by rw [h.len, h2.len]; exact Nat.le_refl _)]
  exact q
theorem Pn.push {k : Nat} {cells : List Int} {b : Int} {o os : Os} (x : Ob) (h : Pn k cells b o os) : Pn k cells b (o ++ [x]) (os ++ [x]) := by
  obtain ⟨n, l, e, hk, hn, hl⟩ := h
  exact ⟨n, l, by rw [e, List.set_append_left _ _ hk], by rw [List.length_append]; omega, hn, hl⟩
theorem Pn.pop {k : Nat} {cells : List Int} {b : Int} {o os2 : Os} {x : Ob} (hk : k < o.length) (h : Pn k cells b (o ++ [x]) os2) : ∃ os3, os2 = os3 ++ [x] ∧ Pn k cells b o os3 := by
  obtain ⟨n, l, e, _, hn, hl⟩ := h
  exact ⟨o.set k _, by rw [e, List.set_append_left _ _ hk], n, l, rfl, hk, hn, hl⟩
def fDraw : FD := fun ds os QA _ => ∃ (k : Nat) (span : Int) (cells : List Int) (b : Int) (o : Os), ds = [.o k, .d (.int span)] ∧ Pn k cells b o os ∧ (0 < span ∧ span < 2 ^ 64) ∧ b < 2 ^ 39 ∧
  ∀ d os', 0 ≤ d → d < span → Pn k cells (b + 1) o os' → QA (.int d) os'
theorem draw_raw {ds : List Sv} {os : Os} {QA : D → Os → Prop} {EA : Xa} (h : fDraw ds os QA EA) : ∃ (k : Nat) (span : Int) (cells : List Int) (nth left : Int), ds = [.o k, .d (.int span)] ∧ os[k]? = some (.md (pen cells nth left)) ∧ (0 < span ∧ span < 2 ^ 64) ∧ (0 ≤ nth ∧ nth < 2 ^ 40) ∧ 0 ≤ left ∧
  ∀ d nth' left', 0 ≤ d → d < span → nth ≤ nth' → nth' ≤ nth + 1 → 0 ≤ left' → QA (.int d) (os.set k (.md (pen cells nth' left'))) := by
  obtain ⟨k, span, cells, b, o, e, ⟨nth, left, eo, hk, hn, hl⟩, hs, hb, q⟩ := h
  subst eo
  exact ⟨k, span, cells, nth, left, e, List.getElem?_set_self hk, hs, ⟨hn.1, by omega⟩, hl, fun d n2 l2 h0 h1 h2 h3 h4 => q d _ h0 h1 ⟨n2, l2, List.set_set .., hk, ⟨by omega, by omega⟩, h4⟩⟩
local macro_rules | `(tactic| walk_at "side") => `(tactic| first
  | exact c_divS (by omega) (by omega)
  | exact c_mulS (by omega) (by omega)
  | omega
  | (dsimp only; omega)
  | decide
  | exact ⟨by decide, by decide, by decide⟩)
local macro_rules | `(tactic| walk_at "b") => `(tactic| first
  | with_reducible refine w_seq ?_
  | with_reducible refine w_next ?_
  | with_reducible refine w_ret ?_
  | with_reducible refine w_if ?_
  | ((with_reducible refine w_asg ?_); (try dsimp only [List.set_cons_zero, List.set_cons_succ]))
  | ((with_reducible refine w_dputS ?_); (try dsimp only [List.set_cons_zero, List.set_cons_succ]))
  | with_reducible refine br_T ?_
  | with_reducible refine br_F ?_
  | with_reducible refine tw_test ?_
  | with_reducible refine tw_and ?_
  | with_reducible refine tw_or ?_
  | with_reducible refine tw_not ?_
  | with_reducible refine tw_B ?_
  | with_reducible refine ew_int ?_
  | with_reducible refine ew_str ?_
  | with_reducible refine ew_bl ?_
  | with_reducible refine ew_non ?_
  | ((with_reducible refine ew_var (d := ?hd) ?hv ?_); (case hv => exact rfl))
  | ((with_reducible refine ew_op ?_); (try dsimp only))
  | with_reducible refine ew_cb ?_
  | with_reducible refine ew_dgetS ?_
  | with_reducible refine ew_lst2 ?_
  | with_reducible refine ew_tup2 ?_
  | ((with_reducible refine aw_cons ?_); (try dsimp only))
  | with_reducible refine aw_nil ?_
  | with_reducible refine bw_i0 ?_
  | with_reducible refine bw_ib ?_
  | with_reducible refine bw_neNil ?_
  | ((with_reducible refine bw_i ?hc ?_); (case hc => walk_at "side"))
  | with_reducible refine cw_abs ?_
  | with_reducible refine cw_lenL ?_
  | ((with_reducible refine Exists.intro _ (And.intro rfl ?_)); (try dsimp only))
  | ((with_reducible refine And.intro (small_len (Nat.le_of_ble_eq_true rfl)) ?_); (try dsimp only))
  | ((with_reducible refine ⟨_, ?kv, ?dd, rfl, ?ho, ?lk, ?_⟩); (case ho => first | assumption | exact get_set (by assumption)); (case lk => rfl); (try dsimp only))
  | ((with_reducible refine ⟨_, ?kv, _, ?k2, ?o3, rfl, rfl, ?ho, ?lk, ?e1, ?e2, ?_⟩); (case ho => first | assumption | exact get_set (by assumption)); (case lk => exact Nat.le_of_ble_eq_true rfl); (case e1 => first | exact put_nth | exact put_left); (case e2 => first | exact List.set_set .. | rfl); (try dsimp only)))
section
variable {P : Program} {w : World} {K : PySem.W.Frag} {mg : Str → Option Value} {base : Heap}
/- _law_draw: top 16; used ['abs', 'len', 'range']; calls []; const [] -/
abbrev s_l_draw : Stmt := topS 16
abbrev N_l_draw : List Str := ["_law_pen", "_law_span", "_law_digit", "_law_nth", "_law_cell", "_law_mixed", "_law_turn"]
theorem sc_l_draw : FnScope N_l_draw ["_law_pen", "_law_span"] (defScope s_l_draw) := ⟨rfl, rfl, rfl, by decide +kernel, rfl, by decide +kernel, by decide +kernel⟩
theorem ok_l_draw {f : Addr} {fd : FuncData} (F : Fun K "_law_draw" "_law_draw" s_l_draw f fd) (z_len : mg "len" = none) (z_abs : mg "abs" = none) (z_range : mg "range" = none) : FnOk P w K mg base CX0 1 f fd ["_law_pen", "_law_span"] (spD K fDraw) := by
  refine F.ok sc_l_draw (fun vs H Q E h => ?_) (fun cdv A outer s H vs Q E hr h => ?_)
  · obtain ⟨as, os, ds, QA, EA, R, r, ⟨k, span, cells, b, o, rfl, _⟩, _⟩ := h
    rw [r.length]
    rfl
  · have hu := hu_of hr
    have hu64 : (A.deeper (envOfC "_law_draw" (defScope s_l_draw) s.heap.objs.size f cdv)).units + 64 < cLine := by
      have := hr.un
      omega
    have passOwn := @PassesOwn.never
    refine ⟨_, (pss_cons (ps_if (pt_cmpR op_gt (pe_dget hu (pv 0) pe_str (fun _ _ => rfl)) pe_int (nomark _)) (pss_cons (ps_set (i := 2) sc_l_draw.nd rfl (Or.inl rfl) (pe_op op_mod (pe_dget hu (pv 0) pe_str (fun _ _ => rfl)) (pv 1)))
    (pss_cons (ps_dput hu (pv 0) pe_str (pe_op op_fdivW (pe_dget hu (pv 0) pe_str (fun _ _ => rfl)) (pv 1)) rfl)
    (pss_one (ps_ret (pv 2))))) pss_nil)
  (pss_cons (ps_set (i := 3) sc_l_draw.nd rfl (Or.inl rfl) (pe_dget hu (pv 0) pe_str (fun _ _ => rfl)))
  (pss_cons (ps_dput hu (pv 0) pe_str (pe_op op_add (pv 3) pe_int) rfl)
  (pss_cons (ps_set (i := 4) sc_l_draw.nd rfl (Or.inl rfl) (pe_op op_add (pe_op op_mulW (pv 3) (pv 3)) pe_int))
  (pss_cons (ps_if (pt_cmpR (op_neD hu64) (pe_dget hu (pv 0) pe_str (fun _ _ => rfl)) (pe_lst pa_nil) (nomark _)) (pss_one (ps_set (i := 4) sc_l_draw.nd rfl (Or.inl rfl) (pe_ix ix_list (pe_dget hu (pv 0) pe_str (fun _ _ => rfl)) (pe_op op_mod (pv 3) (pe_callB call_lenA (by rfl) z_len PySem.boot_len (pa_cons (pe_dget hu (pv 0) pe_str (fun _ _ => rfl)) pa_nil))) (fun _ _ => rfl)))) pss_nil)
  (pss_cons (ps_if (PW.pt (pw_and (pt_cmpR op_lt (pv 3) (pe_callB call_lenA (by rfl) z_len PySem.boot_len (pa_cons (pe_dget hu (pv 0) pe_str (fun _ _ => rfl)) pa_nil)) (nomark _)) (pw_and1 (pt_cmpR op_ge (pe_callB (call_absA rfl) (by rfl) z_abs (by decide +kernel) (pa_cons (pv 4) pa_nil)) (pe_op op_pow pe_int pe_int) (nomark _))))) (pss_cons (ps_dput hu (pv 0) pe_str (pe_op op_fdivW (pe_callB (call_absA rfl) (by rfl) z_abs (by decide +kernel) (pa_cons (pv 4) pa_nil)) (pv 1)) rfl)
    (pss_one (ps_ret (pe_op op_mod (pe_callB (call_absA rfl) (by rfl) z_abs (by decide +kernel) (pa_cons (pv 4) pa_nil)) (pv 1))))) pss_nil)
  (pss_cons (ps_set (i := 5) sc_l_draw.nd rfl (Or.inl rfl) (pe_op op_mod (pe_op op_mulW (pe_op op_add (pe_op op_add (pe_op op_mod (pv 4) pe_int) (pe_op op_mulW pe_int (pv 3))) pe_int) pe_int) pe_int))
  (pss_cons (ps_for PassesOwn.never rfl (pi_range1 (by rfl) z_range (pa_cons pe_int pa_nil)) (pg_name (i := 6) sc_l_draw.nd rfl (Or.inl rfl))
    (pss_cons (ps_set (i := 5) sc_l_draw.nd rfl (Or.inl rfl) (pe_op op_add (pe_op op_add (pe_op op_add (pe_op op_mulW (pv 5) (pv 5)) (pe_op op_mulW pe_int (pv 5))) (pv 3)) (pv 6)))
    (pss_one (ps_set (i := 5) sc_l_draw.nd rfl (Or.inl rfl) (pe_op op_mod (pv 5) pe_int)))))
  (pss_one (ps_ret (pe_op op_mod (pe_op op_fdivW (pv 5) pe_int) (pv 1)))))))))))), read_of h fun ds os QA EA hf => ?_⟩
    obtain ⟨k, span, cells, nth, left, rfl, ho, hs, hn, hl, q⟩ := draw_raw hf
    dsimp only [cxOf, Cx.nox, Cx.wish]
    show W K _ _ _ ⟨[some (.o k), some (.d (.int span)), none, none, none, none, none], os⟩
    repeat (walk_at "b")
    refine br_ite (fun hl0 => ?_) (fun hl0 => ?_)
    · repeat (walk_at "b")
      exact ret_set (q _ _ _ (Int.emod_nonneg _ (by omega)) (Int.emod_lt_of_pos _ (by omega)) (by omega) (by omega) (Int.ediv_nonneg (by omega) (by omega)))
    · repeat (walk_at "b")
      refine w_join (fun S' => ∃ c : Int, S' = ⟨[some (.o k), some (.d (.int span)), none, some (.d (.int nth)), some (.d (.int c)), none, none], os.set k (.md (pen cells (nth + 1) left))⟩) ?_ ?_
      · refine br_iteB (fun hb => ?_) (fun hb => ?_)
        · repeat (walk_at "b")
          obtain ⟨c, hc⟩ := at_mod (n := nth) (ns := cells) (fun z => by subst z; cases hb)
          have hlen : 0 < ((cells.map D.int).length : Int) := by
            cases cells with
            | nil => cases hb
            | cons a r => simp
          refine bw_i hlen ?_
          refine bw_ixL hc ?_
          exact ⟨c, rfl⟩
        · repeat (walk_at "b")
          exact ⟨_, rfl⟩
      · rintro S' ⟨c, rfl⟩
        refine w_cut (fun S' => S' = ⟨[some (.o k), some (.d (.int span)), none, some (.d (.int nth)), some (.d (.int c)), none, none], os.set k (.md (pen cells (nth + 1) left))⟩) ?_ ?_
        · repeat (walk_at "b")
          refine br_ite (fun h1 => ?_) (fun h1 => ?_)
          · repeat (walk_at "b")
            refine br_ite (fun h2 => ?_) (fun h2 => ?_)
            · repeat (walk_at "b")
              refine ret_set (q _ _ _ (Int.emod_nonneg _ (by omega)) (Int.emod_lt_of_pos _ (by omega)) (by omega) (by omega) (Int.ediv_nonneg ?_ (by omega)))
              split <;> omega
            · repeat (walk_at "b")
              rfl
          · repeat (walk_at "b")
            rfl
        · rintro S' rfl
          repeat (walk_at "b")
          dsimp only
          refine w_for (iw_rng1 (aw_cons (ew_int (aw_nil ⟨3, rfl, by decide, by decide, fun _ S' => ∃ (m : Int) (o : Option Sv), (0 ≤ m ∧ m < 4294967311) ∧ S' = ⟨[some (.o k), some (.d (.int span)), none, some (.d (.int nth)), some (.d (.int c)), some (.d (.int m)), o], os.set k (.md (pen cells (nth + 1) left))⟩, ⟨_, none, ⟨Int.emod_nonneg _ (by decide), Int.emod_lt_of_pos _ (by decide)⟩, rfl⟩, ?_, ?_⟩))))
          · rintro i d S' hd ⟨m, o, hm, rfl⟩
            obtain ⟨hi, rfl⟩ := rngD_get hd
            refine gw_name ?_
            dsimp only [List.set_cons_zero, List.set_cons_succ]
            repeat (walk_at "b")
            refine ⟨_, _, ⟨Int.emod_nonneg _ (by decide), Int.emod_lt_of_pos _ (by decide)⟩, rfl⟩
          · rintro S' ⟨m, o, hm, rfl⟩
            repeat (walk_at "b")
            exact ret_set (q _ _ _ (Int.emod_nonneg _ (by omega)) (Int.emod_lt_of_pos _ (by omega)) (by omega) (by omega) hl)
end

/-- how a def of the text is called -/
structure Cal (K : PySem.W.Frag) (mg : Str → Option Value) (x : Str) (f : Addr) (fd : FuncData) (ps : List Str) : Prop where
  m : mg x = some (.ref f)
  k : PySem.W.keepIn K (.ref f) = true
  b : Binds K fd ps []
local macro_rules | `(tactic| walk_at "dr") => `(tactic| ((with_reducible refine ew_call ?_); repeat (walk_at "b")))
def fPick : FD := fun ds os QA _ => ∃ (k : Nat) (xs : List D) (cells : List Int) (b : Int) (o : Os), ds = [.o k, .d (.lst xs)] ∧ Pn k cells b o os ∧ (0 < xs.length ∧ xs.length ≤ 1000) ∧ b < 2 ^ 38 ∧
  ∀ d os', d ∈ xs → Pn k cells (b + 1) o os' → QA d os'
def fByte : FD := fun ds os QA _ => ∃ (k : Nat) (cells : List Int) (b : Int) (o : Os), ds = [.o k] ∧ Pn k cells b o os ∧ b < 2 ^ 38 ∧
  ∀ d os', 0 ≤ d → d < 256 → Pn k cells (b + 2) o os' → QA (.int d) os'
def signsS : Str := " !\"#$&'()*+,-./0123456789:;<=>?@ABCDEFGHIJKLMNOPQRSTUVWXYZ[\\]^_`abcdefghijklmnopqrstuvwxyz{|}~\n"
def fSigns : FD := fun ds os QA _ => ds = [] ∧ ∀ z : Str, 0 < z.length → z.length ≤ 200 → QA (.str z) os
theorem at_mem {α : Type} {xs : List α} {i : Int} (h0 : 0 ≤ i) (h1 : i < (xs.length : Int)) : ∃ d, L2.atI xs i = some d ∧ d ∈ xs := by
  obtain ⟨j, rfl⟩ : ∃ j : Nat, i = (j : Int) := ⟨i.toNat, by omega⟩
  have hj : j < xs.length := by omega
  exact ⟨xs[j], atI_nat (List.getElem?_eq_getElem hj), List.getElem_mem hj⟩
section
variable {P : Program} {w : World} {K : PySem.W.Frag} {mg : Str → Option Value} {base : Heap}
abbrev s_l_pick : Stmt := topS 17
abbrev N_l_pick : List Str := ["_law_pen", "_law_some"]
theorem sc_l_pick : FnScope N_l_pick ["_law_pen", "_law_some"] (defScope s_l_pick) := ⟨rfl, rfl, rfl, by decide +kernel, rfl, by decide +kernel, by decide +kernel⟩
theorem ok_l_pick {f f_draw : Addr} {fd fd_draw : FuncData} (F : Fun K "_law_pick" "_law_pick" s_l_pick f fd) (z_len : mg "len" = none)
    (G_l_draw : FnOk P w K mg base CX0 1 f_draw fd_draw ["_law_pen", "_law_span"] (spD K fDraw)) (C_l_draw : Cal K mg "_law_draw" f_draw fd_draw ["_law_pen", "_law_span"]) : FnOk P w K mg base CX0 2 f fd ["_law_pen", "_law_some"] (spD K fPick) := by
  refine F.ok sc_l_pick (fun vs H Q E h => ?_) (fun cdv A outer s H vs Q E hr h => ?_)
  · obtain ⟨as, os, ds, QA, EA, R, r, ⟨k, xs, cells, b, o, rfl, _⟩, _⟩ := h
    rw [r.length]
    rfl
  · refine ⟨_, (pss_one (ps_ret (pe_ix ix_list (pv 1) (pe_call G_l_draw (hr.mono (by decide)) rfl C_l_draw.m C_l_draw.k C_l_draw.b .nil pass0 (pa_cons (pv 0) (pa_cons (pe_callB call_lenA (by rfl) z_len PySem.boot_len (pa_cons (pv 1) pa_nil)) pa_nil))) (fun _ _ => rfl)))), read_of h fun ds os QA EA hf => ?_⟩
    obtain ⟨k, xs, cells, b, o, rfl, ho, hs, hb, q⟩ := hf
    dsimp only [cxOf, Cx.nox, Cx.wish]
    show W K _ _ _ ⟨[some (.o k), some (.d (.lst xs))], os⟩
    repeat (walk_at "b")
    walk_at "dr"
    refine ⟨_, _, _, _, _, rfl, ho, by omega, by omega, fun d os' h0 h1 ho => ?_⟩
    obtain ⟨x, hx, hm⟩ := at_mem h0 h1
    exact bw_ixL hx (Pn.ret ‹Pn k cells b o os› ho (q x os' hm ho))
abbrev s_l_signs : Stmt := topS 18
abbrev N_l_signs : List Str := ["_law_signs_here"]
theorem sc_l_signs : FnScope N_l_signs [] (defScope s_l_signs) := ⟨rfl, rfl, rfl, by decide +kernel, rfl, by decide +kernel, by decide +kernel⟩
theorem ok_l_signs {f : Addr} {fd : FuncData} (F : Fun K "_law_signs" "_law_signs" s_l_signs f fd) : FnOk P w K mg base CX0 1 f fd [] (spD K fSigns) := by
  refine F.ok sc_l_signs (fun vs H Q E h => ?_) (fun cdv A outer s H vs Q E hr h => ?_)
  · obtain ⟨as, os, ds, QA, EA, R, r, ⟨rfl, _⟩, _⟩ := h
    rw [r.length]
    rfl
  · refine ⟨_, (pss_cons (ps_set (i := 0) sc_l_signs.nd rfl (Or.inl rfl) pe_str)
  (pss_one (ps_ret (pe_op op_addS (pv 0) pe_str)))), read_of h fun ds os QA EA hf => ?_⟩
    obtain ⟨rfl, q⟩ := hf
    try dsimp only [cxOf, Cx.nox, Cx.wish]
    show W K _ _ _ ⟨[none], os⟩
    repeat (walk_at "b")
    refine bw_catS (by decide) (ret_same (q _ (by decide) (by decide)))
abbrev s_l_byte : Stmt := topS 20
abbrev N_l_byte : List Str := ["_law_pen"]
theorem sc_l_byte : FnScope N_l_byte ["_law_pen"] (defScope s_l_byte) := ⟨rfl, rfl, rfl, by decide +kernel, rfl, by decide +kernel, by decide +kernel⟩
theorem ok_l_byte {f f_draw : Addr} {fd fd_draw : FuncData} (F : Fun K "_law_byte" "_law_byte" s_l_byte f fd)
    (G_l_draw : FnOk P w K mg base CX0 1 f_draw fd_draw ["_law_pen", "_law_span"] (spD K fDraw)) (C_l_draw : Cal K mg "_law_draw" f_draw fd_draw ["_law_pen", "_law_span"]) : FnOk P w K mg base CX0 2 f fd ["_law_pen"] (spD K fByte) := by
  refine F.ok sc_l_byte (fun vs H Q E h => ?_) (fun cdv A outer s H vs Q E hr h => ?_)
  · obtain ⟨as, os, ds, QA, EA, R, r, ⟨k, cells, b, o, rfl, _⟩, _⟩ := h
    rw [r.length]
    rfl
  · refine ⟨_, (pss_one (ps_ret (pe_ix ix_list (pe_lst (pa_cons pe_int (pa_cons pe_int (pa_cons pe_int (pa_cons pe_int (pa_cons (pe_call G_l_draw (hr.mono (by decide)) rfl C_l_draw.m C_l_draw.k C_l_draw.b .nil pass0 (pa_cons (pv 0) (pa_cons pe_int pa_nil))) pa_nil)))))) (pe_call G_l_draw (hr.mono (by decide)) rfl C_l_draw.m C_l_draw.k C_l_draw.b .nil pass0 (pa_cons (pv 0) (pa_cons pe_int pa_nil))) (fun _ _ => rfl)))), read_of h fun ds os QA EA hf => ?_⟩
    obtain ⟨k, cells, b, o, rfl, ho, hb, q⟩ := hf
    dsimp only [cxOf, Cx.nox, Cx.wish]
    show W K _ _ _ ⟨[some (.o k)], os⟩
    repeat (walk_at "b")
    walk_at "dr"
    refine ⟨_, _, _, _, _, rfl, ho, by omega, by omega, fun d os1 h0 h1 ho1 => ?_⟩
    repeat (walk_at "b")
    walk_at "dr"
    refine ⟨_, _, _, _, _, rfl, ho1, by omega, by omega, fun e os2 h2 h3 ho2 => ?_⟩
    have ho3 : Pn k cells (b + 2) o os2 := ho2.mono (by omega)
    obtain ⟨x, hx, hm⟩ := at_mem (xs := [D.int 0, .int 15, .int 16, .int 255, .int d]) h2 h3
    refine bw_ixL hx (Pn.ret ho ho3 ?_)
    simp only [List.mem_cons, List.not_mem_nil, or_false] at hm
    rcases hm with rfl | rfl | rfl | rfl | rfl
    · exact q _ _ (by decide) (by decide) ho3
    · exact q _ _ (by decide) (by decide) ho3
    · exact q _ _ (by decide) (by decide) ho3
    · exact q _ _ (by decide) (by decide) ho3
    · exact q _ _ h0 h1 ho3
end

def sigS : Str := "0123456789abcdef"
def sigL : List Nat := sigS.cps.toList
def standsB (c : Nat) (i : Int) : Bool := if i % 3 < 2 then decide (c ∈ sigL) else if (i / 3 + 1) % 16 = 0 then decide ((⟨#[c]⟩ : Str) = "\n") else decide ((⟨#[c]⟩ : Str) = " ")
def fMay : FD := fun ds os QA _ => ∃ (c : Nat) (i : Int), ds = [.d (.str ⟨#[c]⟩), .d (.int i)] ∧ 0 ≤ i ∧ i < 2 ^ 62 ∧ QA (.bl (standsB c i)) os
/-- the sign of a half of a byte -/
def sgC (n : Int) : Nat := sigL.getD n.toNat 0
def sepC (k : Int) : Nat := if k % 16 > 0 then 32 else 10
/-- what stands of the k-th byte -/
def pieceC (k : Int) (b : Int) : List Nat := (if k > 0 then [sepC k] else []) ++ [sgC (b / 16), sgC (b % 16)]
def hexC : Int → List Int → List Nat
  | _, [] => []
  | k, b :: r => pieceC k b ++ hexC (k + 1) r
def tx (cs : List Nat) : Str := ⟨cs.toArray⟩
def fHex : FD := fun ds os QA _ => ∃ row : List Int, ds = [.d (.tup (row.map D.int))] ∧ (∀ b ∈ row, 0 ≤ b ∧ b < 256) ∧ row.length ≤ 1000 ∧ QA (.str (tx (hexC 0 row))) os
theorem hexC_app {b : Int} : ∀ {row : List Int} {k : Int}, hexC k (row ++ [b]) = hexC k row ++ pieceC (k + row.length) b
  | [], k => by simp [hexC]
  | a :: r, k => by
    have e : (k + 1 + (r.length : Int)) = k + ((a :: r).length : Int) := by rw [List.length_cons]; omega
    rw [List.cons_append, hexC, hexC, hexC_app, List.append_assoc, e]
theorem hexC_len : ∀ {row : List Int} {k : Int}, (hexC k row).length ≤ 3 * row.length
  | [], k => by simp [hexC]
  | a :: r, k => by
    have := hexC_len (row := r) (k := k + 1)
    have h2 : (pieceC k a).length ≤ 3 := by
      unfold pieceC
      split <;> simp
    rw [hexC, List.length_append, List.length_cons]
    omega
theorem tx_app {a b : List Nat} : tx a ++ tx b = tx (a ++ b) := by
  show (⟨a.toArray ++ b.toArray⟩ : Str) = _
  rw [List.append_toArray]
  rfl
theorem tx_len {a : List Nat} : (tx a).length = a.length := rfl
theorem sig_at {n : Int} (h0 : 0 ≤ n) (h1 : n < 16) : L2.atI sigL n = some (sgC n) := by
  obtain ⟨j, rfl⟩ : ∃ j : Nat, n = (j : Int) := ⟨n.toNat, by omega⟩
  have hl : sigL.length = 16 := by decide +kernel
  refine atI_nat ?_
  unfold sgC
  rw [Int.toNat_natCast, List.getD_eq_getElem?_getD, List.getElem?_eq_getElem (by omega)]
  rfl
section
variable {P : Program} {w : World} {K : PySem.W.Frag} {mg : Str → Option Value} {base : Heap}
abbrev s_may_stand : Stmt := topS 13
abbrev N_may_stand : List Str := ["sign", "at"]
theorem sc_may_stand : FnScope N_may_stand ["sign", "at"] (defScope s_may_stand) := ⟨rfl, rfl, rfl, by decide +kernel, rfl, by decide +kernel, by decide +kernel⟩
theorem ok_may_stand {f : Addr} {fd : FuncData} {u1 u2 : Value} (F : Fun K "may_stand" "may_stand" s_may_stand f fd) (g_SIGNS : mg "SIGNS" = some u1) (r1 : RelV (.str sigS) u1) (g_BYTES_A_LINE : mg "BYTES_A_LINE" = some u2) (r2 : RelV (.int 16) u2) : FnOk P w K mg base CX0 1 f fd ["sign", "at"] (spD K fMay) := by
  refine F.ok sc_may_stand (fun vs H Q E h => ?_) (fun cdv A outer s H vs Q E hr h => ?_)
  · obtain ⟨as, os, ds, QA, EA, R, r, ⟨c, i, rfl, _⟩, _⟩ := h
    rw [r.length]
    rfl
  · refine ⟨_, (pss_cons (ps_if (pt_cmpR op_lt (pe_op op_mod (pv 1) pe_int) pe_int (nomark _)) (pss_one (ps_ret (pe_cmpR op_inS (pv 0) (pe_glob rfl g_SIGNS r1) rfl))) pss_nil)
  (pss_cons (ps_if (pt_cmpR op_eq (pe_op op_mod (pe_op op_add (pe_op op_fdivW (pv 1) pe_int) pe_int) (pe_glob rfl g_BYTES_A_LINE r2)) pe_int (nomark _)) (pss_one (ps_ret (pe_cmpR op_eq (pv 0) pe_str (nomark _)))) pss_nil)
  (pss_one (ps_ret (pe_cmpR op_eq (pv 0) pe_str (nomark _)))))), read_of h fun ds os QA EA hf => ?_⟩
    obtain ⟨c, i, rfl, h0, h1, q⟩ := hf
    try dsimp only [cxOf, Cx.nox, Cx.wish]
    show W K _ _ _ ⟨[some (.d (.str ⟨#[c]⟩)), some (.d (.int i))], os⟩
    repeat (walk_at "b")
    unfold standsB at q
    refine br_ite (fun h2 => ?_) (fun h2 => ?_)
    · rw [if_pos h2] at q
      repeat (walk_at "b")
      exact bw_inS (ret_same q)
    · rw [if_neg h2] at q
      repeat (walk_at "b")
      refine bw_eqI ⟨_, rfl, ?_⟩
      refine br_ite (fun h3 => ?_) (fun h3 => ?_)
      · rw [if_pos h3] at q
        repeat (walk_at "b")
        exact bw_eqS (ret_same q)
      · rw [if_neg h3] at q
        repeat (walk_at "b")
        exact bw_eqS (ret_same q)
abbrev s_l_hex : Stmt := topS 21
abbrev N_l_hex : List Str := ["_law_row", "_law_found", "_law_k"]
theorem sc_l_hex : FnScope N_l_hex ["_law_row"] (defScope s_l_hex) := ⟨rfl, rfl, rfl, by decide +kernel, rfl, by decide +kernel, by decide +kernel⟩
theorem ok_l_hex {f : Addr} {fd : FuncData} (F : Fun K "_law_hex" "_law_hex" s_l_hex f fd) (z_len : mg "len" = none) (z_int : mg "int" = none) (z_range : mg "range" = none) : FnOk P w K mg base CX0 1 f fd ["_law_row"] (spD K fHex) := by
  refine F.ok sc_l_hex (fun vs H Q E h => ?_) (fun cdv A outer s H vs Q E hr h => ?_)
  · obtain ⟨as, os, ds, QA, EA, R, r, ⟨row, rfl, _⟩, _⟩ := h
    rw [r.length]
    rfl
  · have passOwn := @PassesOwn.never
    refine ⟨_, (pss_cons (ps_set (i := 1) sc_l_hex.nd rfl (Or.inl rfl) pe_str)
  (pss_cons (ps_for PassesOwn.never rfl (pi_range1 (by rfl) z_range (pa_cons (pe_callB call_lenA (by rfl) z_len PySem.boot_len (pa_cons (pv 0) pa_nil)) pa_nil)) (pg_name (i := 2) sc_l_hex.nd rfl (Or.inl rfl))
    (pss_cons (ps_if (pt_cmpR op_gt (pv 2) pe_int (nomark _)) (pss_one (ps_set (i := 1) sc_l_hex.nd rfl (Or.inl rfl) (pe_op op_addS (pv 1) (pe_ix ix_list (pe_lst (pa_cons pe_str (pa_cons pe_str pa_nil))) (pe_callTy call_intA (by rfl) z_int (by decide +kernel) (pa_cons (pe_cmpR op_gt (pe_op op_mod (pv 2) pe_int) pe_int (nomark _)) pa_nil)) (fun _ _ => rfl))))) pss_nil)
    (pss_one (ps_set (i := 1) sc_l_hex.nd rfl (Or.inl rfl) (pe_op op_addS (pe_op op_addS (pv 1) (pe_ix ix_str pe_str (pe_op op_fdivW (pe_ix ix_tup (pv 0) (pv 2) (fun _ _ => rfl)) pe_int) (fun _ _ => rfl))) (pe_ix ix_str pe_str (pe_op op_mod (pe_ix ix_tup (pv 0) (pv 2) (fun _ _ => rfl)) pe_int) (fun _ _ => rfl)))))))
  (pss_one (ps_ret (pv 1))))), read_of h fun ds os QA EA hf => ?_⟩
    obtain ⟨row, rfl, hb, hl, q⟩ := hf
    try dsimp only [cxOf, Cx.nox, Cx.wish]
    show W K _ _ _ ⟨[some (.d (.tup (row.map D.int))), none, none], os⟩
    repeat (walk_at "b")
    refine w_for ?_
    refine iw_rng1 ?_
    repeat (walk_at "b")
    refine cw_lenU ?_
    repeat (walk_at "b")
    refine ⟨by simp only [List.length_map]; omega, by simp only [List.length_map]; omega, fun i S' => ∃ o : Option Sv, S' = ⟨[some (.d (.tup (row.map D.int))), some (.d (.str (tx (hexC 0 (row.take i))))), o], os⟩, ⟨_, rfl⟩, ?_, ?_⟩
    · rintro i d S' hd ⟨o, rfl⟩
      obtain ⟨hi, rfl⟩ := rngD_get hd
      have hi2 : i < row.length := by simpa using hi
      have hlen : (hexC 0 (row.take i)).length ≤ 3000 := by
        have := hexC_len (row := row.take i) (k := 0)
        rw [List.length_take] at this
        omega
      obtain ⟨hb0, hb1⟩ := hb _ (List.getElem_mem hi2)
      have hat : L2.atI (row.map D.int) (0 + (i : Int) * 1) = some (D.int row[i]) := by
        rw [Int.mul_one, Int.zero_add]
        exact atI_nat (by rw [List.getElem?_map, List.getElem?_eq_getElem hi2]; rfl)
      have htk : hexC 0 (row.take (i + 1)) = hexC 0 (row.take i) ++ pieceC i row[i] := by
        rw [← List.take_append_getElem hi2, hexC_app]
        congr 1
        rw [List.length_take, Nat.min_eq_left (Nat.le_of_lt hi2), Int.zero_add]
      refine gw_name ?_
      dsimp only [List.set_cons_zero, List.set_cons_succ]
      refine w_cut (fun S' => S' = ⟨[some (.d (.tup (row.map D.int))), some (.d (.str (tx (hexC 0 (row.take i) ++ (if (i : Int) > 0 then [sepC i] else []))))), some (.d (.int (0 + (i : Int) * 1)))], os⟩) ?_ ?_
      · repeat (walk_at "b")
        refine br_ite (fun h0 => ?_) (fun h0 => ?_)
        · have hk : (i : Int) > 0 := by omega
          have e2 : (0 + (i : Int) * 1) = (i : Int) := by omega
          have ep : (if (i : Int) > 0 then [sepC i] else []) = [sepC i] := if_pos hk
          rw [ep]
          repeat (walk_at "b")
          refine cw_intB ?_
          have hat2 : L2.atI [D.str "\n", D.str " "] (if (decide (0 < (0 + (i : Int) * 1) % 16)) = true then 1 else 0) = some (D.str (tx [sepC i])) := by
            rw [e2]
            unfold sepC
            by_cases h3 : 0 < (i : Int) % 16
            · rw [decide_eq_true h3, if_pos (show (i : Int) % 16 > 0 from h3)]
              rfl
            · rw [decide_eq_false h3, if_neg (show ¬ (i : Int) % 16 > 0 from h3)]
              rfl
          refine bw_ixL hat2 ?_
          refine bw_catS ?_ ?_
          · rw [tx_len, tx_len]
            exact small_len (by simp only [List.length_cons, List.length_nil]; omega)
          · rw [tx_app]
        · have hk : ¬ (i : Int) > 0 := by omega
          have ep : (if (i : Int) > 0 then [sepC i] else []) = [] := if_neg hk
          rw [ep, List.append_nil]
          repeat (walk_at "b")
          rfl
      · rintro S' rfl
        repeat (walk_at "b")
        refine bw_ixT hat ?_
        repeat (walk_at "b")
        refine bw_ixS (by decide +kernel) (show L2.atI sigL (row[i] / 16) = _ from sig_at (Int.ediv_nonneg hb0 (by decide)) (by omega)) ?_
        have hlen2 : (hexC 0 (row.take i) ++ (if (i : Int) > 0 then [sepC i] else [])).length ≤ 3001 := by
          rw [List.length_append]
          split <;> simp only [List.length_cons, List.length_nil] <;> omega
        refine bw_catS (i := tx _) (j := tx [_]) (by rw [tx_len, tx_len]; exact small_len (by simp only [List.length_cons, List.length_nil]; omega)) ?_
        rw [tx_app]
        repeat (walk_at "b")
        refine bw_ixT hat ?_
        repeat (walk_at "b")
        refine bw_ixS (by decide +kernel) (show L2.atI sigL (row[i] % 16) = _ from sig_at (Int.emod_nonneg _ (by decide)) (by omega)) ?_
        refine bw_catS (i := tx _) (j := tx [_]) (by rw [tx_len, tx_len]; exact small_len (by simp only [List.length_append, List.length_cons, List.length_nil] at hlen2 ⊢; omega)) ?_
        rw [tx_app]
        refine ⟨some (.d (.int (0 + (i : Int) * 1))), ?_⟩
        rw [htk]
        unfold pieceC
        simp only [List.append_assoc, List.cons_append, List.nil_append]
    · rintro S' ⟨o, rfl⟩
      rw [rngD_len, show ((List.map D.int row).length : Int).toNat = row.length by simp, List.take_length]
      repeat (walk_at "b")
      exact ret_same q
end

theorem fits {x : Int} (h0 : -(2 ^ 62) ≤ x) (h1 : x < 2 ^ 62) : Builtin.Range.rangeFitsLong x = true := by
  unfold Builtin.Range.rangeFitsLong
  rw [decide_eq_true (show -(2 ^ 63) ≤ x by omega), decide_eq_true (show x < 2 ^ 63 by omega)]
  rfl
theorem rg_small {n c s : Int} (hc : 1 ≤ c) (hc2 : c < 100) (h0 : 0 ≤ n) (h : n < 2 ^ 40) (hs : Builtin.Range.rangeSize 0 n c = s) (s0 : 0 ≤ s) (s1 : s ≤ n) : Builtin.Range.small 0 n c = true := by
  unfold Builtin.Range.small
  rw [hs, fits (x := 0) (by decide) (by decide), fits (x := n) (by omega) (by omega), fits (x := c) (by omega) (by omega), fits (x := s) (by omega) (by omega), if_pos (show c > 0 by omega), fits (x := n + (c - 1)) (by omega) (by omega)]
  simp
theorem rg3 {n : Nat} (h : n < 2 ^ 40) : RgC 0 (n : Int) 3 ((n + 2) / 3) := by
  have e : Builtin.Range.rangeSize 0 (n : Int) 3 = (((n + 2) / 3 : Nat) : Int) := by
    rw [rangeSize_pos (by decide) (by omega)]
    omega
  exact ⟨by decide, by decide, rg_small (by decide) (by decide) (by omega) (by omega) e (by omega) (by omega), e⟩
theorem rg16 {n : Nat} (h : n < 2 ^ 40) : RgC 0 (n : Int) 16 ((n + 15) / 16) := by
  have e : Builtin.Range.rangeSize 0 (n : Int) 16 = (((n + 15) / 16 : Nat) : Int) := by
    rw [rangeSize_pos (by decide) (by omega)]
    omega
  exact ⟨by decide, by decide, rg_small (by decide) (by decide) (by omega) (by omega) e (by omega) (by omega), e⟩
/-- the value of a sign -/
def hv (c : Nat) : Nat := if c ∈ sigL then ((Builtin.Str.occurrences sigS ⟨#[c]⟩ 0 sigS.length 1).head?).getD 0 else 0
theorem hv_sig : ∀ c ∈ sigL, (Builtin.Str.occurrences sigS ⟨#[c]⟩ 0 sigS.length 1).head? = some (hv c) := by decide +kernel
theorem hv_sg : ∀ n : Fin 16, hv (sgC ((n.val : Nat) : Int)) = n.val := by decide +kernel
def okB (cs : List Nat) (k : Nat) : Bool := standsB (cs.getD k 0) k
/-- where a text can't be read on -/
def bad (cs : List Nat) : Option Nat := match (List.range cs.length).find? (fun k => !okB cs k) with
  | some k => some k
  | none => if cs.length > 0 ∧ cs.length % 3 ≠ 2 then some cs.length else none
def vals (cs : List Nat) : List Int := (List.range ((cs.length + 2) / 3)).map fun i => 16 * (hv (cs.getD (3 * i) 0) : Int) + (hv (cs.getD (3 * i + 1) 0) : Int)
def dueD (cs : List Nat) : D := match bad cs with
  | some k => .lst [.str "none", .int k]
  | none => .tup ((vals cs).map D.int)
theorem bad_at {cs : List Nat} {k : Nat} (h : ∀ j, j < k → okB cs j = true) (hk : k < cs.length) (h2 : okB cs k = false) : bad cs = some k := by
  unfold bad
  have e : (List.range cs.length).find? (fun k => !okB cs k) = some k := by
    rw [List.find?_range_eq_some]
    exact ⟨by simp [h2], by simpa using hk, fun j hj => by simp [h j hj]⟩
  rw [e]
theorem find_none {cs : List Nat} (h : ∀ j, j < cs.length → okB cs j = true) : (List.range cs.length).find? (fun k => !okB cs k) = none := by
  rw [List.find?_range_eq_none]
  intro j hj
  simp [h j hj]
theorem bad_len {cs : List Nat} (h : ∀ j, j < cs.length → okB cs j = true) (h1 : cs.length > 0) (h2 : cs.length % 3 ≠ 2) : bad cs = some cs.length := by
  unfold bad
  rw [find_none h]
  exact if_pos ⟨h1, h2⟩
theorem bad_no {cs : List Nat} (h : ∀ j, j < cs.length → okB cs j = true) (h1 : ¬ (cs.length > 0 ∧ cs.length % 3 ≠ 2)) : bad cs = none := by
  unfold bad
  rw [find_none h]
  exact if_neg h1
theorem ok_sig {cs : List Nat} {k : Nat} (h : okB cs k = true) (hk : k % 3 < 2) : cs.getD k 0 ∈ sigL := by
  unfold okB standsB at h
  rw [if_pos (by omega)] at h
  exact of_decide_eq_true h
theorem tx_at {cs : List Nat} {k : Nat} (hk : k < cs.length) : L2.atI (tx cs).cps.toList (k : Int) = some (cs.getD k 0) := by
  refine atI_nat ?_
  show cs.toArray.toList[k]? = _
  rw [List.getD_eq_getElem?_getD, List.getElem?_eq_getElem hk]
  rfl
def fDue : FD := fun ds os QA _ => ∃ d, ds = [.d d] ∧ ((∃ cs : List Nat, d = .str (tx cs) ∧ cs.length ≤ 10000 ∧ QA (dueD cs) os) ∨ (∃ a, d.ty = some a ∧ kitB a "str" = some false ∧ QA (.lst [.str "none", .int 0]) os))
/-- the comprehensions' numbers -/
theorem vals_snoc {cs : List Nat} {i : Nat} : (List.range (i + 1)).map (fun i => 16 * (hv (cs.getD (3 * i) 0) : Int) + (hv (cs.getD (3 * i + 1) 0) : Int)) = (List.range i).map (fun i => 16 * (hv (cs.getD (3 * i) 0) : Int) + (hv (cs.getD (3 * i + 1) 0) : Int)) ++ [16 * (hv (cs.getD (3 * i) 0) : Int) + (hv (cs.getD (3 * i + 1) 0) : Int)] := by
  rw [List.range_succ, List.map_append]
  rfl
theorem one_in {c n : Nat} {s : Str} (h : s = ⟨#[n]⟩) : decide ((⟨#[c]⟩ : Str) = s) = decide (c ∈ s.cps.toList) := by
  subst h
  by_cases e : c = n
  · subst e
    simp
  · have h1 : ¬ ((⟨#[c]⟩ : Str) = ⟨#[n]⟩) := fun z => e (by injection z with z; simpa using z)
    rw [decide_eq_false h1, decide_eq_false]
    simpa using e
theorem hv_lt : ∀ c ∈ sigL, hv c < 16 := by decide +kernel
theorem hv_all (c : Nat) : hv c < 16 := by
  by_cases h : c ∈ sigL
  · exact hv_lt c h
  · unfold hv
    rw [if_neg h]
    decide
theorem hv_bd {c : Nat} (h : c ∈ sigL) : -(2 ^ 200) < (hv c : Int) ∧ (hv c : Int) < 2 ^ 200 := by
  have := hv_lt c h
  omega
theorem br_nT {A B : Prop} (h : B) : if (!true) = true then A else B := h
theorem br_nF {A B : Prop} (h : A) : if (!false) = true then A else B := h
local macro_rules | `(tactic| walk_at "b") => `(tactic| first
  | with_reducible refine ew_isi ?_
  | with_reducible refine br_nT ?_
  | with_reducible refine br_nF ?_
  | with_reducible refine bw_eqI ?_
  | with_reducible refine bw_neI ?_)
theorem kit_str {a : String} {r : Bool} (h : kitB a "str" = some r) : kitB a "str" = some r := h
section
variable {P : Program} {w : World} {K : PySem.W.Frag} {mg : Str → Option Value} {base : Heap}
abbrev s_l_due : Stmt := topS 22
abbrev N_l_due : List Str := ["_law_thing", "_law_k", "_law_some", "_law_signs_here", "_law_found"]
theorem sc_l_due : FnScope N_l_due ["_law_thing"] (defScope s_l_due) := ⟨rfl, rfl, rfl, by decide +kernel, rfl, by decide +kernel, by decide +kernel⟩
theorem ok_l_due {f : Addr} {fd : FuncData} (F : Fun K "_law_due" "_law_due" s_l_due f fd) (z_len : mg "len" = none) (z_int : mg "int" = none) (z_range : mg "range" = none) (z_isinstance : mg "isinstance" = none) (z_str : mg "str" = none) (z_tuple : mg "tuple" = none) : FnOk P w K mg base CX0 1 f fd ["_law_thing"] (spD K fDue) := by
  refine F.ok sc_l_due (fun vs H Q E h => ?_) (fun cdv A outer s H vs Q E hr h => ?_)
  · obtain ⟨as, os, ds, QA, EA, R, r, ⟨d, rfl, _⟩, _⟩ := h
    rw [r.length]
    rfl
  · refine ⟨_, (pss_cons (ps_if (pt_not (pt_val (pe_callB call_isi (by rfl) z_isinstance (by decide +kernel) (pa_cons (pv 0) (pa_cons (pe_bltn (v := .ty "str") (by rfl) z_str boot_str rfl) pa_nil))))) (pss_one (ps_ret (pe_lst (pa_cons pe_str (pa_cons pe_int pa_nil))))) pss_nil)
  (pss_cons (ps_for PassesOwn.never rfl (pi_range1 (by rfl) z_range (pa_cons (pe_callB call_lenS1 (by rfl) z_len PySem.boot_len (pa_cons (pv 0) pa_nil)) pa_nil)) (pg_name (i := 1) sc_l_due.nd rfl (Or.inl rfl))
    (pss_cons (ps_set (i := 2) sc_l_due.nd rfl (Or.inl rfl) pe_str)
    (pss_cons (ps_if (pt_cmpR op_eq (pe_op op_mod (pv 1) pe_int) pe_int (nomark _)) (pss_one (ps_set (i := 2) sc_l_due.nd rfl (Or.inl rfl) (pe_ix ix_list (pe_lst (pa_cons pe_str (pa_cons pe_str pa_nil))) (pe_callTy call_intA (by rfl) z_int (by decide +kernel) (pa_cons (pe_cmpR op_eq (pe_op op_mod (pe_op op_fdivW (pv 1) pe_int) pe_int) pe_int (nomark _)) pa_nil)) (fun _ _ => rfl)))) pss_nil)
    (pss_one (ps_if (pt_cmpR op_notInS (pe_ix ix_str (pv 0) (pv 1) (fun _ _ => rfl)) (pv 2) rfl) (pss_one (ps_ret (pe_lst (pa_cons pe_str (pa_cons (pv 1) pa_nil))))) pss_nil)))))
  (pss_cons (ps_if (PW.pt (pw_and (pt_cmpR op_ne (pv 0) pe_str (nomark _)) (pw_and1 (pt_cmpR op_ne (pe_op op_mod (pe_callB call_lenS1 (by rfl) z_len PySem.boot_len (pa_cons (pv 0) pa_nil)) pe_int) pe_int (nomark _))))) (pss_one (ps_ret (pe_lst (pa_cons pe_str (pa_cons (pe_callB call_lenS1 (by rfl) z_len PySem.boot_len (pa_cons (pv 0) pa_nil)) pa_nil))))) pss_nil)
  (pss_cons (ps_set (i := 3) sc_l_due.nd rfl (Or.inr rfl) pe_str)
  (pss_cons (ps_setLc (i := 4) (own := [("_law_k", 1)]) (g := (gName 1)) rfl sc_l_due.nd rfl rfl (sw_true rfl rfl rfl (by decide +kernel)) (pi_range3 (by rfl) z_range (pa_cons pe_int (pa_cons (pe_callB call_lenS1 (by rfl) z_len PySem.boot_len (pa_cons (pv 0) pa_nil)) (pa_cons pe_int pa_nil)))) (blkOk_by (own := [("_law_k", 1)]) (N := N_l_due) (sc := defScope s_l_due) (by decide +kernel)) (fun _ _ _ _ _ => (pg_name (i := 1) sc_l_due.nd rfl (Or.inl rfl))) (fun _ _ _ _ _ => pts_nil) (fun _ _ _ _ _ => (pe_op op_add (pe_op op_mulW (pe_m1 PySem.F.slot_str_index PySem.F.type_str_index mt_sindex (pv 3) (pe_ix ix_str (pv 0) (pv 1) (fun _ _ => rfl))) pe_int) (pe_m1 PySem.F.slot_str_index PySem.F.type_str_index mt_sindex (pv 3) (pe_ix ix_str (pv 0) (pe_op op_add (pv 1) pe_int) (fun _ _ => rfl))))))
  (pss_one (ps_ret (pe_callTy call_tupA (by rfl) z_tuple (by decide +kernel) (pa_cons (pv 4) pa_nil))))))))), read_of h fun ds os QA EA hf => ?_⟩
    obtain ⟨d, rfl, hf⟩ := hf
    try dsimp only [cxOf, Cx.nox, Cx.wish]
    show W K _ _ _ ⟨[some (.d d), none, none, none, none], os⟩
    repeat (walk_at "b")
    rcases hf with ⟨cs, rfl, hl, q⟩ | ⟨a, ea, eb, q⟩
    · refine ⟨_, "str", true, rfl, rfl, (by decide +kernel), ?_⟩
      repeat (walk_at "b")
      refine w_for ?_
      refine iw_rng1 ?_
      repeat (walk_at "b")
      refine cw_lenS (small_len (by rw [tx_len]; omega)) ?_
      repeat (walk_at "b")
      refine ⟨by omega, by rw [tx_len]; omega, fun i S' => (∀ j, j < i → okB cs j = true) ∧ ∃ o1 o2 : Option Sv, S' = ⟨[some (.d (.str (tx cs))), o1, o2, none, none], os⟩, ⟨fun j hj => absurd hj (by omega), _, _, rfl⟩, ?_, ?_⟩
      · rintro i d S' hd ⟨hok, o1, o2, rfl⟩
        obtain ⟨hi, rfl⟩ := rngD_get hd
        have hi2 : i < cs.length := by rw [tx_len] at hi; omega
        have ei : (0 + (i : Int) * 1) = (i : Int) := by omega
        rw [ei]
        refine gw_name ?_
        dsimp only [List.set_cons_zero, List.set_cons_succ]
        refine w_seq ?_
        refine w_asg ?_
        refine ew_str ?_
        dsimp only [List.set_cons_zero, List.set_cons_succ]
        refine w_cut (fun S' => ∃ z : Str, S' = ⟨[some (.d (.str (tx cs))), some (.d (.int i)), some (.d (.str z)), none, none], os⟩ ∧ (okB cs i = decide (cs.getD i 0 ∈ z.cps.toList))) ?_ ?_
        · repeat (walk_at "b")
          refine br_ite (fun h3 => ?_) (fun h3 => ?_)
          · repeat (walk_at "b")
            refine cw_intB ?_
            by_cases h4 : (i : Int) / 3 % 16 = 15
            · rw [decide_eq_true h4]
              refine bw_ixL (z := D.str "\n") rfl ⟨_, rfl, ?_⟩
              unfold okB standsB
              rw [if_neg (by omega), if_pos (by omega)]
              exact one_in (s := "\n") rfl
            · rw [decide_eq_false h4]
              refine bw_ixL (z := D.str " ") rfl ⟨_, rfl, ?_⟩
              unfold okB standsB
              rw [if_neg (by omega), if_neg (by omega)]
              exact one_in (s := " ") rfl
          · repeat (walk_at "b")
            unfold okB standsB
            rw [if_pos (by omega)]
            rfl
        · rintro S' ⟨z, rfl, hz⟩
          repeat (walk_at "b")
          refine bw_ixS (small_len (by rw [tx_len]; omega)) (tx_at hi2) ?_
          repeat (walk_at "b")
          refine bw_notInS ?_
          repeat (walk_at "b")
          refine br_iteB (fun hb => ?_) (fun hb => ?_)
          · repeat (walk_at "b")
            have hbad : okB cs i = false := by
              rw [hz]
              simpa using hb
            have e := bad_at hok hi2 hbad
            unfold dueD at q
            rw [e] at q
            exact ret_same q
          · repeat (walk_at "b")
            have hgood : okB cs i = true := by
              rw [hz]
              simpa using hb
            refine ⟨fun j hj => ?_, _, _, rfl⟩
            rcases Nat.lt_succ_iff_lt_or_eq.mp hj with h | h
            · exact hok j h
            · rw [h]
              exact hgood
      · rintro S' ⟨hok, o1, o2, rfl⟩
        have hok2 : ∀ j, j < cs.length → okB cs j = true := fun j hj => hok j (by rw [rngD_len, tx_len]; omega)
        refine w_cut (fun S' => ¬ (cs.length > 0 ∧ cs.length % 3 ≠ 2) ∧ S' = ⟨[some (.d (.str (tx cs))), o1, o2, none, none], os⟩) ?_ ?_
        · repeat (walk_at "b")
          refine bw_neS ?_
          repeat (walk_at "b")
          have hemp : ((tx cs) = ("" : Str)) ↔ cs = [] := by
            constructor
            · intro h
              have h2 : (tx cs).cps = #[] := congrArg Str.cps h
              simpa [tx] using h2
            · rintro rfl
              rfl
          refine br_iteN (fun h => ?_) (fun h => ?_)
          · have h0 : cs ≠ [] := fun z => h (hemp.mpr z)
            have hpos : cs.length > 0 := List.length_pos_iff.mpr h0
            repeat (walk_at "b")
            refine cw_lenS (small_len (by rw [tx_len]; omega)) ?_
            repeat (walk_at "b")
            rw [tx_len]
            refine br_iteN (fun h3 => ?_) (fun h3 => ?_)
            · repeat (walk_at "b")
              refine cw_lenS (small_len (by rw [tx_len]; omega)) ?_
              repeat (walk_at "b")
              rw [tx_len]
              have e := bad_len hok2 hpos (by omega)
              unfold dueD at q
              rw [e] at q
              exact ret_same q
            · repeat (walk_at "b")
              exact ⟨fun z => z.2 (by omega), rfl⟩
          · have h0 : cs = [] := hemp.mp h
            repeat (walk_at "b")
            exact ⟨fun z => by rw [h0] at z; exact absurd z.1 (by decide), rfl⟩
        · rintro S' ⟨hno, rfl⟩
          have e := bad_no hok2 hno
          unfold dueD at q
          rw [e] at q
          repeat (walk_at "b")
          refine ew_lc (wg_name (by decide)) mg_name ?_
          refine iw_rng3 ?_
          repeat (walk_at "b")
          refine cw_lenS (small_len (by rw [tx_len]; omega)) ?_
          repeat (walk_at "b")
          refine ⟨_, _, _, _, rfl, rg3 (by rw [tx_len]; omega), ?_⟩
          rw [tx_len]
          refine ⟨fun i acc os2 => os2 = os ∧ acc = ((List.range i).map fun i => 16 * (hv (cs.getD (3 * i) 0) : Int) + (hv (cs.getD (3 * i + 1) 0) : Int)).map D.int, ⟨rfl, rfl⟩, ?_, ?_⟩
          · rintro i d acc os2 hd ⟨rfl, rfl⟩
            obtain ⟨hi, rfl⟩ := rngD_get hd
            have e1 : (0 + (i : Int) * 3) = ((3 * i : Nat) : Int) := by omega
            rw [e1]
            have hlen : cs.length % 3 = 2 := by
              by_cases z : cs.length % 3 = 2
              · exact z
              · exact absurd ⟨by omega, z⟩ hno
            have h1 : 3 * i + 1 < cs.length := by omega
            have m1 : cs.getD (3 * i) 0 ∈ sigL := ok_sig (hok2 _ (by omega)) (by omega)
            have m2 : cs.getD (3 * i + 1) 0 ∈ sigL := ok_sig (hok2 _ (by omega)) (by omega)
            refine gw_name ?_
            refine tw_yes (br_T ?_)
            show EW K X0 _ ⟨[some (.d (.str (tx cs))), some (.d (.int ((3 * i : Nat) : Int))), o2, some (.d (.str sigS)), none], _⟩ _
            repeat (walk_at "b")
            refine ew_sindex ?_
            repeat (walk_at "b")
            refine bw_ixS (small_len (by rw [tx_len]; omega)) (tx_at (by omega)) ?_
            refine ⟨_, _, rfl, hv_sig _ m1, ?_⟩
            repeat (walk_at "b")
            refine bw_i (c_mulS (hv_bd m1) (by omega)) ?_
            refine ew_sindex ?_
            repeat (walk_at "b")
            have e2 : (((3 * i : Nat) : Int) + 1) = ((3 * i + 1 : Nat) : Int) := by omega
            rw [e2]
            refine bw_ixS (small_len (by rw [tx_len]; omega)) (tx_at h1) ?_
            refine ⟨_, _, rfl, hv_sig _ m2, ?_⟩
            repeat (walk_at "b")
            refine ⟨_, _, rfl, rfl, by rw [List.length_map, List.length_map, List.length_range, sizeLine_eq]; omega, rfl, ?_⟩
            rw [vals_snoc, List.map_append, Int.mul_comm]
            rfl
          · rintro acc os2 ⟨rfl, rfl⟩
            rw [rngD_len]
            try dsimp only [List.set_cons_zero, List.set_cons_succ]
            repeat (walk_at "b")
            refine cw_tupL ?_
            exact ret_same q
    · refine ⟨_, _, _, rfl, ea, eb, ?_⟩
      repeat (walk_at "b")
      exact ret_same q
end

def fCopI : FD := fun ds os QA _ => ∃ i : Int, ds = [.d (.int i)] ∧ QA (.int i) os
def isInt (v : V) : Prop := ∃ i : Int, v = .int i
section
variable {P : Program} {w : World} {K : PySem.W.Frag} {mg : Str → Option Value} {base : Heap}
abbrev s_copied : Stmt := topS 1
abbrev N_copied : List Str := ["thing", "part", "key"]
theorem sc_copied : FnScope N_copied ["thing"] (defScope s_copied) := ⟨rfl, rfl, rfl, by decide +kernel, rfl, by decide +kernel, by decide +kernel⟩
/-- of numbers alone -/
theorem ok_copiedI {f : Addr} {fd : FuncData} (F : Fun K "copied" "copied" s_copied f fd) (z_isinstance : mg "isinstance" = none) (z_bool : mg "bool" = none) (z_int : mg "int" = none) : FnOk P w K mg base CX0 1 f fd ["thing"] (spD K fCopI) := by
  refine F.ok sc_copied (fun vs H Q E h => ?_) (fun cdv A outer s H vs Q E hr h => ?_)
  · obtain ⟨as, os, ds, QA, EA, R, r, ⟨i, rfl, _⟩, _⟩ := h
    rw [r.length]
    rfl
  · refine ⟨_, pss_cons (ps_if (pt_val (pe_callB call_isi (by rfl) z_isinstance (by decide +kernel) (pa_cons (pv 0) (pa_cons (pe_bltn (v := .ty "bool") (by rfl) z_bool boot_bool rfl) pa_nil)))) pss_never pss_nil)
      (pss_cons (ps_if (pt_val (pe_callB call_isi (by rfl) z_isinstance (by decide +kernel) (pa_cons (pv 0) (pa_cons (pe_bltn (v := .ty "int") (by rfl) z_int boot_int rfl) pa_nil)))) (pss_one (ps_ret (pe_callTy call_intA (by rfl) z_int (by decide +kernel) (pa_cons (pv 0) pa_nil)))) pss_nil)
      pss_never), read_of h fun ds os QA EA hf => ?_⟩
    obtain ⟨i, rfl, q⟩ := hf
    try dsimp only [cxOf, Cx.nox, Cx.wish]
    show W K _ _ _ ⟨[some (.d (.int i)), none, none], os⟩
    repeat (walk_at "b")
    refine ⟨_, "int", false, rfl, rfl, (by decide +kernel), ?_⟩
    repeat (walk_at "b")
    refine ⟨_, "int", true, rfl, rfl, (by decide +kernel), ?_⟩
    repeat (walk_at "b")
    refine cw_intI ?_
    exact ret_same q
abbrev s_exInit : Stmt := inClass (topS 7) 0
abbrev N_exInit : List Str := ["self", "at"]
theorem sc_exInit : FnScope N_exInit ["self", "at"] (defScope s_exInit) := ⟨rfl, rfl, rfl, by decide +kernel, rfl, by decide +kernel, by decide +kernel⟩
theorem ok_exInit {f C f_copied : Addr} {fd fd_copied : FuncData} (F : Fun K "__init__" "NoHex.__init__" s_exInit f fd) (T : OexC K C) (noAt : PySem.W.findIn K (.ref C) "at" = some none) (z_ValueError : mg "ValueError" = none) (vV : PySem.W.findCls K (.type "ValueError") (.type "type") "__init__" = some (.val (.builtin "ValueError.__init__")))
    (G_copied : FnOk P w K mg base CX0 1 f_copied fd_copied ["thing"] (spD K fCopI)) (C_copied : Cal K mg "copied" f_copied fd_copied ["thing"]) : FnOk P w K mg base CX0 2 f fd ["self", "at"] (spI1 C "at" isInt) := by
  refine F.ok sc_exInit (fun vs H Q E h => ?_) (fun cdv A outer s H vs Q E hr h => ?_)
  · obtain ⟨a, v, rfl, _⟩ := h
    rfl
  · obtain ⟨a, v, rfl, ⟨i, rfl⟩, ha, k⟩ := h
    refine ⟨_, pss_cons (ps_expr (pe_veinit (by rfl) z_ValueError vV (pa_cons (pv 0) (pa_cons pe_str pa_nil))))
      (pss_one (ps_ost (pv 0) (pe_call G_copied (hr.mono (by decide)) rfl C_copied.m C_copied.k C_copied.b .nil pass0 (pa_cons (pv 1) pa_nil)))), ?_⟩
    refine ⟨_, rfl, a, C, _, rfl, Nat.le_of_ble_eq_true rfl, T, ha, ?_⟩
    refine ⟨_, rfl, [], [], [.d (.int i)], fun d os' => d = .int i, fun _ _ _ => False, ⟨List.nodup_nil, rfl, fun k a ob h _ => by cases h⟩, .cons (Dx.int i) .nil, ⟨i, rfl, rfl⟩, ?_, fun _ _ _ _ _ _ _ _ _ _ _ z => z.elim⟩
    intro v H' d os' g R r e
    subst e
    cases r
    refine ⟨_, rfl, a, C, rfl, T, noAt, .inl ⟨g _ _ ha (by intro z; cases z), fun dx hdx hne => ?_⟩⟩
    refine k dx _ ?_ hne upd_same (by rw [upd_ne hne]; exact upd_same) fun b o e hb => ?_
    · cases eh : H dx with
      | none => rfl
      | some o =>
        rw [g dx o eh (by intro z; cases z)] at hdx
        cases hdx
    · rw [upd_ne hb, upd_ne (ne_of_none (g b o e (by intro z; cases z)) hdx)]
      exact g b o e (by intro z; cases z)
end

/-- a class of exceptions with its own __init__ -/
structure Xcl (K : PySem.W.Frag) (mg : Str → Option Value) (x : Str) (C f : Addr) (fd : FuncData) (ps : List Str) : Prop where
  T : OexC K C
  iC : PySem.W.findIn K (.ref C) "__init__" = some (some (.ref f))
  tI : PySem.W.typeIn K (.ref f) = some (.type "function")
  b : Binds K fd ps []
  m : mg x = some (.ref C)
def readQ (C : Addr) (cs : List Nat) (QA : D → Os → Prop) (EA : Xa) (os : Os) : Prop := match bad cs with
  | some k => EA C [("at", .int k)] os
  | none => QA (.tup ((vals cs).map D.int)) os
def fRead (C : Addr) : FD := fun ds os QA EA => ∃ d, ds = [.d d] ∧ ((∃ cs : List Nat, d = .str (tx cs) ∧ cs.length ≤ 10000 ∧ readQ C cs QA EA os) ∨ (∃ a, d.ty = some a ∧ kitB a "str" = some false ∧ EA C [("at", .int 0)] os))
theorem raise_at {K : PySem.W.Frag} {E : XK} {EA : Xa} {os : Os} {Sl : Sl} {En : Ea} {C : Addr} {i : Int} {te : TE}
    (h : EW K { wx := fun cls d (x : L2.St) H => E cls d H, xe := fun C fds S => EA C fds (S.os.take os.length) } te ⟨Sl, os⟩ fun x os' => x = .d (.int i) ∧ os' = os) (q : EA C [("at", .int i)] os) :
    W K { wx := fun cls d (x : L2.St) H => E cls d H, xe := fun C fds S => EA C fds (S.os.take os.length) } (fun x σ H => tMkO C (spI1 C "at" isInt) [] (tCons te tNil) σ H fun cls d H' => E cls d H') En ⟨Sl, os⟩ := by
  refine w_raise1 (Wx := fun cls d x H => E cls d H) rfl (aw_cons (ew_mono h ?_))
  rintro x os' ⟨rfl, rfl⟩
  refine aw_nil ⟨_, _, rfl, rfl, ⟨i, rfl⟩, ?_⟩
  show EA C _ (os'.take os'.length)
  rw [List.take_length]
  exact q
section
variable {P : Program} {w : World} {K : PySem.W.Frag} {mg : Str → Option Value} {base : Heap}
abbrev s_read_hex : Stmt := topS 12
abbrev N_read_hex : List Str := ["text", "at"]
theorem sc_read_hex : FnScope N_read_hex ["text"] (defScope s_read_hex) := ⟨rfl, rfl, rfl, by decide +kernel, rfl, by decide +kernel, by decide +kernel⟩
theorem ok_read_hex {f C f_init f_may : Addr} {fd fd_init fd_may : FuncData} {u1 : Value} (F : Fun K "read_hex" "read_hex" s_read_hex f fd) (z_len : mg "len" = none) (z_range : mg "range" = none) (z_isinstance : mg "isinstance" = none) (z_str : mg "str" = none) (z_tuple : mg "tuple" = none)
    (g_SIGNS : mg "SIGNS" = some u1) (r1 : RelV (.str sigS) u1)
    (G_NoHex : FnOk P w K mg base CX0 2 f_init fd_init ["self", "at"] (spI1 C "at" isInt)) (X_NoHex : Xcl K mg "NoHex" C f_init fd_init ["self", "at"])
    (G_may_stand : FnOk P w K mg base CX0 1 f_may fd_may ["sign", "at"] (spD K fMay)) (C_may_stand : Cal K mg "may_stand" f_may fd_may ["sign", "at"]) : FnOk P w K mg base (CX P w) 4 f fd ["text"] (spD K (fRead C)) := by
  refine F.okX sc_read_hex (fun vs H Q E h => ?_) (fun cdv A outer s H vs Q E hr h => ?_)
  · obtain ⟨as, os, ds, QA, EA, R, r, ⟨d, rfl, _⟩, _⟩ := h
    rw [r.length]
    rfl
  · refine ⟨_, (pss_cons (ps_if (pt_not (pt_val (pe_callB call_isi (by rfl) z_isinstance (by decide +kernel) (pa_cons (pv 0) (pa_cons (pe_bltn (v := .ty "str") (by rfl) z_str boot_str rfl) pa_nil))))) (pss_one (ps_raise rfl (takes_of rfl rfl rfl rfl) (pmk_oex X_NoHex.T X_NoHex.iC X_NoHex.tI G_NoHex (hr.mono (by decide)) X_NoHex.b .nil pass0 rfl X_NoHex.m (pa_cons pe_int pa_nil)))) pss_nil)
  (pss_cons (ps_for (passes_of rfl) rfl (pi_range1 (by rfl) z_range (pa_cons (pe_callB call_lenS1 (by rfl) z_len PySem.boot_len (pa_cons (pv 0) pa_nil)) pa_nil)) (pg_name (i := 1) sc_read_hex.nd rfl (Or.inl rfl))
    (pss_one (ps_if (pt_not (pt_val (pe_call G_may_stand (hr.mono (by decide)) rfl C_may_stand.m C_may_stand.k C_may_stand.b .nil pass0 (pa_cons (pe_ix ix_str (pv 0) (pv 1) (fun _ _ => rfl)) (pa_cons (pv 1) pa_nil))))) (pss_one (ps_raise rfl (takes_of rfl rfl rfl rfl) (pmk_oex X_NoHex.T X_NoHex.iC X_NoHex.tI G_NoHex (hr.mono (by decide)) X_NoHex.b .nil pass0 rfl X_NoHex.m (pa_cons (pv 1) pa_nil)))) pss_nil)))
  (pss_cons (ps_if (PW.pt (pw_and (pt_cmpR op_gt (pe_callB call_lenS1 (by rfl) z_len PySem.boot_len (pa_cons (pv 0) pa_nil)) pe_int (nomark _)) (pw_and1 (pt_cmpR op_ne (pe_op op_mod (pe_callB call_lenS1 (by rfl) z_len PySem.boot_len (pa_cons (pv 0) pa_nil)) pe_int) pe_int (nomark _))))) (pss_one (ps_raise rfl (takes_of rfl rfl rfl rfl) (pmk_oex X_NoHex.T X_NoHex.iC X_NoHex.tI G_NoHex (hr.mono (by decide)) X_NoHex.b .nil pass0 rfl X_NoHex.m (pa_cons (pe_callB call_lenS1 (by rfl) z_len PySem.boot_len (pa_cons (pv 0) pa_nil)) pa_nil)))) pss_nil)
  (pss_one (ps_ret (pe_callTy call_tupA (by rfl) z_tuple (by decide +kernel) (pa_cons (pe_lc (own := [("at", 1)]) (g := (gName 1)) rfl sc_read_hex.nd (pi_range3 (by rfl) z_range (pa_cons pe_int (pa_cons (pe_callB call_lenS1 (by rfl) z_len PySem.boot_len (pa_cons (pv 0) pa_nil)) (pa_cons pe_int pa_nil)))) (blkOk_by (own := [("at", 1)]) (N := N_read_hex) (sc := defScope s_read_hex) (by decide +kernel)) (fun _ _ _ _ _ => (pg_name (i := 1) sc_read_hex.nd rfl (Or.inl rfl))) (fun _ _ _ _ _ => pts_nil) (fun _ _ _ _ _ => (pe_op op_add (pe_op op_mulW pe_int (pe_m1 PySem.F.slot_str_index PySem.F.type_str_index mt_sindex (pe_glob rfl g_SIGNS r1) (pe_ix ix_str (pv 0) (pv 1) (fun _ _ => rfl)))) (pe_m1 PySem.F.slot_str_index PySem.F.type_str_index mt_sindex (pe_glob rfl g_SIGNS r1) (pe_ix ix_str (pv 0) (pe_op op_add (pv 1) pe_int) (fun _ _ => rfl)))))) pa_nil))))))), read_of h fun ds os QA EA hf => ?_⟩
    obtain ⟨d, rfl, hf⟩ := hf
    try dsimp only [cxOf, Cx.nox, Cx.wish]
    show W K _ _ _ ⟨[some (.d d), none], os⟩
    repeat (walk_at "b")
    rcases hf with ⟨cs, rfl, hl, q⟩ | ⟨a, ea, eb, q⟩
    · refine ⟨_, "str", true, rfl, rfl, (by decide +kernel), ?_⟩
      repeat (walk_at "b")
      refine w_for ?_
      refine iw_rng1 ?_
      repeat (walk_at "b")
      refine cw_lenS (small_len (by rw [tx_len]; omega)) ?_
      repeat (walk_at "b")
      refine ⟨by omega, by rw [tx_len]; omega, fun i S' => (∀ j, j < i → okB cs j = true) ∧ ∃ o1 : Option Sv, S' = ⟨[some (.d (.str (tx cs))), o1], os⟩, ⟨fun j hj => absurd hj (by omega), _, rfl⟩, ?_, ?_⟩
      · rintro i d S' hd ⟨hok, o1, rfl⟩
        obtain ⟨hi, rfl⟩ := rngD_get hd
        have hi2 : i < cs.length := by rw [tx_len] at hi; omega
        have ei : (0 + (i : Int) * 1) = (i : Int) := by omega
        rw [ei]
        refine gw_name ?_
        dsimp only [List.set_cons_zero, List.set_cons_succ]
        repeat (walk_at "b")
        refine ew_call ?_
        repeat (walk_at "b")
        refine bw_ixS (small_len (by rw [tx_len]; omega)) (tx_at hi2) ?_
        repeat (walk_at "b")
        refine ⟨_, _, rfl, by omega, by omega, ?_⟩
        refine ⟨_, rfl, ?_⟩
        show if (!okB cs i) = true then _ else _
        cases hb : okB cs i with
        | true =>
          repeat (walk_at "b")
          refine ⟨fun j hj => ?_, _, rfl⟩
          rcases Nat.lt_succ_iff_lt_or_eq.mp hj with h | h
          · exact hok j h
          · rw [h]
            exact hb
        | false =>
          refine br_nF ?_
          have e := bad_at hok hi2 hb
          unfold readQ at q
          rw [e] at q
          refine raise_at (ew_var (d := .d (.int i)) rfl ⟨rfl, rfl⟩) q
      · rintro S' ⟨hok, o1, rfl⟩
        have hok2 : ∀ j, j < cs.length → okB cs j = true := fun j hj => hok j (by rw [rngD_len, tx_len]; omega)
        refine w_cut (fun S' => ¬ (cs.length > 0 ∧ cs.length % 3 ≠ 2) ∧ S' = ⟨[some (.d (.str (tx cs))), o1], os⟩) ?_ ?_
        · repeat (walk_at "b")
          refine cw_lenS (small_len (by rw [tx_len]; omega)) ?_
          repeat (walk_at "b")
          rw [tx_len]
          refine br_ite (fun h => ?_) (fun h => ?_)
          · have hpos : cs.length > 0 := by omega
            repeat (walk_at "b")
            refine cw_lenS (small_len (by rw [tx_len]; omega)) ?_
            repeat (walk_at "b")
            rw [tx_len]
            refine br_iteN (fun h3 => ?_) (fun h3 => ?_)
            · have e := bad_len hok2 hpos (by omega)
              unfold readQ at q
              rw [e] at q
              refine raise_at (ew_cb (aw_cons (ew_var (d := .d (.str (tx cs))) rfl (aw_nil (cw_lenS (small_len (by rw [tx_len]; omega)) ⟨?_, rfl⟩))))) q
              rw [tx_len]
            · repeat (walk_at "b")
              exact ⟨fun z => z.2 (by omega), rfl⟩
          · repeat (walk_at "b")
            exact ⟨fun z => h (by omega), rfl⟩
        · rintro S' ⟨hno, rfl⟩
          have e := bad_no hok2 hno
          unfold readQ at q
          rw [e] at q
          refine w_ret (ew_cb (aw_cons ?_))
          refine ew_lc (wg_name (by decide)) mg_name ?_
          refine iw_rng3 ?_
          repeat (walk_at "b")
          refine cw_lenS (small_len (by rw [tx_len]; omega)) ?_
          repeat (walk_at "b")
          refine ⟨_, _, _, _, rfl, rg3 (by rw [tx_len]; omega), ?_⟩
          rw [tx_len]
          refine ⟨fun i acc os2 => os2 = os ∧ acc = ((List.range i).map fun i => 16 * (hv (cs.getD (3 * i) 0) : Int) + (hv (cs.getD (3 * i + 1) 0) : Int)).map D.int, ⟨rfl, rfl⟩, ?_, ?_⟩
          · rintro i d acc os2 hd ⟨rfl, rfl⟩
            obtain ⟨hi, rfl⟩ := rngD_get hd
            have e1 : (0 + (i : Int) * 3) = ((3 * i : Nat) : Int) := by omega
            rw [e1]
            have hlen : cs.length % 3 = 2 := by
              by_cases z : cs.length % 3 = 2
              · exact z
              · exact absurd ⟨by omega, z⟩ hno
            have h1 : 3 * i + 1 < cs.length := by omega
            have m1 : cs.getD (3 * i) 0 ∈ sigL := ok_sig (hok2 _ (by omega)) (by omega)
            have m2 : cs.getD (3 * i + 1) 0 ∈ sigL := ok_sig (hok2 _ (by omega)) (by omega)
            refine gw_name ?_
            refine tw_yes (br_T ?_)
            show EW K X0 _ ⟨[some (.d (.str (tx cs))), some (.d (.int ((3 * i : Nat) : Int)))], _⟩ _
            repeat (walk_at "b")
            refine ew_sindex ?_
            repeat (walk_at "b")
            refine bw_ixS (small_len (by rw [tx_len]; omega)) (tx_at (by omega)) ?_
            refine ⟨_, _, rfl, hv_sig _ m1, ?_⟩
            repeat (walk_at "b")
            refine bw_i (c_mulS (by omega) (hv_bd m1)) ?_
            refine ew_sindex ?_
            repeat (walk_at "b")
            have e2 : (((3 * i : Nat) : Int) + 1) = ((3 * i + 1 : Nat) : Int) := by omega
            rw [e2]
            refine bw_ixS (small_len (by rw [tx_len]; omega)) (tx_at h1) ?_
            refine ⟨_, _, rfl, hv_sig _ m2, ?_⟩
            repeat (walk_at "b")
            refine ⟨_, _, rfl, rfl, by rw [List.length_map, List.length_map, List.length_range, sizeLine_eq]; omega, rfl, ?_⟩
            rw [vals_snoc, List.map_append]
            rfl
          · rintro acc os2 ⟨rfl, rfl⟩
            rw [rngD_len]
            refine aw_nil (cw_tupL ?_)
            exact ret_same q
    · refine ⟨_, _, _, rfl, ea, eb, ?_⟩
      repeat (walk_at "b")
      exact raise_at (ew_int ⟨rfl, rfl⟩) q
end

/-- what is asked of a kept exception's class -/
structure Kcl (K : PySem.W.Frag) (C : Addr) : Prop where
  T : XfC K C
  E : ExcC K C
  cl : (PySem.W.clsIn K C).isSome = true
  at_ : PySem.W.findIn K (.ref C) "at" = some none
  xm : PySem.W.exmOne K (.ref C) (.ref C) = some true
  ve : PySem.W.kitOne K (.ref C) (.type "ValueError") = some true
local macro_rules | `(tactic| walk_at "b") => `(tactic| first
  | with_reducible refine ew_isK ?_
  | with_reducible refine ew_xk ?_)
section
variable {P : Program} {w : World} {K : PySem.W.Frag} {mg : Str → Option Value} {base : Heap}
abbrev s_l_told : Stmt := topS 23
abbrev N_l_told : List Str := ["_law_thing", "_law_kept", "_law_found", "e"]
theorem sc_l_told : FnScope N_l_told ["_law_thing"] (defScope s_l_told) := ⟨rfl, rfl, rfl, by decide +kernel, rfl, by decide +kernel, by decide +kernel⟩
theorem ok_l_told {f C f_read : Addr} {fd fd_read : FuncData} (F : Fun K "_law_told" "_law_told" s_l_told f fd) (z_isinstance : mg "isinstance" = none) (z_bool : mg "bool" = none) (z_ValueError : mg "ValueError" = none) (m_NoHex : mg "NoHex" = some (.ref C)) (KC : Kcl K C)
    (G_read : FnOk P w K mg base (CX P w) 4 f_read fd_read ["text"] (spD K (fRead C))) (C_read : Cal K mg "read_hex" f_read fd_read ["text"]) : FnOk P w K mg base CX0 5 f fd ["_law_thing"] (spD K fDue) := by
  refine F.ok sc_l_told (fun vs H Q E h => ?_) (fun cdv A outer s H vs Q E hr h => ?_)
  · obtain ⟨as, os, ds, QA, EA, R, r, ⟨d, rfl, _⟩, _⟩ := h
    rw [r.length]
    rfl
  · refine ⟨_, pss_cons (ps_set (i := 1) sc_l_told.nd rfl (Or.inl rfl) pe_non)
      (pss_cons (ps_try_keep (i := 3) (j := 1) (c := .ref C) rfl rfl sc_l_told.nd rfl rfl rfl rfl rfl ⟨rfl, rfl, .inl m_NoHex⟩ rfl
        (fun W pn xe tk po => pss_one (ps_set (i := 2) sc_l_told.nd rfl (Or.inl rfl) (pe_callS G_read (hr.mono (by decide)) rfl C_read.m C_read.k C_read.b (passAt tk) (pa_cons (pv 0) pa_nil)))))
      (pss_cons (ps_if (pt_cmpR op_isN1 (pv 1) pe_non (nomark _)) (pss_one (ps_ret (pv 2))) pss_nil)
      (pss_one (ps_ret (pe_ifExp (PW.pt (pw_and (pt_val (pe_callB (call_isK KC.E KC.cl) (by rfl) z_isinstance (by decide +kernel) (pa_cons (pv 1) (pa_cons (pe_bltn (v := .ty "ValueError") (by rfl) z_ValueError PyProof.Rows.Boot.«ValueError» rfl) pa_nil))))
        (pw_and1 (pt_not (pt_val (pe_callB call_isi (by rfl) z_isinstance (by decide +kernel) (pa_cons (pe_xk KC.T KC.at_ (pv 1)) (pa_cons (pe_bltn (v := .ty "bool") (by rfl) z_bool boot_bool rfl) pa_nil))))))))
        (pe_lst (pa_cons pe_str (pa_cons (pe_xk KC.T KC.at_ (pv 1)) pa_nil))) pe_str))))), read_of h fun ds os QA EA hf => ?_⟩
    obtain ⟨d, rfl, hf⟩ := hf
    try dsimp only [cxOf, Cx.nox, Cx.wish]
    show W K _ _ _ ⟨[some (.d d), none, none, none], os⟩
    refine w_seq (w_asg (ew_non ?_))
    dsimp only [List.set_cons_zero, List.set_cons_succ]
    refine w_cut (fun S' => (∃ z : D, S' = ⟨[some (.d d), some (.d .non), some (.d z), none], os⟩ ∧ QA z os) ∨ ∃ k : Int, S' = ⟨[some (.d d), some (.d (.xo C [("at", .int k)])), none, none], os⟩ ∧ QA (.lst [.str "none", .int k]) os) ?_ ?_
    · refine w_try_keep (tb := fun W => tAsg (tCallS (spD K (fRead C)) (WE W) (tCons (tVar 0) tNil)) (gName 2)) (xe := fun C' fds S' => ∃ k : Int, C' = C ∧ fds = ([("at", .int k)] : List (Str × D)) ∧ S' = ⟨[some (.d d), some (.d .non), none, none], os⟩ ∧ QA (.lst [.str "none", .int k]) os) (by show 3 < 4; decide) (fun wx => ?_) ?_
      · refine w_asg (ew_callS ?_)
        repeat (walk_at "b")
        rcases hf with ⟨cs, rfl, hl, q⟩ | ⟨a, ea, eb, q⟩
        · refine ⟨_, rfl, .inl ⟨cs, rfl, hl, ?_⟩⟩
          unfold readQ
          unfold dueD at q
          cases e : bad cs with
          | some k =>
            rw [e] at q
            exact ⟨_, rfl, rfl, rfl, q⟩
          | none =>
            rw [e] at q
            exact .inl ⟨_, rfl, q⟩
        · exact ⟨_, rfl, .inr ⟨a, ea, eb, _, rfl, rfl, rfl, q⟩⟩
      · rintro C' fds S' ⟨k, rfl, rfl, rfl, q⟩
        exact ⟨KC.xm, (by show 3 < 4; decide), .inr ⟨k, rfl, q⟩⟩
    · rintro S' (⟨z, rfl, q⟩ | ⟨k, rfl, q⟩)
      · repeat (walk_at "b")
        refine bw_isN0 ⟨_, rfl, ?_⟩
        repeat (walk_at "b")
        exact ret_same q
      · repeat (walk_at "b")
        refine bw_isN1 ⟨_, rfl, ?_⟩
        repeat (walk_at "b")
        refine ew_if ?_
        repeat (walk_at "b")
        refine ⟨_, _, rfl, KC.ve, ?_⟩
        repeat (walk_at "b")
        refine ⟨_, D.int k, rfl, rfl, ?_⟩
        refine ⟨_, "int", false, rfl, rfl, (by decide +kernel), ?_⟩
        repeat (walk_at "b")
        refine ⟨_, D.int k, rfl, rfl, ?_⟩
        repeat (walk_at "b")
        exact ret_same q
end

def fBent : FD := fun ds os QA _ => ∃ (k : Nat) (text near : Str) (cells : List Int) (b : Int) (o : Os), ds = [.o k, .d (.str text), .d (.str near)] ∧ Pn k cells b o os ∧ text.length ≤ 3000 ∧ (0 < near.length ∧ near.length ≤ 200) ∧ b < 2 ^ 38 ∧
  ∀ (z : Str) (os' : Os), z.length ≤ 3 * text.length + 3 → Pn k cells (b + 4) o os' → QA (.str z) os'
theorem str_at {z : Str} {i : Int} (h0 : 0 ≤ i) (h1 : i < (z.length : Int)) : ∃ c, L2.atI z.cps.toList i = some c := by
  obtain ⟨d, h, _⟩ := at_mem (xs := z.cps.toList) h0 (by rw [Array.length_toList]; exact h1)
  exact ⟨d, h⟩
theorem app_len {a b : Str} : (a ++ b).length = a.length + b.length := by
  show (a.cps ++ b.cps).size = a.cps.size + b.cps.size
  exact Array.size_append ..
local macro_rules | `(tactic| walk_at "b") => `(tactic| first
  | with_reducible refine ew_sl ?_
  | with_reducible refine ow_none ?_
  | with_reducible refine ow_some ?_
  | with_reducible refine ew_revs ?_
  | with_reducible refine ew_if ?_)
section
variable {P : Program} {w : World} {K : PySem.W.Frag} {mg : Str → Option Value} {base : Heap}
abbrev s_l_bent_text : Stmt := topS 19
abbrev N_l_bent_text : List Str := ["_law_pen", "_law_text", "_law_near", "_law_spot", "_law_way", "_law_signs_here", "_law_sign"]
theorem sc_l_bent_text : FnScope N_l_bent_text ["_law_pen", "_law_text", "_law_near"] (defScope s_l_bent_text) := ⟨rfl, rfl, rfl, by decide +kernel, rfl, by decide +kernel, by decide +kernel⟩
theorem ok_l_bent_text {f f_draw f_signs : Addr} {fd fd_draw fd_signs : FuncData} (F : Fun K "_law_bent_text" "_law_bent_text" s_l_bent_text f fd) (z_len : mg "len" = none)
    (G_l_draw : FnOk P w K mg base CX0 1 f_draw fd_draw ["_law_pen", "_law_span"] (spD K fDraw)) (C_l_draw : Cal K mg "_law_draw" f_draw fd_draw ["_law_pen", "_law_span"])
    (G_l_signs : FnOk P w K mg base CX0 1 f_signs fd_signs [] (spD K fSigns)) (C_l_signs : Cal K mg "_law_signs" f_signs fd_signs []) : FnOk P w K mg base CX0 2 f fd ["_law_pen", "_law_text", "_law_near"] (spD K fBent) := by
  refine F.ok sc_l_bent_text (fun vs H Q E h => ?_) (fun cdv A outer s H vs Q E hr h => ?_)
  · obtain ⟨as, os, ds, QA, EA, R, r, ⟨k, text, near, cells, b, o, rfl, _⟩, _⟩ := h
    rw [r.length]
    rfl
  · refine ⟨_, (pss_cons (ps_par (i := 3) (j := 4) (by rfl) sc_l_bent_text.nd rfl rfl (by decide) rfl rfl (pa_cons (pe_call G_l_draw (hr.mono (by decide)) rfl C_l_draw.m C_l_draw.k C_l_draw.b .nil pass0 (pa_cons (pv 0) (pa_cons (pe_op op_add (pe_callB call_lenS1 (by rfl) z_len PySem.boot_len (pa_cons (pv 1) pa_nil)) pe_int) pa_nil))) (pa_cons (pe_call G_l_draw (hr.mono (by decide)) rfl C_l_draw.m C_l_draw.k C_l_draw.b .nil pass0 (pa_cons (pv 0) (pa_cons pe_int pa_nil))) pa_nil)) (by rfl))
  (pss_cons (ps_set (i := 5) sc_l_bent_text.nd rfl (Or.inl rfl) (pe_ix ix_list (pe_lst (pa_cons (pv 2) (pa_cons (pe_call0 G_l_signs (hr.mono (by decide)) rfl C_l_signs.m C_l_signs.k C_l_signs.b .nil pass0) pa_nil))) (pe_call G_l_draw (hr.mono (by decide)) rfl C_l_draw.m C_l_draw.k C_l_draw.b .nil pass0 (pa_cons (pv 0) (pa_cons pe_int pa_nil))) (fun _ _ => rfl)))
  (pss_cons (ps_set (i := 6) sc_l_bent_text.nd rfl (Or.inl rfl) (pe_ix ix_str (pv 5) (pe_call G_l_draw (hr.mono (by decide)) rfl C_l_draw.m C_l_draw.k C_l_draw.b .nil pass0 (pa_cons (pv 0) (pa_cons (pe_callB call_lenS1 (by rfl) z_len PySem.boot_len (pa_cons (pv 5) pa_nil)) pa_nil))) (fun _ _ => rfl)))
  (pss_cons (ps_if (pt_cmpR op_lt (pv 4) pe_int (nomark _)) (pss_one (ps_ret (pe_op op_addS (pe_op op_addS (pe_slice sl_str (pv 1) po_none (po_some (pv 3))) (pv 6)) (pe_slice sl_str (pv 1) (po_some (pe_op op_add (pv 3) (pe_op op_fdivW (pv 4) pe_int))) po_none)))) pss_nil)
  (pss_cons (ps_if (pt_cmpR op_eq (pv 4) pe_int (nomark _)) (pss_one (ps_ret (pe_op op_addS (pe_slice sl_str (pv 1) po_none (po_some (pv 3))) (pe_slice sl_str (pv 1) (po_some (pe_op op_add (pv 3) pe_int)) po_none)))) pss_nil)
  (pss_cons (ps_if (pt_cmpR op_eq (pv 4) pe_int (nomark _)) (pss_one (ps_ret (pe_op op_addS (pe_op op_addS (pe_slice sl_str (pv 1) po_none (po_some (pv 3))) (pe_revs (pe_slice sl_str (pv 1) (po_some (pv 3)) (po_some (pe_op op_add (pv 3) pe_int))))) (pe_slice sl_str (pv 1) (po_some (pe_op op_add (pv 3) pe_int)) po_none)))) pss_nil)
  (pss_one (ps_ret (pe_ifExp (pt_cmpR op_eq (pv 4) pe_int (nomark _)) (pe_slice sl_str (pv 1) po_none (po_some (pv 3))) (pe_op op_addS (pe_op op_addS (pe_slice sl_str (pv 1) po_none (po_some (pv 3))) (pe_slice sl_str (pv 1) (po_some (pv 3)) (po_some (pe_op op_add (pv 3) pe_int)))) (pe_slice sl_str (pv 1) (po_some (pv 3)) po_none))))))))))), read_of h fun ds os QA EA hf => ?_⟩
    obtain ⟨k, text, near, cells, b, o, rfl, ho, hl, hn, hb, q⟩ := hf
    try dsimp only [cxOf, Cx.nox, Cx.wish]
    show W K _ _ _ ⟨[some (.o k), some (.d (.str text)), some (.d (.str near)), none, none, none, none], os⟩
    refine w_seq (w_par ?_)
    repeat (walk_at "b")
    walk_at "dr"
    refine cw_lenS (small_len (by omega)) ?_
    repeat (walk_at "b")
    refine ⟨_, _, _, _, _, rfl, ho, by omega, by omega, fun spot os1 s0 s1 ho1 => ?_⟩
    repeat (walk_at "b")
    walk_at "dr"
    refine ⟨_, _, _, _, _, rfl, ho1, by omega, by omega, fun way os2 w0 w1 ho2 => ?_⟩
    repeat (walk_at "b")
    refine ⟨_, _, rfl, ?_⟩
    dsimp only [List.set_cons_zero, List.set_cons_succ]
    refine w_cut (fun S' => ∃ (z : Str) (os3 : Os), S' = ⟨[some (.o k), some (.d (.str text)), some (.d (.str near)), some (.d (.int spot)), some (.d (.int way)), some (.d (.str z)), none], os3⟩ ∧ (0 < z.length ∧ z.length ≤ 200) ∧ Pn k cells (b + 3) o os3) ?_ ?_
    · refine w_asg ?_
      repeat (walk_at "b")
      walk_at "dr"
      refine ⟨rfl, fun sg sg0 sg1 => ?_⟩
      dsimp only
      repeat (walk_at "b")
      walk_at "dr"
      refine ⟨_, _, _, _, _, rfl, ho2, by omega, by omega, fun e os3 e0 e1 ho3 => ?_⟩
      have ho3' : Pn k cells (b + 3) o os3 := ho3.mono (by omega)
      obtain ⟨x, hx, hm⟩ := at_mem (xs := [D.str near, D.str sg]) e0 e1
      refine bw_ixL hx ?_
      simp only [List.mem_cons, List.not_mem_nil, or_false] at hm
      rcases hm with rfl | rfl
      · exact ⟨near, os3, rfl, hn, ho3'⟩
      · exact ⟨sg, os3, rfl, ⟨sg0, sg1⟩, ho3'⟩
    · rintro S' ⟨z, os3, rfl, ⟨z0, z1⟩, ho3⟩
      refine w_seq (w_asg ?_)
      repeat (walk_at "b")
      walk_at "dr"
      refine cw_lenS (small_len (by omega)) ?_
      repeat (walk_at "b")
      refine ⟨_, _, _, _, _, rfl, ho3, by omega, by omega, fun e os4 e0 e1 ho4 => ?_⟩
      have ho4' : Pn k cells (b + 4) o os4 := ho4.mono (by omega)
      obtain ⟨c, hc⟩ := str_at e0 e1
      refine bw_ixS (small_len (by omega)) hc ?_
      dsimp only [List.set_cons_zero, List.set_cons_succ]
      have lc : (⟨#[c]⟩ : Str).length = 1 := rfl
      have ltx : text.length ≤ sizeLine := small_len (by omega)
      repeat (walk_at "b")
      refine br_ite (fun h4 => ?_) (fun h4 => ?_)
      · repeat (walk_at "b")
        refine sw_S ltx ?_
        have k1 := cutS_length text none (some spot)
        repeat (walk_at "b")
        refine bw_catS (small_len (by omega)) ?_
        repeat (walk_at "b")
        refine sw_S ltx ?_
        refine bw_catS (small_len ?_) (ho.ret ho4' (q _ _ ?_ ho4'))
        · rw [app_len]
          have k2 := cutS_length text (some (spot + way / 2)) none
          omega
        · rw [app_len, app_len]
          have k2 := cutS_length text (some (spot + way / 2)) none
          omega
      · repeat (walk_at "b")
        refine br_ite (fun h5 => ?_) (fun h5 => ?_)
        · repeat (walk_at "b")
          refine sw_S ltx ?_
          have k1 := cutS_length text none (some spot)
          repeat (walk_at "b")
          refine sw_S ltx ?_
          have k2 := cutS_length text (some (spot + 1)) none
          refine bw_catS (small_len (by omega)) (ho.ret ho4' (q _ _ ?_ ho4'))
          rw [app_len]
          omega
        · repeat (walk_at "b")
          refine br_ite (fun h6 => ?_) (fun h6 => ?_)
          · repeat (walk_at "b")
            refine sw_S ltx ?_
            have k1 := cutS_length text none (some spot)
            repeat (walk_at "b")
            refine sw_S ltx ?_
            have k2 := cutS_length text (some spot) (some (spot + 2))
            refine ⟨_, rfl, small_len (by omega), fun y hy => ?_⟩
            refine bw_catS (small_len (by omega)) ?_
            repeat (walk_at "b")
            refine sw_S ltx ?_
            have k3 := cutS_length text (some (spot + 2)) none
            refine bw_catS (small_len ?_) (ho.ret ho4' (q _ _ ?_ ho4'))
            · rw [app_len]
              omega
            · rw [app_len, app_len]
              omega
          · repeat (walk_at "b")
            refine br_ite (fun h7 => ?_) (fun h7 => ?_)
            · repeat (walk_at "b")
              refine sw_S ltx (ho.ret ho4' (q _ _ ?_ ho4'))
              have k1 := cutS_length text none (some spot)
              omega
            · repeat (walk_at "b")
              refine sw_S ltx ?_
              have k1 := cutS_length text none (some spot)
              repeat (walk_at "b")
              refine sw_S ltx ?_
              have k2 := cutS_length text (some spot) (some (spot + 1))
              refine bw_catS (small_len (by omega)) ?_
              repeat (walk_at "b")
              refine sw_S ltx ?_
              have k3 := cutS_length text (some spot) none
              refine bw_catS (small_len ?_) (ho.ret ho4' (q _ _ ?_ ho4'))
              · rw [app_len]
                omega
              · rw [app_len, app_len]
                omega
end

def twoC (b : Int) : List Nat := [sgC (b / 16), sgC (b % 16)]
theorem two_tx {b : Int} (h0 : 0 ≤ b) (h1 : b < 256) : PySem.W.br_two b.toNat = tx (twoC b) := by
  obtain ⟨n, rfl⟩ : ∃ n : Nat, b = (n : Int) := ⟨b.toNat, by omega⟩
  have hn : n < 256 := by omega
  rw [Int.toNat_natCast]
  clear h0 h1
  revert hn
  revert n
  decide +kernel
theorem sj {sep : List Nat} : ∀ (rest : List (List Nat)) (x : List Nat), Str.join (tx sep) (tx x :: rest.map tx) = tx (x ++ rest.flatMap fun y => sep ++ y)
  | [], x => by
    show tx x = _
    simp
  | y :: r, x => by
    show tx x ++ tx sep ++ Str.join (tx sep) (tx y :: r.map tx) = _
    rw [sj r y, tx_app, tx_app, List.flatMap_cons]
    simp [List.append_assoc]
theorem tj {sep : List Nat} (xs : List (List Nat)) : Txt.join (tx sep) (xs.map tx) = tx (match xs with | [] => [] | x :: r => x ++ r.flatMap fun y => sep ++ y) := by
  cases xs with
  | nil => rfl
  | cons x r =>
    refine Eq.trans ?_ (sj r x)
    exact StrLaws.glued_cons (tx sep) (r.map tx) (tx x)
/-- a line's signs -/
def lineC (c : List Int) : List Nat := match c.map twoC with
  | [] => []
  | x :: r => x ++ r.flatMap fun y => [32] ++ y
def chunk (row : List Int) (j : Nat) : List Int := (row.drop (16 * j)).take 16
def linesOf (row : List Int) : List (List Int) := (List.range ((row.length + 15) / 16)).map (chunk row)
theorem lines_nil : linesOf [] = [] := rfl
theorem lines_cons {row : List Int} (h : row ≠ []) : linesOf row = row.take 16 :: linesOf (row.drop 16) := by
  have hl : 0 < row.length := List.length_pos_iff.mpr h
  have e : (row.length + 15) / 16 = ((row.drop 16).length + 15) / 16 + 1 := by
    rw [List.length_drop]
    omega
  unfold linesOf
  rw [e, List.range_succ_eq_map, List.map_cons, List.map_map]
  congr 1
  refine List.map_congr_left fun j _ => ?_
  show (row.drop (16 * (j + 1))).take 16 = ((row.drop 16).drop (16 * j)).take 16
  rw [List.drop_drop]
  congr 2
  omega
theorem hex_app {a b : List Int} : ∀ {k : Int}, hexC k (a ++ b) = hexC k a ++ hexC (k + a.length) b := by
  induction a with
  | nil => intro k; simp [hexC]
  | cons x r ih =>
    intro k
    rw [List.cons_append, hexC, hexC, ih, List.append_assoc]
    congr 3
    rw [List.length_cons]
    omega
/-- within a line -/
theorem hex_in : ∀ {c : List Int} {k : Int} {m : Nat}, 0 < m → k % 16 = m → m + c.length ≤ 16 → 0 ≤ k → hexC k c = (c.map twoC).flatMap fun y => [32] ++ y
  | [], _, _, _, _, _, _ => rfl
  | x :: r, k, m, h0, h1, h2, h3 => by
    rw [List.length_cons] at h2
    have hp : pieceC k x = [32] ++ twoC x := by
      unfold pieceC sepC
      rw [if_pos (show k > 0 by omega), if_pos (show k % 16 > 0 by omega)]
      rfl
    cases r with
    | nil => simp [hexC, hp]
    | cons y r =>
      rw [hexC, hp, hex_in (c := y :: r) (k := k + 1) (m := m + 1) (by omega) (by rw [List.length_cons] at h2; omega) (by omega) (by omega), List.map_cons, List.flatMap_cons]
      simp [List.flatMap_cons]
theorem hex_line0 {c : List Int} (h : c.length ≤ 16) (hne : c ≠ []) : hexC 0 c = lineC c := by
  cases c with
  | nil => exact absurd rfl hne
  | cons x r =>
    rw [List.length_cons] at h
    rw [hexC]
    have hp : pieceC 0 x = twoC x := rfl
    rw [hp, hex_in (m := 1) (by decide) (by decide) (by omega) (by decide)]
    rfl
theorem hex_line {c : List Int} {k : Int} (h : c.length ≤ 16) (hne : c ≠ []) (hk : k % 16 = 0) (h0 : 0 < k) : hexC k c = [10] ++ lineC c := by
  cases c with
  | nil => exact absurd rfl hne
  | cons x r =>
    rw [List.length_cons] at h
    have hp : pieceC k x = [10] ++ twoC x := by
      unfold pieceC sepC
      rw [if_pos h0, if_neg (show ¬ k % 16 > 0 by omega)]
      rfl
    rw [hexC, hp, hex_in (m := 1) (by decide) (by omega) (by omega) (by omega), List.append_assoc]
    rfl
theorem hex_rest : ∀ (n : Nat) {row : List Int} {k : Int}, row.length ≤ n → k % 16 = 0 → 0 < k → hexC k row = ((linesOf row).map lineC).flatMap fun y => [10] ++ y
  | n, [], k, _, _, _ => rfl
  | 0, x :: r, k, h, _, _ => by simp at h
  | n + 1, x :: r, k, h, hk, h0 => by
    have hne : x :: r ≠ [] := by simp
    rw [List.length_cons] at h
    have hl : ((x :: r).take 16).length ≤ 16 := List.length_take_le ..
    have hc : (x :: r).take 16 ≠ [] := by simp
    rw [lines_cons hne, List.map_cons, List.flatMap_cons]
    have e := hex_app (a := (x :: r).take 16) (b := (x :: r).drop 16) (k := k)
    rw [List.take_append_drop, hex_line hl hc hk h0] at e
    rw [e]
    congr 1
    by_cases hd : (x :: r).drop 16 = []
    · rw [hd]
      rfl
    · have h16 : ((x :: r).take 16).length = 16 := by
        rw [List.length_take]
        have : 0 < ((x :: r).drop 16).length := List.length_pos_iff.mpr hd
        rw [List.length_drop] at this
        omega
      rw [h16]
      exact hex_rest n (by rw [List.length_drop, List.length_cons]; omega) (by omega) (by omega)
theorem hex_all {row : List Int} : hexC 0 row = (match (linesOf row).map lineC with | [] => [] | x :: r => x ++ r.flatMap fun y => [10] ++ y) := by
  cases row with
  | nil => rfl
  | cons x r =>
    have hne : x :: r ≠ [] := by simp
    have hl : ((x :: r).take 16).length ≤ 16 := List.length_take_le ..
    have hc : (x :: r).take 16 ≠ [] := by simp
    rw [lines_cons hne, List.map_cons]
    have e := hex_app (a := (x :: r).take 16) (b := (x :: r).drop 16) (k := 0)
    rw [List.take_append_drop, hex_line0 hl hc] at e
    rw [e]
    show _ = lineC ((x :: r).take 16) ++ _
    congr 1
    by_cases hd : (x :: r).drop 16 = []
    · rw [hd]
      rfl
    · have h16 : ((x :: r).take 16).length = 16 := by
        rw [List.length_take]
        have : 0 < ((x :: r).drop 16).length := List.length_pos_iff.mpr hd
        rw [List.length_drop] at this
        omega
      rw [h16]
      exact hex_rest (x :: r).length (by rw [List.length_drop]; omega) (by decide) (by decide)
theorem line_len {c : List Int} (h : c.length ≤ 16) : (lineC c).length ≤ 48 := by
  unfold lineC
  have hf : ∀ r : List Int, ((r.map twoC).flatMap fun y => [32] ++ y).length = 3 * r.length := by
    intro r
    induction r with
    | nil => rfl
    | cons x r ih =>
      rw [List.map_cons, List.flatMap_cons, List.length_append, ih, List.length_cons]
      show 3 + _ = _
      omega
  cases c with
  | nil => simp
  | cons x r =>
    rw [List.length_cons] at h
    show ((twoC x) ++ (r.map twoC).flatMap fun y => [32] ++ y).length ≤ 48
    rw [List.length_append, hf]
    show 2 + _ ≤ _
    omega
def fShow : FD := fun ds os QA _ => ∃ row : List Int, ds = [.d (.tup (row.map D.int))] ∧ (∀ b ∈ row, 0 ≤ b ∧ b < 256) ∧ row.length ≤ 1000 ∧ QA (.str (tx (hexC 0 row))) os
theorem cut_chunk {row : List Int} {j : Nat} (h : 16 * j < row.length) : Br.cutD (row.map D.int) (some ((16 * j : Nat) : Int)) (some (((16 * j : Nat) : Int) + 16)) = (chunk row j).map D.int := by
  unfold Br.cutD chunk
  have e : (((16 * j : Nat) : Int) + 16) = ((16 * j + 16 : Nat) : Int) := by omega
  rw [e, List.length_map, HT.sIx_nat, HT.sIx_nat, Nat.min_eq_left (Nat.le_of_lt h), List.map_take, List.map_drop]
  by_cases h2 : 16 * j + 16 ≤ row.length
  · rw [Nat.min_eq_left h2, show 16 * j + 16 - 16 * j = 16 by omega]
  · rw [Nat.min_eq_right (by omega)]
    rw [List.take_of_length_le (i := row.length - 16 * j) (by simp), List.take_of_length_le (i := 16) (by simp; omega)]
local macro_rules | `(tactic| walk_at "b") => `(tactic| first
  | with_reducible refine ew_fmt2 ?_
  | with_reducible refine ew_join ?_
  | with_reducible refine ew_joinK ?_)
section
variable {P : Program} {w : World} {K : PySem.W.Frag} {mg : Str → Option Value} {base : Heap}
abbrev s_show_hex : Stmt := topS 11
abbrev N_show_hex : List Str := ["row", "lines", "at", "line", "byte"]
theorem sc_show_hex : FnScope N_show_hex ["row"] (defScope s_show_hex) := ⟨rfl, rfl, rfl, by decide +kernel, rfl, by decide +kernel, by decide +kernel⟩
theorem ok_show_hex {f : Addr} {fd : FuncData} {u2 : Value} (F : Fun K "show_hex" "show_hex" s_show_hex f fd) (z_len : mg "len" = none) (z_range : mg "range" = none) (g_BYTES_A_LINE : mg "BYTES_A_LINE" = some u2) (r2 : RelV (.int 16) u2) : FnOk P w K mg base CX0 1 f fd ["row"] (spD K fShow) := by
  refine F.ok sc_show_hex (fun vs H Q E h => ?_) (fun cdv A outer s H vs Q E hr h => ?_)
  · obtain ⟨as, os, ds, QA, EA, R, r, ⟨row, rfl, _⟩, _⟩ := h
    rw [r.length]
    rfl
  · refine ⟨_, (pss_cons (ps_setLc (i := 1) (own := [("at", 2)]) (g := (gName 2)) rfl sc_show_hex.nd rfl rfl (sw_true rfl rfl rfl (by decide +kernel)) (pi_range3 (by rfl) z_range (pa_cons pe_int (pa_cons (pe_callB call_lenA (by rfl) z_len PySem.boot_len (pa_cons (pv 0) pa_nil)) (pa_cons (pe_glob rfl g_BYTES_A_LINE r2) pa_nil)))) (blkOk_by (own := [("at", 2)]) (N := N_show_hex) (sc := defScope s_show_hex) (by decide +kernel)) (fun _ _ _ _ _ => (pg_name (i := 2) sc_show_hex.nd rfl (Or.inl rfl))) (fun _ _ _ _ _ => pts_nil) (fun _ _ _ _ _ => (pe_slice (r := rSlA K) sl_tupA (pv 0) (po_some (pv 2)) (po_some (pe_op op_add (pv 2) (pe_glob rfl g_BYTES_A_LINE r2))))))
  (pss_one (ps_ret (pe_join pe_str (pe_lc (own := [("line", 3)]) (g := (gName 3)) rfl sc_show_hex.nd (pi_list (pv 1)) (blkOk_by (own := [("line", 3)]) (N := N_show_hex) (sc := defScope s_show_hex) (by decide +kernel)) (fun _ _ _ _ _ => (pg_name (i := 3) sc_show_hex.nd rfl (Or.inl rfl))) (fun _ _ _ _ _ => pts_nil) (fun _ _ _ _ _ => (pe_joinK (K := K) rfl pe_str (pe_lc (own := [("byte", 4)]) (g := (gName 4)) rfl sc_show_hex.nd (pi_tupK (K := K) rfl (pv 3)) (by show BlkOk N_show_hex (relS _ (defScope s_show_hex)) _ _; exact blkOk_by (own := [("byte", 4)]) (by decide +kernel)) (fun _ _ _ _ _ => (pg_name (i := 4) sc_show_hex.nd rfl (Or.inl rfl))) (fun _ _ _ _ _ => pts_nil) (fun _ _ _ _ _ => (pe_joined1 (pe_fmt02x (pv 4)))))))))))), read_of h fun ds os QA EA hf => ?_⟩
    obtain ⟨row, rfl, hb, hl, q⟩ := hf
    try dsimp only [cxOf, Cx.nox, Cx.wish]
    show W K _ _ _ ⟨[some (.d (.tup (row.map D.int))), none, none, none, none], os⟩
    refine w_seq (w_asg ?_)
    refine ew_lc (wg_name (by decide)) mg_name ?_
    refine iw_rng3 ?_
    repeat (walk_at "b")
    refine cw_lenU ?_
    repeat (walk_at "b")
    rw [List.length_map]
    refine ⟨_, _, _, _, rfl, rg16 (by omega), ?_⟩
    refine ⟨fun i acc os2 => os2 = os ∧ acc = (List.range i).map fun j => D.tup ((chunk row j).map D.int), ⟨rfl, rfl⟩, ?_, ?_⟩
    · rintro i d acc os2 hd ⟨rfl, rfl⟩
      obtain ⟨hi, rfl⟩ := rngD_get hd
      have e1 : (0 + (i : Int) * 16) = ((16 * i : Nat) : Int) := by omega
      rw [e1]
      refine gw_name ?_
      refine tw_yes (br_T ?_)
      show EW K X0 _ ⟨[some (.d (.tup (row.map D.int))), none, some (.d (.int ((16 * i : Nat) : Int))), none, none], _⟩ _
      repeat (walk_at "b")
      refine sw_T ?_
      rw [cut_chunk (by omega)]
      refine ⟨_, _, rfl, rfl, by rw [List.length_map, List.length_range, sizeLine_eq]; omega, rfl, ?_⟩
      rw [List.range_succ, List.map_append]
      rfl
    · rintro acc os2 ⟨rfl, rfl⟩
      rw [rngD_len]
      dsimp only [List.set_cons_zero, List.set_cons_succ]
      repeat (walk_at "b")
      refine ew_lc (wg_name (by decide)) mg_name ?_
      refine iw_list ?_
      repeat (walk_at "b")
      refine ⟨fun i acc os3 => os3 = os2 ∧ acc = (List.range i).map fun j => D.str (tx (lineC (chunk row j))), ⟨rfl, rfl⟩, ?_, ?_⟩
      · rintro i d acc os3 hd ⟨rfl, rfl⟩
        have hi : i < (row.length + 15) / 16 := by
          have z := (List.getElem?_eq_some_iff.mp hd).1
          rw [List.length_map, List.length_range] at z
          exact z
        have ed : d = D.tup ((chunk row i).map D.int) := by
          rw [List.getElem?_map, List.getElem?_range hi] at hd
          cases hd
          rfl
        subst ed
        have hc : (chunk row i).length ≤ 16 := List.length_take_le ..
        have hm : ∀ b ∈ chunk row i, 0 ≤ b ∧ b < 256 := fun b hb' => hb b (List.mem_of_mem_drop (List.mem_of_mem_take hb'))
        refine gw_name ?_
        refine tw_yes (br_T ?_)
        show EW K X0 _ ⟨[some (.d (.tup (row.map D.int))), some (.d _), none, some (.d (.tup ((chunk row i).map D.int))), none], _⟩ _
        repeat (walk_at "b")
        refine ew_lc (wg_name (by decide)) mg_name ?_
        refine iw_tup ?_
        repeat (walk_at "b")
        refine ⟨fun n acc os4 => os4 = os3 ++ [.ml ((List.range i).map fun j => D.str (tx (lineC (chunk row j))))] ∧ acc = ((chunk row i).take n).map fun b => D.str (tx (twoC b)), ⟨rfl, rfl⟩, ?_, ?_⟩
        · rintro n d acc os4 hd ⟨rfl, rfl⟩
          have hn : n < (chunk row i).length := by
            have z := (List.getElem?_eq_some_iff.mp hd).1
            rw [List.length_map] at z
            exact z
          have ed : d = D.int (chunk row i)[n] := by
            rw [List.getElem?_map, List.getElem?_eq_getElem hn] at hd
            cases hd
            rfl
          subst ed
          obtain ⟨b0, b1⟩ := hm _ (List.getElem_mem hn)
          refine gw_name ?_
          refine tw_yes (br_T ?_)
          show EW K X0 _ ⟨[some (.d (.tup (row.map D.int))), some (.d _), none, some (.d (.tup ((chunk row i).map D.int))), some (.d (.int (chunk row i)[n]))], _⟩ _
          repeat (walk_at "b")
          refine ⟨(chunk row i)[n].toNat, by rw [Int.toNat_of_nonneg b0], by omega, _, _, rfl, rfl, by rw [List.length_map, List.length_take, sizeLine_eq]; omega, rfl, ?_⟩
          rw [← List.take_append_getElem hn, List.map_append, two_tx b0 b1]
          rfl
        · rintro acc os4 ⟨rfl, rfl⟩
          rw [List.length_map, List.take_length]
          refine ⟨((chunk row i).map twoC).map tx, by rw [List.map_map, List.map_map]; rfl, ?_, ?_⟩
          · have hs : ∀ l : List Int, ((((l.map twoC).map tx).map (·.length)).sum) = 2 * l.length := by
              intro l
              induction l with
              | nil => rfl
              | cons x r ih =>
                rw [List.map_cons, List.map_cons, List.map_cons, List.sum_cons, ih, List.length_cons]
                show 2 + _ = _
                omega
            rw [hs, List.length_map, List.length_map]
            show 2 * _ + _ * 1 ≤ _
            omega
          · have e : Txt.join (" " : Str) (((chunk row i).map twoC).map tx) = tx (lineC (chunk row i)) := tj (sep := [32]) _
            rw [e]
            refine ⟨_, _, rfl, rfl, by rw [List.length_map, List.length_range, sizeLine_eq]; omega, rfl, ?_⟩
            rw [List.range_succ, List.map_append]
            rfl
      · rintro acc os3 ⟨rfl, rfl⟩
        rw [List.length_map, List.length_range]
        refine ⟨((linesOf row).map lineC).map tx, by unfold linesOf; rw [List.map_map, List.map_map, List.map_map]; rfl, ?_, ?_⟩
        · have hs : ∀ l : List (List Int), (∀ c ∈ l, c.length ≤ 16) → ((((l.map lineC).map tx).map (·.length)).sum) ≤ 48 * l.length := by
            intro l
            induction l with
            | nil => intro _; simp
            | cons x r ih =>
              intro hh
              rw [List.map_cons, List.map_cons, List.map_cons, List.sum_cons, List.length_cons]
              have h1 := ih fun c hc => hh c (List.mem_cons_of_mem _ hc)
              have h2 : (tx (lineC x)).length ≤ 48 := line_len (hh x List.mem_cons_self)
              omega
          have h1 := hs (linesOf row) fun c hc => by
            unfold linesOf at hc
            obtain ⟨j, _, rfl⟩ := List.mem_map.mp hc
            exact List.length_take_le ..
          have h2 : (linesOf row).length ≤ 100 := by
            unfold linesOf
            rw [List.length_map, List.length_range]
            omega
          rw [List.length_map, List.length_map]
          show _ + _ * 1 ≤ _
          omega
        · have e : Txt.join ("\n" : Str) (((linesOf row).map lineC).map tx) = tx (hexC 0 row) := by
            rw [hex_all]
            exact tj (sep := [10]) _
          rw [e]
          exact ret_same q
end

theorem hx : ∀ {row : List Int} {k : Int}, 0 < k → (hexC k row).length = 3 * row.length ∧ ∀ i (h : i < row.length), (hexC k row).getD (3 * i) 0 = sepC (k + i) ∧ (hexC k row).getD (3 * i + 1) 0 = sgC (row[i] / 16) ∧ (hexC k row).getD (3 * i + 2) 0 = sgC (row[i] % 16)
  | [], k, h0 => ⟨rfl, fun i h => absurd h (by simp)⟩
  | x :: r, k, h0 => by
    obtain ⟨l, g⟩ := hx (row := r) (k := k + 1) (by omega)
    have hp : hexC k (x :: r) = sepC k :: sgC (x / 16) :: sgC (x % 16) :: hexC (k + 1) r := by
      rw [hexC]
      unfold pieceC
      rw [if_pos (show k > 0 by omega)]
      rfl
    refine ⟨by rw [hp]; simp only [List.length_cons, l]; omega, fun i h => ?_⟩
    rw [hp]
    cases i with
    | zero => exact ⟨by simp, by simp, by simp⟩
    | succ i =>
      obtain ⟨g1, g2, g3⟩ := g i (by simpa using h)
      have e1 : 3 * (i + 1) = (3 * i) + 1 + 1 + 1 := by omega
      rw [e1]
      refine ⟨?_, ?_, ?_⟩
      · rw [List.getD_cons_succ, List.getD_cons_succ, List.getD_cons_succ, g1]
        congr 1
        omega
      · rw [show 3 * i + 1 + 1 + 1 + 1 = (3 * i + 1) + 1 + 1 + 1 by omega, List.getD_cons_succ, List.getD_cons_succ, List.getD_cons_succ, g2]
        rfl
      · rw [show 3 * i + 1 + 1 + 1 + 2 = (3 * i + 2) + 1 + 1 + 1 by omega, List.getD_cons_succ, List.getD_cons_succ, List.getD_cons_succ, g3]
        rfl
theorem sg_mem {n : Int} (h0 : 0 ≤ n) (h1 : n < 16) : sgC n ∈ sigL := by
  obtain ⟨j, rfl⟩ : ∃ j : Nat, n = (j : Int) := ⟨n.toNat, by omega⟩
  have h : ∀ j : _root_.Fin 16, sgC ((j.val : Nat) : Int) ∈ sigL := by decide +kernel
  exact h ⟨j, by omega⟩
theorem hv_sgI {n : Int} (h0 : 0 ≤ n) (h1 : n < 16) : (hv (sgC n) : Int) = n := by
  obtain ⟨j, rfl⟩ : ∃ j : Nat, n = (j : Int) := ⟨n.toNat, by omega⟩
  rw [hv_sg ⟨j, by omega⟩]
theorem ok_of_sig {cs : List Nat} {p : Nat} (h : cs.getD p 0 ∈ sigL) (hp : p % 3 < 2) : okB cs p = true := by
  unfold okB standsB
  rw [if_pos (by omega)]
  exact decide_eq_true h
theorem ok_of_sep {cs : List Nat} {p i : Nat} (e : p = 3 * i + 2) (h : cs.getD p 0 = sepC ((i : Int) + 1)) : okB cs p = true := by
  subst e
  unfold okB standsB
  rw [h, if_neg (by omega)]
  unfold sepC
  by_cases z : (((3 * i + 2 : Nat) : Int) / 3 + 1) % 16 = 0
  · rw [if_pos z, if_neg (by omega)]
    rfl
  · rw [if_neg z, if_pos (by omega)]
    rfl
theorem due_hex {row : List Int} (hb : ∀ b ∈ row, 0 ≤ b ∧ b < 256) : dueD (hexC 0 row) = .tup (row.map D.int) := by
  cases row with
  | nil => rfl
  | cons x r =>
    have hp : hexC 0 (x :: r) = sgC (x / 16) :: sgC (x % 16) :: hexC 1 r := rfl
    obtain ⟨l, g⟩ := hx (row := r) (k := 1) (by decide)
    have hlen : (hexC 0 (x :: r)).length = 3 * r.length + 2 := by rw [hp, List.length_cons, List.length_cons, l]
    obtain ⟨x0, x1⟩ := hb x List.mem_cons_self
    have hr : ∀ i (h : i < r.length), 0 ≤ r[i] ∧ r[i] < 256 := fun i h => hb _ (List.mem_cons_of_mem _ (List.getElem_mem h))
    have ok : ∀ p, p < (hexC 0 (x :: r)).length → okB (hexC 0 (x :: r)) p = true := by
      intro p h
      rw [hlen] at h
      rcases Nat.lt_or_ge p 2 with h2 | h2
      · refine ok_of_sig ?_ (by omega)
        rw [hp]
        rcases (show p = 0 ∨ p = 1 by omega) with rfl | rfl
        · exact sg_mem (by omega) (by omega)
        · exact sg_mem (by omega) (by omega)
      · obtain ⟨q, rfl⟩ : ∃ q, p = q + 1 + 1 := ⟨p - 2, by omega⟩
        have hq : q / 3 < r.length := by omega
        obtain ⟨g1, g2, g3⟩ := g (q / 3) hq
        obtain ⟨b0, b1⟩ := hr _ hq
        have hg : (hexC 0 (x :: r)).getD (q + 1 + 1) 0 = (hexC 1 r).getD q 0 := by
          rw [hp, List.getD_cons_succ, List.getD_cons_succ]
        rcases (show q % 3 = 0 ∨ q % 3 = 1 ∨ q % 3 = 2 by omega) with z | z | z
        · refine ok_of_sep (i := q / 3) (by omega) ?_
          rw [hg, show q = 3 * (q / 3) by omega, g1]
          congr 1
          omega
        · refine ok_of_sig ?_ (by omega)
          rw [hg, show q = 3 * (q / 3) + 1 by omega, g2]
          exact sg_mem (by omega) (by omega)
        · refine ok_of_sig ?_ (by omega)
          rw [hg, show q = 3 * (q / 3) + 2 by omega, g3]
          exact sg_mem (by omega) (by omega)
    have hno := bad_no ok (by rw [hlen]; omega)
    unfold dueD
    rw [hno]
    show D.tup _ = _
    congr 2
    unfold vals
    rw [hlen, show (3 * r.length + 2 + 2) / 3 = r.length + 1 by omega, List.range_succ_eq_map, List.map_cons, List.map_map]
    congr 1
    · rw [hp]
      show 16 * (hv (sgC (x / 16)) : Int) + (hv (sgC (x % 16)) : Int) = x
      rw [hv_sgI (by omega) (by omega), hv_sgI (by omega) (by omega)]
      omega
    · refine List.ext_getElem (by simp) fun i h1 h2 => ?_
      obtain ⟨g1, g2, g3⟩ := g i h2
      obtain ⟨b0, b1⟩ := hr _ h2
      rw [List.getElem_map, List.getElem_range]
      show 16 * (hv ((hexC 0 (x :: r)).getD (3 * (i + 1)) 0) : Int) + (hv ((hexC 0 (x :: r)).getD (3 * (i + 1) + 1) 0) : Int) = r[i]
      rw [hp, show 3 * (i + 1) = (3 * i + 1) + 1 + 1 by omega, List.getD_cons_succ, List.getD_cons_succ, List.getD_cons_succ, List.getD_cons_succ, g2, g3, hv_sgI (by omega) (by omega), hv_sgI (by omega) (by omega)]
      omega

def fFeed : FN := fun ds os QN => ∃ ns : List Int, ds = [.d (.lst (ns.map D.int))] ∧ ns.length ≤ 63 ∧ QN (.md (pen ns 0 0)) os
section
variable {P : Program} {w : World} {K : PySem.W.Frag} {mg : Str → Option Value} {base : Heap}
abbrev s_l_feed : Stmt := topS 15
abbrev N_l_feed : List Str := ["_law_script", "_law_cell"]
theorem sc_l_feed : FnScope N_l_feed ["_law_script"] (defScope s_l_feed) := ⟨rfl, rfl, rfl, by decide +kernel, rfl, by decide +kernel, by decide +kernel⟩
theorem ok_l_feed {f : Addr} {fd : FuncData} (F : Fun K "_law_feed" "_law_feed" s_l_feed f fd) : FnOk P w K mg base CX0 1 f fd ["_law_script"] (spN K fFeed) := by
  refine F.ok sc_l_feed (fun vs H Q E h => ?_) (fun cdv A outer s H vs Q E hr h => ?_)
  · obtain ⟨as, os, ds, QN, R, r, ⟨ns, rfl, _⟩, _⟩ := h
    rw [r.length]
    rfl
  · refine ⟨_, (pss_one (ps_ret (pe_disp (pps_cons pe_str (pe_lc (own := [("_law_cell", 1)]) (g := (gName 1)) rfl sc_l_feed.nd (pi_list (pe_slice sl_list (pv 0) po_none (po_some pe_int))) (blkOk_by (own := [("_law_cell", 1)]) (N := N_l_feed) (sc := defScope s_l_feed) (by decide +kernel)) (fun _ _ _ _ _ => (pg_name (i := 1) sc_l_feed.nd rfl (Or.inl rfl))) (fun _ _ _ _ _ => pts_nil) (fun _ _ _ _ _ => (pv 1))) (pps_cons pe_str pe_int (pps_cons pe_str pe_int pps_nil))) (by rfl) (by rfl) (fun z => by cases z) (by decide)))), readN_of h fun ds os QN hf => ?_⟩
    obtain ⟨ns, rfl, hl, q⟩ := hf
    try dsimp only [cxOf, Cx.nox, Cx.wish]
    show W K _ _ _ ⟨[some (.d (.lst (ns.map D.int))), none], os⟩
    refine w_retDisp ?_
    refine dw_cons (ew_str ?_)
    refine ew_lc (wg_name (by decide)) mg_name ?_
    refine iw_list ?_
    repeat (walk_at "b")
    refine sw_L ?_
    have ec : Br.cutD (ns.map D.int) none (some 63) = ns.map D.int := by
      unfold Br.cutD
      have e : (some (63 : Int)) = some ((63 : Nat) : Int) := rfl
      rw [e, HT.sIx_nat, HT.sIx_none, List.length_map, Nat.min_eq_right (by omega), List.drop_zero, Nat.sub_zero, List.take_of_length_le (by rw [List.length_map]; exact Nat.le_refl _)]
    rw [ec]
    refine ⟨_, rfl, ?_⟩
    refine ⟨fun i acc os2 => os2 = os ++ [.md []] ∧ acc = (ns.take i).map D.int, ⟨rfl, rfl⟩, ?_, ?_⟩
    · rintro i d acc os2 hd ⟨rfl, rfl⟩
      have hn : i < ns.length := by
        have z := (List.getElem?_eq_some_iff.mp hd).1
        rw [List.length_map] at z
        exact z
      have ed : d = D.int ns[i] := by
        rw [List.getElem?_map, List.getElem?_eq_getElem hn] at hd
        cases hd
        rfl
      subst ed
      refine gw_name ?_
      refine tw_yes (br_T ?_)
      show EW K X0 _ ⟨[some (.d (.lst (ns.map D.int))), some (.d (.int ns[i]))], _⟩ _
      repeat (walk_at "b")
      refine ⟨_, _, rfl, rfl, by rw [List.length_map, List.length_take, sizeLine_eq]; omega, rfl, ?_⟩
      rw [← List.take_append_getElem hn, List.map_append]
      rfl
    · rintro acc os2 ⟨rfl, rfl⟩
      rw [List.length_map, List.take_length]
      refine ⟨_, _, rfl, rfl, ?_⟩
      refine dw_cons (ew_str (ew_int ⟨_, _, rfl, rfl, dw_cons (ew_str (ew_int ⟨_, _, rfl, rfl, dw_nil ?_⟩))⟩))
      refine ⟨os, pen ns 0 0, rfl, rfl, by show 3 ≤ 15; decide, rfl, by rw [List.length_append]; rfl, .md (pen ns 0 0), ?_, ?_⟩
      · show (os ++ [Ob.md (pen ns 0 0)])[os.length]? = _
        simp
      · show QN _ ((os ++ [Ob.md (pen ns 0 0)]).take os.length)
        rw [List.take_left' rfl]
        exact q
end

/-- data that may be shown and held against itself -/
structure GoodD (x : D) (p : PyData) : Prop where
  e : x.py = some p
  h1 : p.showable = true
  h2 : p.hasDict = false
  h3 : p.depth ≤ 10
  h4 : p.shown.length ≤ sizeLine
  sh : SeqAt.shaped p = true
  r : (∃ xs, x = .lst xs) ∨ ∃ xs, x = .tup xs
section
variable {K : PySem.W.Frag} {os : Os} {Q : Sv → Os → Prop} {x : D} {p : PyData}
theorem cw_reprG (g : GoodD x p) (q : Q (.d (.str p.shown)) os) : CW K (rRepr K) [.d x] os Q := by
  have e := g.e
  rcases g.r with ⟨xs, rfl⟩ | ⟨xs, rfl⟩
  · have e2 : (D.pys xs).map PyData.list = some p := e
    obtain ⟨ps, e3, rfl⟩ := Option.map_eq_some_iff.mp e2
    exact cw_reprL e3 g.h1 g.h2 g.h3 g.h4 q
  · have e2 : (D.pys xs).map PyData.tuple = some p := e
    obtain ⟨ps, e3, rfl⟩ := Option.map_eq_some_iff.mp e2
    exact cw_reprU e3 g.h1 g.h2 g.h3 g.h4 q
theorem bw_neG (g : GoodD x p) (q : Q (.d (.bl false)) os) : BW K (rNeD K) (.d x) (.d x) os Q :=
  bw_neD g.e g.e g.sh g.sh (by rw [SeqAt.eqv_refl p (SeqAt.canLay_of_shaped g.sh)]; exact q)
end
theorem sm_int {i : Int} (h0 : 0 ≤ i) (h1 : i < 10001) : (PyData.int i).leavesShort 13 = true ∧ (PyData.int i).showable = true ∧ (PyData.int i).weight ≤ 14 := by
  have hlog : i.natAbs.log2 < 14 := by
    by_cases z : i.natAbs = 0
    · rw [z]
      decide
    · exact (Nat.log2_lt z).mpr (by omega)
  refine ⟨?_, ?_, ?_⟩
  · rw [PyData.leavesShort]
    exact decide_eq_true (PyData.shown_int_le2 (by omega) (by omega))
  · rw [PyData.showable]
    exact decide_eq_true (by omega)
  · rw [PyData.weight]
    split <;> omega
theorem sm_all : ∀ {ns : List Int}, (∀ n ∈ ns, 0 ≤ n ∧ n < 10001) → PyData.leavesShortAll 13 (ns.map PyData.int) = true ∧ PyData.showableAll (ns.map PyData.int) = true ∧ PyData.hasDictAll (ns.map PyData.int) = false ∧ PyData.canLayAll0 (ns.map PyData.int) = true ∧ PyData.weightAll (ns.map PyData.int) ≤ 15 * ns.length
  | [], _ => ⟨rfl, rfl, rfl, rfl, by simp [PyData.weightAll]⟩
  | n :: r, h => by
    obtain ⟨a1, a2, a3, a4, a5⟩ := sm_all (ns := r) fun m hm => h m (List.mem_cons_of_mem _ hm)
    obtain ⟨b1, b2, b3⟩ := sm_int (h n List.mem_cons_self).1 (h n List.mem_cons_self).2
    refine ⟨?_, ?_, ?_, ?_, ?_⟩
    · rw [List.map_cons, PyData.leavesShortAll, b1, a1]; rfl
    · rw [List.map_cons, PyData.showableAll, b2, a2]; rfl
    · rw [List.map_cons, PyData.hasDictAll, PyData.hasDict, a3]; rfl
    · rw [List.map_cons, PyData.canLayAll0, PyData.canLay0, a4]; rfl
    · rw [List.map_cons, PyData.weightAll, List.length_cons]; omega
theorem good_tup {ns : List Int} (h : ∀ n ∈ ns, 0 ≤ n ∧ n < 10001) (hl : ns.length ≤ 5000) : GoodD (.tup (ns.map D.int)) (.tuple (ns.map PyData.int)) := by
  obtain ⟨a1, a2, a3, a4, a5⟩ := sm_all h
  have hd : PyData.depth (.tuple (ns.map PyData.int)) ≤ 10 := by
    rw [PyData.depth, PySem.W.ke_depthAll]
    decide
  refine ⟨?_, ?_, ?_, hd, PyData.shown_fits (B := 13) (by decide) (by decide) ?_ ?_, ?_, .inr ⟨_, rfl⟩⟩
  · show (D.pys (ns.map D.int)).map PyData.tuple = _
    rw [pys_ints]
    rfl
  · rw [PyData.showable, a2]
  · rw [PyData.hasDict, a3]
  · rw [PyData.leavesShort, a1]
  · rw [PyData.weight]
    have : (2 : Nat) ^ 20 = 1048576 := by decide
    omega
  · unfold SeqAt.shaped
    rw [PyData.canLay0, a4, decide_eq_true (show PyData.depth _ ≤ 64 by omega)]
    rfl
theorem good_none {k : Int} (h0 : 0 ≤ k) (h1 : k < 10001) : GoodD (.lst [.str "none", .int k]) (.list [.str "none", .int k]) := by
  obtain ⟨b1, b2, b3⟩ := sm_int h0 h1
  refine ⟨rfl, ?_, rfl, ?_, PyData.shown_fits (B := 13) (by decide) (by decide) ?_ ?_, ?_, .inl ⟨_, rfl⟩⟩
  · rw [PyData.showable, PyData.showableAll, PyData.showableAll, b2]
    rfl
  · simp [PyData.depth, PyData.depthAll]
  · rw [PyData.leavesShort, PyData.leavesShortAll, PyData.leavesShortAll, b1]
    decide
  · rw [PyData.weight, PyData.weightAll, PyData.weightAll, PyData.weightAll]
    have : (2 : Nat) ^ 20 = 1048576 := by decide
    have h4 : PyData.weight (.str "none") = 4 := rfl
    omega
  · have h4 : PyData.canLay0 (.str "none") = true := by decide +kernel
    simp [SeqAt.shaped, PyData.canLay0, PyData.canLayAll0, PyData.depth, PyData.depthAll]
    simpa [PyData.canLay0] using h4

theorem okG {P : Program} {w : World} {K : PySem.W.Frag} {mg : Str → Option Value} {base : Heap} {x qual : Str} {st : Stmt} {f : Addr} {fd : FuncData} {N ps : List Str} {k : Nat} {sp : Sp} (F : Fun K x qual st f fd) (S : FnScope N ps (defScope st)) (len : ∀ vs H Q E, sp vs H Q E → vs.length = ps.length)
    (body : ∀ (cdv : Value) (A : Around) (outer : List Env) (s : Shared) (H : Hp) (vs : List V) (Q : VK) (E : XK), (A.deeper (envOfC qual (defScope st) s.heap.objs.size f cdv)).guards = some [] → Room k (A.deeper (envOfC qual (defScope st) s.heap.objs.size f cdv)) → sp vs H Q E →
      ∃ t, PSs (cxOf CX0 P w K mg base N qual (defScope st) f cdv A outer s H E).nox (defBody st) t ∧ t { nx := fun _ H' => Q .non H', rt := Q } (L2.start N vs) H) : FnG P w K mg base (k + 1) f fd ps sp := by
  obtain ⟨oc, od, kV, doc, pm, an, cdv, ct, osl, rfl, lk, hcd⟩ := F.ex
  refine fn_ofG lk hcd S len fun A outer s H vs Q E hg hr hsp => ?_
  obtain ⟨t, h, q⟩ := body cdv A outer s H vs Q E hg hr hsp
  exact ⟨t, h.nox, q⟩
def fLaw : FD := fun ds os QA _ => ∃ ns : List Int, ds = [.d (.lst (ns.map D.int))] ∧ os = [] ∧ ns.length ≤ 63 ∧ ∀ os', QA (.bl true) os'
theorem bad_le {cs : List Nat} {k : Nat} (h : bad cs = some k) : k ≤ cs.length := by
  unfold bad at h
  split at h
  · rename_i e
    cases h
    have z := List.mem_of_find?_eq_some e
    rw [List.mem_range] at z
    omega
  · split at h
    · cases h
      exact Nat.le_refl _
    · cases h
theorem good_due {cs : List Nat} (h : cs.length ≤ 10000) : ∃ p, GoodD (dueD cs) p := by
  unfold dueD
  cases e : bad cs with
  | some k =>
    have := bad_le e
    exact ⟨_, good_none (by omega) (by omega)⟩
  | none =>
    refine ⟨_, good_tup (fun n hn => ?_) ?_⟩
    · unfold vals at hn
      obtain ⟨i, _, rfl⟩ := List.mem_map.mp hn
      have h1 := hv_all (cs.getD (3 * i) 0)
      have h2 := hv_all (cs.getD (3 * i + 1) 0)
      omega
    · unfold vals
      rw [List.length_map, List.length_range]
      omega
/-- what may be asked about -/
def Askd (x : D) : Prop := (∃ cs : List Nat, x = .str (tx cs) ∧ cs.length ≤ 10000) ∨ ∃ a, x.ty = some a ∧ kitB a "str" = some false
theorem ask_str {z : Str} (h : z.length ≤ 10000) : Askd (.str z) := .inl ⟨z.cps.toList, rfl, by rw [Array.length_toList]; exact h⟩
/-- the answer -/
def ansD (x : D) (d : D) : Prop := (∃ cs : List Nat, x = .str (tx cs) ∧ d = dueD cs) ∨ ((∀ z, x ≠ .str z) ∧ d = .lst [.str "none", .int 0])
theorem tx_inj {a b : List Nat} (h : tx a = tx b) : a = b := by
  have h2 : (tx a).cps = (tx b).cps := congrArg Str.cps h
  have h3 := congrArg Array.toList h2
  simpa [tx] using h3
theorem ans_due {x : D} {os : Os} {QA : D → Os → Prop} {EA : Xa} (h : Askd x) (q : ∀ d p, ansD x d → GoodD d p → QA d os) : fDue [.d x] os QA EA := by
  refine ⟨x, rfl, ?_⟩
  rcases h with ⟨cs, rfl, hl⟩ | ⟨a, ea, eb⟩
  · obtain ⟨p, g⟩ := good_due hl
    exact .inl ⟨cs, rfl, hl, q _ p (.inl ⟨cs, rfl, rfl⟩) g⟩
  · refine .inr ⟨a, ea, eb, q _ _ (.inr ⟨fun z e => ?_, rfl⟩) (good_none (by decide) (by decide))⟩
    subst e
    cases ea
    have h : kitB "str" "str" = some true := by decide +kernel
    rw [h] at eb
    cases eb
theorem ans_one {x d e : D} (h1 : ansD x d) (h2 : ansD x e) : d = e := by
  rcases h1 with ⟨cs, r1, r2⟩ | ⟨r1, r2⟩ <;> rcases h2 with ⟨cs', r3, r4⟩ | ⟨r3, r4⟩
  · rw [r1] at r3
    have z := tx_inj (D.str.inj r3)
    rw [r2, r4, z]
  · exact absurd r1 (r3 _)
  · exact absurd r3 (r1 _)
  · rw [r2, r4]
theorem ew_dnew {K : PySem.W.Frag} {X : Xc} {S : Sa} {Q : Sv → Os → Prop} (q : Q (.d (.dk [])) S.os) : EW K X tDNewK S Q := fun as H σ Q' R x k p hp =>
  k (.ref p) _ (.d (.dk [])) S.os (Go.new hp) (R.o.new hp) (Dx.dk (R.o.notin hp) (.inl upd_same) .nil) q
local macro_rules | `(tactic| walk_at "b") => `(tactic| first
  | with_reducible refine ew_dnew ?_
  | with_reducible refine ew_call ?_
  | with_reducible refine w_asgN ?_)
section
variable {P : Program} {w : World} {K : PySem.W.Frag} {mg : Str → Option Value} {base : Heap}
abbrev s_law : Stmt := topS 24
abbrev N_law : List Str := ["_law_script", "_law_pen", "_law_turn", "_law_long", "_law_row", "_law_text", "_law_bent", "_law_odd", "_law_thing", "_law_k"]
theorem sc_law : FnScope N_law ["_law_script"] (defScope s_law) := ⟨rfl, rfl, rfl, by decide +kernel, rfl, by decide +kernel, by decide +kernel⟩
theorem ok_law {f a1 a2 a3 a4 a5 a6 a7 a8 a9 : Addr} {fd d1 d2 d3 d4 d5 d6 d7 d8 d9 : FuncData} (F : Fun K "law" "law" s_law f fd) (z_len : mg "len" = none) (z_min : mg "min" = none) (z_range : mg "range" = none) (z_repr : mg "repr" = none) (z_tuple : mg "tuple" = none)
    (G_l_feed : FnOk P w K mg base CX0 1 a1 d1 ["_law_script"] (spN K fFeed)) (C_l_feed : Cal K mg "_law_feed" a1 d1 ["_law_script"])
    (G_l_draw : FnOk P w K mg base CX0 1 a2 d2 ["_law_pen", "_law_span"] (spD K fDraw)) (C_l_draw : Cal K mg "_law_draw" a2 d2 ["_law_pen", "_law_span"])
    (G_l_byte : FnOk P w K mg base CX0 2 a3 d3 ["_law_pen"] (spD K fByte)) (C_l_byte : Cal K mg "_law_byte" a3 d3 ["_law_pen"])
    (G_l_hex : FnOk P w K mg base CX0 1 a4 d4 ["_law_row"] (spD K fHex)) (C_l_hex : Cal K mg "_law_hex" a4 d4 ["_law_row"])
    (G_show_hex : FnOk P w K mg base CX0 1 a5 d5 ["row"] (spD K fShow)) (C_show_hex : Cal K mg "show_hex" a5 d5 ["row"])
    (G_l_told : FnOk P w K mg base CX0 5 a6 d6 ["_law_thing"] (spD K fDue)) (C_l_told : Cal K mg "_law_told" a6 d6 ["_law_thing"])
    (G_l_bent_text : FnOk P w K mg base CX0 2 a7 d7 ["_law_pen", "_law_text", "_law_near"] (spD K fBent)) (C_l_bent_text : Cal K mg "_law_bent_text" a7 d7 ["_law_pen", "_law_text", "_law_near"])
    (G_l_pick : FnOk P w K mg base CX0 2 a8 d8 ["_law_pen", "_law_some"] (spD K fPick)) (C_l_pick : Cal K mg "_law_pick" a8 d8 ["_law_pen", "_law_some"])
    (G_l_due : FnOk P w K mg base CX0 1 a9 d9 ["_law_thing"] (spD K fDue)) (C_l_due : Cal K mg "_law_due" a9 d9 ["_law_thing"]) : FnG P w K mg base 6 f fd ["_law_script"] (spD K fLaw) := by
  refine okG F sc_law (fun vs H Q E h => ?_) (fun cdv A outer s H vs Q E hgd hr h => ?_)
  · obtain ⟨as, os, ds, QA, EA, R, r, ⟨ns, rfl, _⟩, _⟩ := h
    rw [r.length]
    rfl
  · have hu64 : (A.deeper (envOfC "law" (defScope s_law) s.heap.objs.size f cdv)).units + 64 < cLine := by
      have := hr.un
      omega
    have hu65 := hu64
    refine ⟨_, (pss_cons (ps_set (i := 1) sc_law.nd rfl (Or.inr rfl) (pe_call G_l_feed (hr.mono (by decide)) rfl C_l_feed.m C_l_feed.k C_l_feed.b .nil pass0 (pa_cons (pv 0) pa_nil)))
  (pss_cons (ps_for PassesOwn.never rfl (pi_range1 (by rfl) z_range (pa_cons (pe_op op_add pe_int (pe_callB (call_min2A rfl) (by rfl) z_min (by decide +kernel) (pa_cons pe_int (pa_cons (pe_callB call_lenA (by rfl) z_len PySem.boot_len (pa_cons (pv 0) pa_nil)) pa_nil)))) pa_nil)) (pg_name (i := 2) sc_law.nd rfl (Or.inl rfl))
    (pss_cons (ps_set (i := 3) sc_law.nd rfl (Or.inl rfl) (pe_call G_l_draw (hr.mono (by decide)) rfl C_l_draw.m C_l_draw.k C_l_draw.b .nil pass0 (pa_cons (pv 1) (pa_cons (pe_ix ix_list (pe_lst (pa_cons pe_int (pa_cons pe_int (pa_cons pe_int (pa_cons pe_int pa_nil))))) (pe_call G_l_draw (hr.mono (by decide)) rfl C_l_draw.m C_l_draw.k C_l_draw.b .nil pass0 (pa_cons (pv 1) (pa_cons pe_int pa_nil))) (fun _ _ => rfl)) pa_nil))))
    (pss_cons (ps_set (i := 4) sc_law.nd rfl (Or.inl rfl) (pe_callTy call_tupA (by rfl) z_tuple (by decide +kernel) (pa_cons (pe_lc (own := [("_law_k", 9)]) (g := (gName 9)) rfl sc_law.nd (pi_range1 (by rfl) z_range (pa_cons (pv 3) pa_nil)) (blkOk_by (own := [("_law_k", 9)]) (N := N_law) (sc := defScope s_law) (by decide +kernel)) (fun _ _ _ _ _ => (pg_name (i := 9) sc_law.nd rfl (Or.inl rfl))) (fun _ _ _ _ _ => pts_nil) (fun _ _ _ _ _ => (pe_call G_l_byte (hr.mono (by decide)) rfl C_l_byte.m C_l_byte.k C_l_byte.b .nil pass0 (pa_cons (pv 1) pa_nil)))) pa_nil)))
    (pss_cons (ps_set (i := 5) sc_law.nd rfl (Or.inl rfl) (pe_call G_l_hex (hr.mono (by decide)) rfl C_l_hex.m C_l_hex.k C_l_hex.b .nil pass0 (pa_cons (pv 4) pa_nil)))
    (pss_cons (ps_if (PW.pt (pw_or (pt_cmpR op_ne (pe_call G_show_hex (hr.mono (by decide)) rfl C_show_hex.m C_show_hex.k C_show_hex.b .nil pass0 (pa_cons (pv 4) pa_nil)) (pv 5) (nomark _)) (pw_or1 (pt_cmpR op_ne (pe_callB (call_repr hgd hu65) (by rfl) z_repr (by decide +kernel) (pa_cons (pe_call G_l_told (hr.mono (by decide)) rfl C_l_told.m C_l_told.k C_l_told.b .nil pass0 (pa_cons (pv 5) pa_nil)) pa_nil)) (pe_callB (call_repr hgd hu65) (by rfl) z_repr (by decide +kernel) (pa_cons (pv 4) pa_nil)) (nomark _))))) (pss_one (ps_ret pe_bl)) pss_nil)
    (pss_cons (ps_set (i := 6) sc_law.nd rfl (Or.inl rfl) (pe_call G_l_bent_text (hr.mono (by decide)) rfl C_l_bent_text.m C_l_bent_text.k C_l_bent_text.b .nil pass0 (pa_cons (pv 1) (pa_cons (pv 5) (pa_cons pe_str pa_nil)))))
    (pss_cons (ps_set (i := 7) sc_law.nd rfl (Or.inl rfl) (pe_call G_l_pick (hr.mono (by decide)) rfl C_l_pick.m C_l_pick.k C_l_pick.b .nil pass0 (pa_cons (pv 1) (pa_cons (pe_lst (pa_cons pe_non (pa_cons pe_int (pa_cons pe_bl (pa_cons (pv 4) (pa_cons (pe_lst (pa_cons (pv 5) pa_nil)) (pa_cons pe_dnewK (pa_cons (pe_tup pa_nil) (pa_cons (pe_lst (pa_cons pe_str (pa_cons pe_str pa_nil))) pa_nil))))))))) pa_nil))))
    (pss_one (ps_for PassesOwn.never rfl (pi_list (pe_lst (pa_cons (pv 6) (pa_cons (pe_call G_l_bent_text (hr.mono (by decide)) rfl C_l_bent_text.m C_l_bent_text.k C_l_bent_text.b .nil pass0 (pa_cons (pv 1) (pa_cons (pv 6) (pa_cons pe_str pa_nil)))) (pa_cons (pv 7) pa_nil))))) (pg_name (i := 8) sc_law.nd rfl (Or.inl rfl))
      (pss_one (ps_if (PW.pt (pw_or (pt_cmpR op_ne (pe_callB (call_repr hgd hu65) (by rfl) z_repr (by decide +kernel) (pa_cons (pe_call G_l_told (hr.mono (by decide)) rfl C_l_told.m C_l_told.k C_l_told.b .nil pass0 (pa_cons (pv 8) pa_nil)) pa_nil)) (pe_callB (call_repr hgd hu65) (by rfl) z_repr (by decide +kernel) (pa_cons (pe_call G_l_due (hr.mono (by decide)) rfl C_l_due.m C_l_due.k C_l_due.b .nil pass0 (pa_cons (pv 8) pa_nil)) pa_nil)) (nomark _)) (pw_or1 (pt_cmpR (op_neD hu64) (pe_call G_l_told (hr.mono (by decide)) rfl C_l_told.m C_l_told.k C_l_told.b .nil pass0 (pa_cons (pv 8) pa_nil)) (pe_call G_l_due (hr.mono (by decide)) rfl C_l_due.m C_l_due.k C_l_due.b .nil pass0 (pa_cons (pv 8) pa_nil)) (nomark _))))) (pss_one (ps_ret pe_bl)) pss_nil)))))))))))
  (pss_one (ps_ret pe_bl)))), read_of h fun ds os QA EA hf => ?_⟩
    obtain ⟨ns, rfl, rfl, hl, q⟩ := hf
    try dsimp only [cxOf, Cx.nox, Cx.wish]
    show W K _ _ _ ⟨[some (.d (.lst (ns.map D.int))), none, none, none, none, none, none, none, none, none], []⟩
    refine w_seq (w_asgN ?_)
    repeat (walk_at "b")
    refine ⟨ns, rfl, hl, ?_⟩
    dsimp only [List.set_cons_zero, List.set_cons_succ, List.nil_append, List.length_nil]
    refine w_seq (w_for ?_)
    refine iw_rng1 ?_
    repeat (walk_at "b")
    refine cw_min2 ?_
    repeat (walk_at "b")
    rw [List.length_map]
    refine ⟨by split <;> omega, by split <;> omega, ?_⟩
    have h8 : (4 + if (ns.length : Int) < 4 then (ns.length : Int) else 4).toNat ≤ 8 := by split <;> omega
    generalize (4 + if (ns.length : Int) < 4 then (ns.length : Int) else 4).toNat = turns at h8
    refine ⟨fun i S' => ∃ (o2 o3 o4 o5 o6 o7 o8 o9 : Option Sv) (os : Os), S' = ⟨[some (.d (.lst (ns.map D.int))), some (.o 0), o2, o3, o4, o5, o6, o7, o8, o9], os⟩ ∧ Pn 0 ns (300 * i) [.md (pen ns 0 0)] os, ⟨_, _, _, _, _, _, _, _, _, rfl, 0, 0, rfl, (by show 0 < 1; decide), (by omega), by decide⟩, ?_, ?_⟩
    · rintro i d S' hd ⟨o2, o3, o4, o5, o6, o7, o8, o9, os, rfl, ho⟩
      obtain ⟨hi, rfl⟩ := rngD_get hd
      refine gw_name ?_
      dsimp only [List.set_cons_zero, List.set_cons_succ]
      -- long
      refine w_seq (w_asg ?_)
      repeat (walk_at "b")
      refine ⟨_, _, _, _, _, rfl, ho, by omega, by omega, fun e os1 e0 e1 ho1 => ?_⟩
      obtain ⟨x, hx, hm⟩ := at_mem (xs := [D.int 3, .int 18, .int 49, .int 101]) e0 e1
      refine bw_ixL hx ?_
      obtain ⟨sp, rfl, sp0, sp1⟩ : ∃ sp : Int, x = .int sp ∧ 0 < sp ∧ sp ≤ 101 := by
        simp only [List.mem_cons, List.not_mem_nil, or_false] at hm
        rcases hm with rfl | rfl | rfl | rfl
        · exact ⟨_, rfl, by decide, by decide⟩
        · exact ⟨_, rfl, by decide, by decide⟩
        · exact ⟨_, rfl, by decide, by decide⟩
        · exact ⟨_, rfl, by decide, by decide⟩
      repeat (walk_at "b")
      refine ⟨_, _, _, _, _, rfl, ho1, by omega, by omega, fun long os2 l0 l1 ho2 => ?_⟩
      dsimp only [List.set_cons_zero, List.set_cons_succ]
      -- row
      refine w_seq (w_asg (ew_cb (aw_cons ?_)))
      refine ew_lc (wg_name (by decide)) mg_name ?_
      refine iw_rng1 ?_
      repeat (walk_at "b")
      refine ⟨by omega, by omega, fun n acc os3 => ∃ bs : List Int, acc = bs.map D.int ∧ bs.length = n ∧ (∀ b ∈ bs, 0 ≤ b ∧ b < 256) ∧ Pn 0 ns (300 * i + 2 + 2 * n) [.md (pen ns 0 0)] os3, ⟨[], rfl, rfl, fun b hb => (nomatch hb), ho2.mono (by omega)⟩, ?_, ?_⟩
      · rintro n d acc os3 hd ⟨bs, rfl, hbn, hb, ho3⟩
        obtain ⟨hn, rfl⟩ := rngD_get hd
        refine gw_name ?_
        refine tw_yes (br_T ?_)
        show EW K X0 _ ⟨[some (.d (.lst (ns.map D.int))), some (.o 0), some (.d (.int (0 + (i : Int) * 1))), some (.d (.int long)), o4, o5, o6, o7, o8, some (.d (.int (0 + (n : Int) * 1)))], _⟩ _
        repeat (walk_at "b")
        refine ⟨_, _, _, _, rfl, ho3.push _, by omega, fun b os4 b0 b1 ho4 => ?_⟩
        obtain ⟨os5, rfl, ho5⟩ := ho4.pop (by show 0 < 1; decide)
        refine ⟨_, _, rfl, rfl, by rw [List.length_map, sizeLine_eq]; omega, bs ++ [b], by rw [List.map_append]; rfl, by rw [List.length_append, hbn]; rfl, fun c hc => ?_, ho5.mono (by omega)⟩
        rcases List.mem_append.mp hc with z | z
        · exact hb c z
        · rw [List.mem_singleton.mp z]
          exact ⟨b0, b1⟩
      · rintro acc os3 ⟨row, rfl, hrn, hb, ho3⟩
        rw [rngD_len] at hrn ho3
        have hrl : row.length ≤ 101 := by omega
        repeat (walk_at "b")
        refine cw_tupL ?_
        dsimp only [List.set_cons_zero, List.set_cons_succ]
        -- text
        refine w_seq (w_asg ?_)
        repeat (walk_at "b")
        refine ⟨row, rfl, hb, by omega, ?_⟩
        dsimp only [List.set_cons_zero, List.set_cons_succ]
        have hlen : (hexC 0 row).length ≤ 303 := by
          have := hexC_len (row := row) (k := 0)
          omega
        have gr := good_tup (ns := row) (fun n hn => by have := hb n hn; omega) (by omega)
        -- shown, and read back
        repeat (walk_at "b")
        refine ⟨row, rfl, hb, by omega, ?_⟩
        repeat (walk_at "b")
        refine bw_neS ⟨_, rfl, ?_⟩
        refine br_iteN (fun h => absurd rfl h) (fun _ => ?_)
        repeat (walk_at "b")
        refine ans_due (.inl ⟨_, rfl, by omega⟩) fun d p ha g => ?_
        have hd : d = .tup (row.map D.int) := by
          rcases ha with ⟨cs, r1, r2⟩ | ⟨r1, r2⟩
          · rw [r2, ← tx_inj (D.str.inj r1), due_hex hb]
          · exact absurd rfl (r1 _)
        subst hd
        have hp : p = .tuple (row.map PyData.int) := by
          have z := g.e.symm.trans gr.e
          injection z
        subst hp
        repeat (walk_at "b")
        refine cw_reprG g ?_
        repeat (walk_at "b")
        refine cw_reprG g ?_
        refine bw_neS ⟨_, rfl, ?_⟩
        refine br_iteN (fun h => absurd rfl h) (fun _ => ?_)
        repeat (walk_at "b")
        -- bent
        refine ⟨_, _, _, _, _, _, rfl, ho3, by rw [tx_len]; omega, ⟨by decide, by decide⟩, by omega, fun bent os4 hbl ho4 => ?_⟩
        rw [tx_len] at hbl
        try dsimp only [List.set_cons_zero, List.set_cons_succ]
        -- odd
        refine w_seq (w_asg ?_)
        repeat (walk_at "b")
        refine ⟨_, _, _, _, _, rfl, ho4, ⟨by show 0 < 8; decide, by show 8 ≤ 1000; decide⟩, by omega, fun odd os5 hodd ho5 => ?_⟩
        have ao : Askd odd := by
          simp only [List.mem_cons, List.not_mem_nil, or_false] at hodd
          rcases hodd with rfl | rfl | rfl | rfl | rfl | rfl | rfl | rfl
          · exact .inr ⟨"NoneType", rfl, by decide +kernel⟩
          · exact .inr ⟨"int", rfl, by decide +kernel⟩
          · exact .inr ⟨"bool", rfl, by decide +kernel⟩
          · exact .inr ⟨"tuple", rfl, by decide +kernel⟩
          · exact .inr ⟨"list", rfl, by decide +kernel⟩
          · exact .inr ⟨"dict", rfl, by decide +kernel⟩
          · exact .inr ⟨"tuple", rfl, by decide +kernel⟩
          · exact .inr ⟨"list", rfl, by decide +kernel⟩
        dsimp only [List.set_cons_zero, List.set_cons_succ]
        -- for thing in ..
        refine w_for ?_
        refine iw_list ?_
        repeat (walk_at "b")
        refine ⟨_, _, _, _, _, _, rfl, ho5, by omega, ⟨by decide, by decide⟩, by omega, fun bent2 os6 hbl2 ho6 => ?_⟩
        repeat (walk_at "b")
        have asks : ∀ d ∈ [D.str bent, D.str bent2, odd], Askd d := by
          intro d hd
          simp only [List.mem_cons, List.not_mem_nil, or_false] at hd
          rcases hd with rfl | rfl | rfl
          · exact ask_str (by omega)
          · exact ask_str (by omega)
          · exact ao
        refine ⟨fun n S' => ∃ o8' : Option Sv, S' = ⟨[some (.d (.lst (ns.map D.int))), some (.o 0), some (.d (.int (0 + (i : Int) * 1))), some (.d (.int long)), some (.d (.tup (row.map D.int))), some (.d (.str (tx (hexC 0 row)))), some (.d (.str bent)), some (.d odd), o8', o9], os6⟩, ⟨_, rfl⟩, ?_, ?_⟩
        · rintro n thing S' hth ⟨o8', rfl⟩
          have ask := asks thing (List.mem_of_getElem? hth)
          refine gw_name ?_
          dsimp only [List.set_cons_zero, List.set_cons_succ]
          repeat (walk_at "b")
          refine ans_due ask fun d p ha g => ?_
          repeat (walk_at "b")
          refine cw_reprG g ?_
          repeat (walk_at "b")
          refine ans_due ask fun e p2 ha2 g2 => ?_
          have ed := ans_one ha ha2
          subst ed
          have ep : p = p2 := by
            have z := g.e.symm.trans g2.e
            injection z
          subst ep
          repeat (walk_at "b")
          refine cw_reprG g ?_
          refine bw_neS ⟨_, rfl, ?_⟩
          refine br_iteN (fun h => absurd rfl h) (fun _ => ?_)
          repeat (walk_at "b")
          refine ans_due ask fun e p2 ha2 g2 => ?_
          have ed := ans_one ha ha2
          subst ed
          repeat (walk_at "b")
          refine ans_due ask fun e p3 ha3 g3 => ?_
          have ed := ans_one ha ha3
          subst ed
          refine bw_neG g ⟨_, rfl, ?_⟩
          repeat (walk_at "b")
          exact ⟨_, rfl⟩
        · rintro S' ⟨o8', rfl⟩
          exact ⟨_, _, _, _, _, _, _, _, _, rfl, ho6.mono (by omega)⟩
    · rintro S' ⟨o2, o3, o4, o5, o6, o7, o8, o9, os, rfl, ho⟩
      repeat (walk_at "b")
      exact q _
end

theorem exm_own {K : PySem.W.Frag} {C : Addr} (h1 : PySem.W.subIn K (.ref C) (.type "BaseException") = some true) (h2 : PySem.W.isClsIn K C = true) (h3 : PySem.W.typeIn K (.ref C) = some (.type "type")) (h4 : PySem.W.subIn K (.ref C) (.ref C) = some true) : PySem.W.exmOne K (.ref C) (.ref C) = some true := by
  have c : (PySem.W.clsIn K C).isSome = true := h2
  unfold PySem.W.exmOne PySem.W.kitCls
  simp [h1, h3, h4, c]
theorem promise_law {K : PySem.W.Frag} {H : Hp} {a : Addr} {ns : List Int} (hl : ns.length ≤ 63) (h : SqL K H a (ns.map V.int)) : spD K fLaw [.ref a] H (fun v _ => v = .bl true) fun _ _ _ => False := by
  refine ⟨[], [], [.d (.lst (ns.map D.int))], fun d _ => d = .bl true, fun _ _ _ => False, ⟨List.nodup_nil, rfl, fun k a ob h _ => by cases h⟩, .cons (Dx.lst ?_ (DxA.ints ns)) .nil, ⟨ns, rfl, rfl, hl, fun _ => rfl⟩, fun v H' d os' g R r e => ?_, fun _ _ _ _ _ _ _ _ _ _ _ z => z.elim⟩
  · rcases h with z | z
    · exact .inl ⟨fun q => (nomatch q), z⟩
    · exact .inr z
  · subst e
    cases r
    rfl

theorem all_mk {l : PySem.W.OpenLaw} {w : World} {K : PySem.W.Frag} {h : Heap} {mg : Str → Option Value} {fa C : Addr} (X : K.In h) (G : h.Ns mainGlobals mg) (hfa : mg "law" = some (.ref fa))
    {nm q : Str} {N : Addr} {bs bm : List Value} {sn : List Str} {sub : List Value} {ab : Bool} {col : Option Bool} {dd : Option Addr} {m0 m1 m2 m3 m5 : Option Value} {u1 u2 : Value}
    {od1 an1 : Option Addr} {sl1 : Array (Option Value)} {oc1 kV1 dc1 pm1 cd1 ct1 : Value} {f1 : Addr}
    {od2 an2 : Option Addr} {sl2 : Array (Option Value)} {oc2 kV2 dc2 pm2 cd2 ct2 : Value} {f2 : Addr}
    {od3 an3 : Option Addr} {sl3 : Array (Option Value)} {oc3 kV3 dc3 pm3 cd3 ct3 : Value} {f3 : Addr}
    {od4 an4 : Option Addr} {sl4 : Array (Option Value)} {oc4 kV4 dc4 pm4 cd4 ct4 : Value} {f4 : Addr}
    {od5 an5 : Option Addr} {sl5 : Array (Option Value)} {oc5 kV5 dc5 pm5 cd5 ct5 : Value} {f5 : Addr}
    {od6 an6 : Option Addr} {sl6 : Array (Option Value)} {oc6 kV6 dc6 pm6 cd6 ct6 : Value} {f6 : Addr}
    {od7 an7 : Option Addr} {sl7 : Array (Option Value)} {oc7 kV7 dc7 pm7 cd7 ct7 : Value} {f7 : Addr}
    {od8 an8 : Option Addr} {sl8 : Array (Option Value)} {oc8 kV8 dc8 pm8 cd8 ct8 : Value} {f8 : Addr}
    {od9 an9 : Option Addr} {sl9 : Array (Option Value)} {oc9 kV9 dc9 pm9 cd9 ct9 : Value} {f9 : Addr}
    {od10 an10 : Option Addr} {sl10 : Array (Option Value)} {oc10 kV10 dc10 pm10 cd10 ct10 : Value} {f10 : Addr}
    {od11 an11 : Option Addr} {sl11 : Array (Option Value)} {oc11 kV11 dc11 pm11 cd11 ct11 : Value} {f11 : Addr}
    {od12 an12 : Option Addr} {sl12 : Array (Option Value)} {oc12 kV12 dc12 pm12 cd12 ct12 : Value} {f12 : Addr}
    {od13 an13 : Option Addr} {sl13 : Array (Option Value)} {oc13 kV13 dc13 pm13 cd13 ct13 : Value} {f13 : Addr}
    {od14 an14 : Option Addr} {sl14 : Array (Option Value)} {oc14 kV14 dc14 pm14 cd14 ct14 : Value} {f14 : Addr}
    {od15 an15 : Option Addr} {sl15 : Array (Option Value)} {oc15 kV15 dc15 pm15 cd15 ct15 : Value} {f15 : Addr}
    (a1 : PySem.W.nsIn K mainGlobals "copied" = some (some (.ref f1)))
    (l1 : K.lookup f1 = some ⟨oc1, od1, .func (PySem.W.fnOf "copied" "copied" (defArgs s_copied) (defBody s_copied) (defScope s_copied) .none kV1 dc1 pm1 an1 cd1 ct1), sl1⟩) (c1 : PySem.W.codeIn K cd1 "copied" = true) (k1 : PySem.W.keepIn K (.ref f1) = true)
    (a2 : PySem.W.findIn K (.ref C) "__init__" = some (some (.ref f2))) (t2 : PySem.W.typeIn K (.ref f2) = some (.type "function"))
    (l2 : K.lookup f2 = some ⟨oc2, od2, .func (PySem.W.fnOf "__init__" "NoHex.__init__" (defArgs s_exInit) (defBody s_exInit) (defScope s_exInit) .none kV2 dc2 pm2 an2 cd2 ct2), sl2⟩) (c2 : PySem.W.codeIn K cd2 "NoHex.__init__" = true) (k2 : PySem.W.keepIn K (.ref f2) = true)
    (a3 : PySem.W.nsIn K mainGlobals "show_hex" = some (some (.ref f3)))
    (l3 : K.lookup f3 = some ⟨oc3, od3, .func (PySem.W.fnOf "show_hex" "show_hex" (defArgs s_show_hex) (defBody s_show_hex) (defScope s_show_hex) .none kV3 dc3 pm3 an3 cd3 ct3), sl3⟩) (c3 : PySem.W.codeIn K cd3 "show_hex" = true) (k3 : PySem.W.keepIn K (.ref f3) = true)
    (a4 : PySem.W.nsIn K mainGlobals "read_hex" = some (some (.ref f4)))
    (l4 : K.lookup f4 = some ⟨oc4, od4, .func (PySem.W.fnOf "read_hex" "read_hex" (defArgs s_read_hex) (defBody s_read_hex) (defScope s_read_hex) .none kV4 dc4 pm4 an4 cd4 ct4), sl4⟩) (c4 : PySem.W.codeIn K cd4 "read_hex" = true) (k4 : PySem.W.keepIn K (.ref f4) = true)
    (a5 : PySem.W.nsIn K mainGlobals "may_stand" = some (some (.ref f5)))
    (l5 : K.lookup f5 = some ⟨oc5, od5, .func (PySem.W.fnOf "may_stand" "may_stand" (defArgs s_may_stand) (defBody s_may_stand) (defScope s_may_stand) .none kV5 dc5 pm5 an5 cd5 ct5), sl5⟩) (c5 : PySem.W.codeIn K cd5 "may_stand" = true) (k5 : PySem.W.keepIn K (.ref f5) = true)
    (a6 : PySem.W.nsIn K mainGlobals "_law_feed" = some (some (.ref f6)))
    (l6 : K.lookup f6 = some ⟨oc6, od6, .func (PySem.W.fnOf "_law_feed" "_law_feed" (defArgs s_l_feed) (defBody s_l_feed) (defScope s_l_feed) .none kV6 dc6 pm6 an6 cd6 ct6), sl6⟩) (c6 : PySem.W.codeIn K cd6 "_law_feed" = true) (k6 : PySem.W.keepIn K (.ref f6) = true)
    (a7 : PySem.W.nsIn K mainGlobals "_law_draw" = some (some (.ref f7)))
    (l7 : K.lookup f7 = some ⟨oc7, od7, .func (PySem.W.fnOf "_law_draw" "_law_draw" (defArgs s_l_draw) (defBody s_l_draw) (defScope s_l_draw) .none kV7 dc7 pm7 an7 cd7 ct7), sl7⟩) (c7 : PySem.W.codeIn K cd7 "_law_draw" = true) (k7 : PySem.W.keepIn K (.ref f7) = true)
    (a8 : PySem.W.nsIn K mainGlobals "_law_pick" = some (some (.ref f8)))
    (l8 : K.lookup f8 = some ⟨oc8, od8, .func (PySem.W.fnOf "_law_pick" "_law_pick" (defArgs s_l_pick) (defBody s_l_pick) (defScope s_l_pick) .none kV8 dc8 pm8 an8 cd8 ct8), sl8⟩) (c8 : PySem.W.codeIn K cd8 "_law_pick" = true) (k8 : PySem.W.keepIn K (.ref f8) = true)
    (a9 : PySem.W.nsIn K mainGlobals "_law_signs" = some (some (.ref f9)))
    (l9 : K.lookup f9 = some ⟨oc9, od9, .func (PySem.W.fnOf "_law_signs" "_law_signs" (defArgs s_l_signs) (defBody s_l_signs) (defScope s_l_signs) .none kV9 dc9 pm9 an9 cd9 ct9), sl9⟩) (c9 : PySem.W.codeIn K cd9 "_law_signs" = true) (k9 : PySem.W.keepIn K (.ref f9) = true)
    (a10 : PySem.W.nsIn K mainGlobals "_law_bent_text" = some (some (.ref f10)))
    (l10 : K.lookup f10 = some ⟨oc10, od10, .func (PySem.W.fnOf "_law_bent_text" "_law_bent_text" (defArgs s_l_bent_text) (defBody s_l_bent_text) (defScope s_l_bent_text) .none kV10 dc10 pm10 an10 cd10 ct10), sl10⟩) (c10 : PySem.W.codeIn K cd10 "_law_bent_text" = true) (k10 : PySem.W.keepIn K (.ref f10) = true)
    (a11 : PySem.W.nsIn K mainGlobals "_law_byte" = some (some (.ref f11)))
    (l11 : K.lookup f11 = some ⟨oc11, od11, .func (PySem.W.fnOf "_law_byte" "_law_byte" (defArgs s_l_byte) (defBody s_l_byte) (defScope s_l_byte) .none kV11 dc11 pm11 an11 cd11 ct11), sl11⟩) (c11 : PySem.W.codeIn K cd11 "_law_byte" = true) (k11 : PySem.W.keepIn K (.ref f11) = true)
    (a12 : PySem.W.nsIn K mainGlobals "_law_hex" = some (some (.ref f12)))
    (l12 : K.lookup f12 = some ⟨oc12, od12, .func (PySem.W.fnOf "_law_hex" "_law_hex" (defArgs s_l_hex) (defBody s_l_hex) (defScope s_l_hex) .none kV12 dc12 pm12 an12 cd12 ct12), sl12⟩) (c12 : PySem.W.codeIn K cd12 "_law_hex" = true) (k12 : PySem.W.keepIn K (.ref f12) = true)
    (a13 : PySem.W.nsIn K mainGlobals "_law_due" = some (some (.ref f13)))
    (l13 : K.lookup f13 = some ⟨oc13, od13, .func (PySem.W.fnOf "_law_due" "_law_due" (defArgs s_l_due) (defBody s_l_due) (defScope s_l_due) .none kV13 dc13 pm13 an13 cd13 ct13), sl13⟩) (c13 : PySem.W.codeIn K cd13 "_law_due" = true) (k13 : PySem.W.keepIn K (.ref f13) = true)
    (a14 : PySem.W.nsIn K mainGlobals "_law_told" = some (some (.ref f14)))
    (l14 : K.lookup f14 = some ⟨oc14, od14, .func (PySem.W.fnOf "_law_told" "_law_told" (defArgs s_l_told) (defBody s_l_told) (defScope s_l_told) .none kV14 dc14 pm14 an14 cd14 ct14), sl14⟩) (c14 : PySem.W.codeIn K cd14 "_law_told" = true) (k14 : PySem.W.keepIn K (.ref f14) = true)
    (a15 : PySem.W.nsIn K mainGlobals "law" = some (some (.ref f15)))
    (l15 : K.lookup f15 = some ⟨oc15, od15, .func (PySem.W.fnOf "law" "law" (defArgs s_law) (defBody s_law) (defScope s_law) .none kV15 dc15 pm15 an15 cd15 ct15), sl15⟩) (c15 : PySem.W.codeIn K cd15 "law" = true) (k15 : PySem.W.keepIn K (.ref f15) = true)
    (aC : PySem.W.nsIn K mainGlobals "NoHex" = some (some (.ref C)))
    (xL : K.lookup C = some (excClassObj nm q C N bs bm true sn sub ab col dd m0 m1 m2 m3 m5 "ValueError.__new__")) (rv : PySem.HandSPX.refsVE bm = true)
    (sa : PySem.W.findIn K (.ref C) "__setattr__" = some (some (.builtin "object.__setattr__"))) (ga : PySem.W.findIn K (.ref C) "__getattribute__" = some (some (.builtin "BaseException.__getattribute__"))) (gg : PySem.W.findIn K (.ref C) "__getattr__" = some none) (nb : PySem.W.findIn K (.ref C) "at" = some none)
    (kC : PySem.W.keepIn K (.ref C) = true) (eC : PySem.W.subIn K (.ref C) (.type "BaseException") = some true) (tC : PySem.W.typeIn K (.ref C) = some (.type "type")) (hC : PySem.W.hasDictIn K C = true) (iC : PySem.W.isClsIn K C = true) (sC : PySem.W.subIn K (.ref C) (.ref C) = some true)
    (cC : PySem.W.findIn K (.ref C) "__class__" = some (some (.builtin "object.__class__"))) (gC : PySem.W.specialIn K (.builtin "object.__class__") "__get__" = some (some (.builtin "getset_descriptor.__get__"))) (kT : PySem.W.takesIn K (.builtin "object.__class__") = some true) (mC : PySem.W.mroIn K C (.type "object") = some true)
    (vE : PySem.W.kitOne K (.ref C) (.type "ValueError") = some true) (vV : PySem.W.findCls K (.type "ValueError") (.type "type") "__init__" = some (.val (.builtin "ValueError.__init__")))
    (g1 : PySem.W.nsIn K mainGlobals "SIGNS" = some (some u1)) (r1 : RelV (.str sigS) u1) (g2 : PySem.W.nsIn K mainGlobals "BYTES_A_LINE" = some (some u2)) (r2 : RelV (.int 16) u2)
    (z_len : PySem.W.nsIn K mainGlobals "len" = some none) (z_abs : PySem.W.nsIn K mainGlobals "abs" = some none) (z_range : PySem.W.nsIn K mainGlobals "range" = some none) (z_int : PySem.W.nsIn K mainGlobals "int" = some none) (z_isinstance : PySem.W.nsIn K mainGlobals "isinstance" = some none) (z_str : PySem.W.nsIn K mainGlobals "str" = some none) (z_tuple : PySem.W.nsIn K mainGlobals "tuple" = some none) (z_bool : PySem.W.nsIn K mainGlobals "bool" = some none) (z_min : PySem.W.nsIn K mainGlobals "min" = some none) (z_repr : PySem.W.nsIn K mainGlobals "repr" = some none) (z_ValueError : PySem.W.nsIn K mainGlobals "ValueError" = some none) :
    ∃ fd : FuncData, (∀ (s : Shared) (v : Value), BindsTo s fd ⟨[v], []⟩ [("_law_script", v)]) ∧ ∀ base : Heap, K.In base → base.Ns mainGlobals mg → FnG l.prog w K mg base 6 fa fd ["_law_script"] (spD K fLaw) := by
  have e := hfa.symm.trans (PySem.W.mg_of X G a15)
  cases e
  have y_len := PySem.W.mg_none_of X G z_len
  have y_abs := PySem.W.mg_none_of X G z_abs
  have y_range := PySem.W.mg_none_of X G z_range
  have y_int := PySem.W.mg_none_of X G z_int
  have y_isinstance := PySem.W.mg_none_of X G z_isinstance
  have y_str := PySem.W.mg_none_of X G z_str
  have y_tuple := PySem.W.mg_none_of X G z_tuple
  have y_bool := PySem.W.mg_none_of X G z_bool
  have y_min := PySem.W.mg_none_of X G z_min
  have y_repr := PySem.W.mg_none_of X G z_repr
  have y_ValueError := PySem.W.mg_none_of X G z_ValueError
  have T : OexC K C := { cls := ⟨nm, q, N, bs, bm, sn, sub, ab, col, dd, m0, m1, m2, m3, m5, xL, rv⟩, sa := sa, exC := eC, tyC := tC, kC := kC }
  have KC : Kcl K C := { T := ⟨ga, gg, eC, hC⟩, E := ⟨ga, gg, eC, hC, cC, gC, kT, mC⟩, cl := iC, at_ := nb, xm := exm_own eC iC tC sC, ve := vE }
  have F1 := fun_mk (st := s_copied) l1 c1 k1
  have b1 := F1.binds (ps := ["thing"]) fun _ _ _ _ _ _ us hl => match us, hl with | [_], _ => rfl
  have C1 : Cal K mg "copied" f1 _ ["thing"] := ⟨PySem.W.mg_of X G a1, k1, b1⟩
  have F2 := fun_mk (st := s_exInit) l2 c2 k2
  have b2 := F2.binds (ps := ["self", "at"]) fun _ _ _ _ _ _ us hl => match us, hl with | [_, _], _ => rfl
  have F3 := fun_mk (st := s_show_hex) l3 c3 k3
  have b3 := F3.binds (ps := ["row"]) fun _ _ _ _ _ _ us hl => match us, hl with | [_], _ => rfl
  have C3 : Cal K mg "show_hex" f3 _ ["row"] := ⟨PySem.W.mg_of X G a3, k3, b3⟩
  have F4 := fun_mk (st := s_read_hex) l4 c4 k4
  have b4 := F4.binds (ps := ["text"]) fun _ _ _ _ _ _ us hl => match us, hl with | [_], _ => rfl
  have C4 : Cal K mg "read_hex" f4 _ ["text"] := ⟨PySem.W.mg_of X G a4, k4, b4⟩
  have F5 := fun_mk (st := s_may_stand) l5 c5 k5
  have b5 := F5.binds (ps := ["sign", "at"]) fun _ _ _ _ _ _ us hl => match us, hl with | [_, _], _ => rfl
  have C5 : Cal K mg "may_stand" f5 _ ["sign", "at"] := ⟨PySem.W.mg_of X G a5, k5, b5⟩
  have F6 := fun_mk (st := s_l_feed) l6 c6 k6
  have b6 := F6.binds (ps := ["_law_script"]) fun _ _ _ _ _ _ us hl => match us, hl with | [_], _ => rfl
  have C6 : Cal K mg "_law_feed" f6 _ ["_law_script"] := ⟨PySem.W.mg_of X G a6, k6, b6⟩
  have F7 := fun_mk (st := s_l_draw) l7 c7 k7
  have b7 := F7.binds (ps := ["_law_pen", "_law_span"]) fun _ _ _ _ _ _ us hl => match us, hl with | [_, _], _ => rfl
  have C7 : Cal K mg "_law_draw" f7 _ ["_law_pen", "_law_span"] := ⟨PySem.W.mg_of X G a7, k7, b7⟩
  have F8 := fun_mk (st := s_l_pick) l8 c8 k8
  have b8 := F8.binds (ps := ["_law_pen", "_law_some"]) fun _ _ _ _ _ _ us hl => match us, hl with | [_, _], _ => rfl
  have C8 : Cal K mg "_law_pick" f8 _ ["_law_pen", "_law_some"] := ⟨PySem.W.mg_of X G a8, k8, b8⟩
  have F9 := fun_mk (st := s_l_signs) l9 c9 k9
  have b9 := F9.binds (ps := []) fun _ _ _ _ _ _ us hl => match us, hl with | [], _ => rfl
  have C9 : Cal K mg "_law_signs" f9 _ [] := ⟨PySem.W.mg_of X G a9, k9, b9⟩
  have F10 := fun_mk (st := s_l_bent_text) l10 c10 k10
  have b10 := F10.binds (ps := ["_law_pen", "_law_text", "_law_near"]) fun _ _ _ _ _ _ us hl => match us, hl with | [_, _, _], _ => rfl
  have C10 : Cal K mg "_law_bent_text" f10 _ ["_law_pen", "_law_text", "_law_near"] := ⟨PySem.W.mg_of X G a10, k10, b10⟩
  have F11 := fun_mk (st := s_l_byte) l11 c11 k11
  have b11 := F11.binds (ps := ["_law_pen"]) fun _ _ _ _ _ _ us hl => match us, hl with | [_], _ => rfl
  have C11 : Cal K mg "_law_byte" f11 _ ["_law_pen"] := ⟨PySem.W.mg_of X G a11, k11, b11⟩
  have F12 := fun_mk (st := s_l_hex) l12 c12 k12
  have b12 := F12.binds (ps := ["_law_row"]) fun _ _ _ _ _ _ us hl => match us, hl with | [_], _ => rfl
  have C12 : Cal K mg "_law_hex" f12 _ ["_law_row"] := ⟨PySem.W.mg_of X G a12, k12, b12⟩
  have F13 := fun_mk (st := s_l_due) l13 c13 k13
  have b13 := F13.binds (ps := ["_law_thing"]) fun _ _ _ _ _ _ us hl => match us, hl with | [_], _ => rfl
  have C13 : Cal K mg "_law_due" f13 _ ["_law_thing"] := ⟨PySem.W.mg_of X G a13, k13, b13⟩
  have F14 := fun_mk (st := s_l_told) l14 c14 k14
  have b14 := F14.binds (ps := ["_law_thing"]) fun _ _ _ _ _ _ us hl => match us, hl with | [_], _ => rfl
  have C14 : Cal K mg "_law_told" f14 _ ["_law_thing"] := ⟨PySem.W.mg_of X G a14, k14, b14⟩
  have F15 := fun_mk (st := s_law) l15 c15 k15
  have b15 := F15.binds (ps := ["_law_script"]) fun _ _ _ _ _ _ us hl => match us, hl with | [_], _ => rfl
  have XC : Xcl K mg "NoHex" C f2 _ ["self", "at"] := ⟨T, a2, t2, b2, PySem.W.mg_of X G aC⟩
  refine ⟨PySem.W.fnOf "law" "law" (defArgs s_law) (defBody s_law) (defScope s_law) .none kV15 dc15 pm15 an15 cd15 ct15, fun s v => .of_eq rfl, fun base _ _ => ?_⟩
  have h1 : FnOk l.prog w K mg base CX0 1 f1 _ ["thing"] (spD K fCopI) := ok_copiedI F1 y_isinstance y_bool y_int
  have h2 : FnOk l.prog w K mg base CX0 2 f2 _ ["self", "at"] (spI1 C "at" isInt) := ok_exInit F2 T nb y_ValueError vV h1 C1
  have h3 : FnOk l.prog w K mg base CX0 1 f3 _ ["row"] (spD K fShow) := ok_show_hex F3 y_len y_range (PySem.W.mg_of X G g2) r2
  have h5 : FnOk l.prog w K mg base CX0 1 f5 _ ["sign", "at"] (spD K fMay) := ok_may_stand F5 (PySem.W.mg_of X G g1) r1 (PySem.W.mg_of X G g2) r2
  have h4 : FnOk l.prog w K mg base (CX l.prog w) 4 f4 _ ["text"] (spD K (fRead C)) := ok_read_hex F4 y_len y_range y_isinstance y_str y_tuple (PySem.W.mg_of X G g1) r1 h2 XC h5 C5
  have h6 : FnOk l.prog w K mg base CX0 1 f6 _ ["_law_script"] (spN K fFeed) := ok_l_feed F6
  have h7 : FnOk l.prog w K mg base CX0 1 f7 _ ["_law_pen", "_law_span"] (spD K fDraw) := ok_l_draw F7 y_len y_abs y_range
  have h8 : FnOk l.prog w K mg base CX0 2 f8 _ ["_law_pen", "_law_some"] (spD K fPick) := ok_l_pick F8 y_len h7 C7
  have h9 : FnOk l.prog w K mg base CX0 1 f9 _ [] (spD K fSigns) := ok_l_signs F9
  have h10 : FnOk l.prog w K mg base CX0 2 f10 _ ["_law_pen", "_law_text", "_law_near"] (spD K fBent) := ok_l_bent_text F10 y_len h7 C7 h9 C9
  have h11 : FnOk l.prog w K mg base CX0 2 f11 _ ["_law_pen"] (spD K fByte) := ok_l_byte F11 h7 C7
  have h12 : FnOk l.prog w K mg base CX0 1 f12 _ ["_law_row"] (spD K fHex) := ok_l_hex F12 y_len y_int y_range
  have h13 : FnOk l.prog w K mg base CX0 1 f13 _ ["_law_thing"] (spD K fDue) := ok_l_due F13 y_len y_int y_range y_isinstance y_str y_tuple
  have h14 : FnOk l.prog w K mg base CX0 5 f14 _ ["_law_thing"] (spD K fDue) := ok_l_told F14 y_isinstance y_bool y_ValueError (PySem.W.mg_of X G aC) KC h4 C4
  exact ok_law F15 y_len y_min y_range y_repr y_tuple h6 C6 h7 C7 h11 C11 h12 C12 h3 C3 h14 C14 h10 C10 h8 C8 h13 C13
theorem walk {l : PySem.W.OpenLaw} {q : Program} {loose : List Str} {XP : (Str → Option Value) → Heap → Prop} {YP : World → Heap → Prop} {d : DefRec} {K : Params → PySem.W.Frag} (hn : l.most = some 63) (hdf : d.params.defaults = [])
    (hY : ∀ (w : World) (h : Heap), YP w h → (K w.params).In h)
    (F : ∀ (w : World) (mg : Str → Option Value) (fa : Addr) (h : Heap), (K w.params).In h → h.Ns mainGlobals mg → mg d.name = some (.ref fa) →
      ∃ fd : FuncData, (∀ (s : Shared) (u : Value), BindsTo s fd ⟨[u], []⟩ [("_law_script", u)]) ∧ ∀ base : Heap, (K w.params).In base → base.Ns mainGlobals mg → FnG l.prog w (K w.params) mg base 6 fa fd ["_law_script"] (spD (K w.params) fLaw)) :
    PySem.W.WalkO q loose XP YP l.row.toRowW d [] (fun f vs => PySem.call f vs) :=
  walkG (n := 63) (k := 6) (x := "_law_script") (sp := fun w => spD (K w.params) fLaw) hn (by decide) hdf ⟨rfl, by decide, by decide⟩ hY F fun _ _ _ _ hl hs => promise_law hl hs

end Ka
open PySem PySem.W PyProof.Rows
set_option maxRecDepth 100000 in
set_option maxHeartbeats 0 in
theorem PySem.Challenge.cw_byteround_k01_rows_of_bytes_as_texts_holds : PySem.Challenge.rw_byteround_k01_rows_of_bytes_as_texts.Holds := by
  w_on; o_law; k_head; (case hw => w_witness2)
  k_fill
  refine Ka.walk (l := PySem.Challenge.rw_byteround_k01_rows_of_bytes_as_texts) rfl rfl (fun w h Y => PySem.W.kIn_of Y) ?F
  case F =>
    intro w mg fa h KX G hmg
    refine' Ka.all_mk KX G hmg ?a1 ?l1 ?c1 ?k1 ?a2 ?t2 ?l2 ?c2 ?k2 ?a3 ?l3 ?c3 ?k3 ?a4 ?l4 ?c4 ?k4 ?a5 ?l5 ?c5 ?k5 ?a6 ?l6 ?c6 ?k6 ?a7 ?l7 ?c7 ?k7 ?a8 ?l8 ?c8 ?k8 ?a9 ?l9 ?c9 ?k9 ?a10 ?l10 ?c10 ?k10 ?a11 ?l11 ?c11 ?k11 ?a12 ?l12 ?c12 ?k12 ?a13 ?l13 ?c13 ?k13 ?a14 ?l14 ?c14 ?k14 ?a15 ?l15 ?c15 ?k15 ?aC ?xL ?rv ?sa ?ga ?gg ?nb ?kC ?eC ?tC ?hC ?iC ?sC ?cC ?gC ?kT ?mC ?vE ?vV ?g1 ?r1 ?g2 ?r2 ?z_len ?z_abs ?z_range ?z_int ?z_isinstance ?z_str ?z_tuple ?z_bool ?z_min ?z_repr ?z_ValueError
    (case aC => k_is)
    (case xL => k_is)
    (case rv => decide +kernel)
    (case sa => k_is)
    (case ga => k_is)
    (case gg => k_is)
    (case nb => k_is)
    (case kC => k_is)
    (case eC => k_is)
    (case tC => k_is)
    (case hC => k_is)
    (case iC => k_is)
    (case sC => first | rfl | k_is)
    (case cC => k_is)
    (case gC => first | k_is | rfl | kernel_rfl)
    (case kT => first | k_is | rfl | kernel_rfl)
    (case mC => k_is)
    (case vE => first | k_is | rfl | kernel_rfl)
    (case vV => first | k_is | rfl | kernel_rfl)
    (case g1 => k_is)
    (case r1 => exact ⟨_, rfl⟩)
    (case g2 => k_is)
    (case r2 => exact ⟨_, rfl⟩)
    (case a1 => k_is)
    (case l1 => k_is)
    (case c1 => k_is)
    (case k1 => k_is)
    (case a2 => k_is)
    (case t2 => k_is)
    (case l2 => k_is)
    (case c2 => k_is)
    (case k2 => k_is)
    (case a3 => k_is)
    (case l3 => k_is)
    (case c3 => k_is)
    (case k3 => k_is)
    (case a4 => k_is)
    (case l4 => k_is)
    (case c4 => k_is)
    (case k4 => k_is)
    (case a5 => k_is)
    (case l5 => k_is)
    (case c5 => k_is)
    (case k5 => k_is)
    (case a6 => k_is)
    (case l6 => k_is)
    (case c6 => k_is)
    (case k6 => k_is)
    (case a7 => k_is)
    (case l7 => k_is)
    (case c7 => k_is)
    (case k7 => k_is)
    (case a8 => k_is)
    (case l8 => k_is)
    (case c8 => k_is)
    (case k8 => k_is)
    (case a9 => k_is)
    (case l9 => k_is)
    (case c9 => k_is)
    (case k9 => k_is)
    (case a10 => k_is)
    (case l10 => k_is)
    (case c10 => k_is)
    (case k10 => k_is)
    (case a11 => k_is)
    (case l11 => k_is)
    (case c11 => k_is)
    (case k11 => k_is)
    (case a12 => k_is)
    (case l12 => k_is)
    (case c12 => k_is)
    (case k12 => k_is)
    (case a13 => k_is)
    (case l13 => k_is)
    (case c13 => k_is)
    (case k13 => k_is)
    (case a14 => k_is)
    (case l14 => k_is)
    (case c14 => k_is)
    (case k14 => k_is)
    (case a15 => k_is)
    (case l15 => k_is)
    (case c15 => k_is)
    (case k15 => k_is)
    (case z_len => k_is)
    (case z_abs => k_is)
    (case z_range => k_is)
    (case z_int => k_is)
    (case z_isinstance => k_is)
    (case z_str => k_is)
    (case z_tuple => k_is)
    (case z_bool => k_is)
    (case z_min => k_is)
    (case z_repr => k_is)
    (case z_ValueError => k_is)
