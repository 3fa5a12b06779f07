import PyProof.Rows.All
import Wide.All
import OpenK.AllK
import Wide.FinOn
import HandS.ForMost
import HandS.Exc
import HandS.ExcOwn
import HandS.WordsExc
import HandS.Evl
import HandS.Wide
import HandS.IsInst
import HandS.Replace
import HandS.RaiseMore
import HandS.Steps
import KE.KEqSeq
import HandS.ExcInit
import KE.KExcIs
import HandS.ExcValue
import HandS.ExcField
import HandS.ExcIs
import HandS.Style
import PyProof.SliceStr2
import KE.KxField
import HandS.FStr
import HandS.TupAny
import HandS.Ends
import PyProof.ReprRoads
import HandS.Rev
import HandS.More
import HandS.Zip
import KE.GoesMore
import KE.GoesZip
import HandS.NoneIn
import HandS.Text
import HandS.Codes
import PyProof.CallFns
import PyProof.CallStr
import PyProof.EqKinds
import PyProof.NeKinds
import PyProof.Rows.EqBoolInt
import PyProof.Rows.IntBool
import PyProof.Rows.ReprOcc
import PyProof.StrLawsRepr
import HandS.Head0
import HandS.Head1
import HandS.Head2
import HandS.HeadEnd
import HandS.HeadHook1
import HandS.HeadHook2
import HandS.HeadHook3
import PySem.Challenge.RW_byteround_k03_what_is_a_row_or_a_word
set_option Elab.async false
set_option linter.all false
set_option maxRecDepth 100000
set_option maxHeartbeats 4000000
/-! BrA: a def read over plain data and a small store of the things that change. -/
namespace Br
open PySem L2

/-! ### data -/
inductive D where
  | non | bl (b : Bool) | int (i : Int) | str (x : Str) | lst (xs : List D) | tup (xs : List D) | dk (kvs : List (Key × D)) | ob (C : Addr) (fs : List (Str × D)) | xo (C : Addr) (fs : List (Str × D))

/-- all that H has and that isn't at as stays -/
def Go (as : List Addr) (H H' : Hp) : Prop := ∀ a o, H a = some o → a ∉ as → H' a = some o
theorem Go.refl (as : List Addr) (H : Hp) : Go as H H := fun _ _ h _ => h
theorem Go.trans {as : List Addr} {H H1 H2 : Hp} (x : Go as H H1) (y : Go as H1 H2) : Go as H H2 := fun a o h n => y a o (x a o h n) n
theorem Go.new {as : List Addr} {H : Hp} {p : Addr} {o : HO} (h : H p = none) : Go as H (upd H p o) := fun a u e _ => by
  rw [upd_ne (ne_of_none e h)]
  exact e
theorem Go.at {as : List Addr} {H : Hp} {p : Addr} {o : HO} (h : p ∈ as) : Go as H (upd H p o) := fun a u e n => by
  have hne : a ≠ p := fun z => n (z ▸ h)
  rw [upd_ne hne]
  exact e
theorem Go.free {as : List Addr} {H H' : Hp} (g : Go as H H') {a : Addr} (n : a ∉ as) (h : H' a = none) : H a = none := by
  cases e : H a with
  | none => rfl
  | some o =>
    rw [g a o e n] at h
    cases h

/-- written lists, tuples -/
def WrL (K : PySem.W.Frag) (a : Addr) (xs : List V) : Prop :=
  ∃ (o : Obj) (its : Array Value) (n : Nat), K.lookup a = some o ∧ o.cls = .type "list" ∧ o.dict = none ∧ o.data = .seq its n ∧ its.size ≤ sizeLine ∧ Vals xs its.toList
def WrT (K : PySem.W.Frag) (a : Addr) (xs : List V) : Prop :=
  ∃ (o : Obj) (its : Array Value) (n : Nat), K.lookup a = some o ∧ o.cls = .type "tuple" ∧ o.data = .seq its n ∧ its.size ≤ sizeLine ∧ Vals xs its.toList
def QL (K : PySem.W.Frag) (as : List Addr) (H : Hp) (a : Addr) (xs : List V) : Prop := (a ∉ as ∧ Rd H a (.lst xs)) ∨ WrL K a xs
def QT (K : PySem.W.Frag) (as : List Addr) (H : Hp) (a : Addr) (xs : List V) : Prop := (a ∉ as ∧ Rd H a (.tup xs)) ∨ WrT K a xs
theorem QL.sq {K : PySem.W.Frag} {as : List Addr} {H : Hp} {a : Addr} {xs : List V} (h : QL K as H a xs) : SqL K H a xs := by
  rcases h with ⟨_, h⟩ | h
  · exact .inl h
  · exact .inr h
theorem QT.sq {K : PySem.W.Frag} {as : List Addr} {H : Hp} {a : Addr} {xs : List V} (h : QT K as H a xs) : SqT K H a xs := by
  rcases h with ⟨_, h⟩ | h
  · exact .inl h
  · exact .inr h
theorem rd_go {as : List Addr} {H H' : Hp} (g : Go as H H') {a : Addr} {u : HO} (n : a ∉ as) (h : Rd H a u) : Rd H' a u := by
  rcases h with h | ⟨o, h⟩
  · exact .inl (g a _ h n)
  · exact .inr ⟨o, g a _ h n⟩
theorem QL.go {K : PySem.W.Frag} {as : List Addr} {H H' : Hp} (g : Go as H H') {a : Addr} {xs : List V} (h : QL K as H a xs) : QL K as H' a xs := by
  rcases h with ⟨n, h⟩ | h
  · exact .inl ⟨n, rd_go g n h⟩
  · exact .inr h
theorem QT.go {K : PySem.W.Frag} {as : List Addr} {H H' : Hp} (g : Go as H H') {a : Addr} {xs : List V} (h : QT K as H a xs) : QT K as H' a xs := by
  rcases h with ⟨n, h⟩ | h
  · exact .inl ⟨n, rd_go g n h⟩
  · exact .inr h
/-- fewer things that change -/
theorem QL.sub {K : PySem.W.Frag} {as bs : List Addr} {H : Hp} {a : Addr} {xs : List V} (s : ∀ x ∈ bs, x ∈ as) (h : QL K as H a xs) : QL K bs H a xs := by
  rcases h with ⟨n, h⟩ | h
  · exact .inl ⟨fun z => n (s _ z), h⟩
  · exact .inr h
theorem QT.sub {K : PySem.W.Frag} {as bs : List Addr} {H : Hp} {a : Addr} {xs : List V} (s : ∀ x ∈ bs, x ∈ as) (h : QT K as H a xs) : QT K bs H a xs := by
  rcases h with ⟨n, h⟩ | h
  · exact .inl ⟨fun z => n (s _ z), h⟩
  · exact .inr h
theorem rd_some {H : Hp} {a : Addr} {u : HO} (h : Rd H a u) : H a ≠ none := by
  rcases h with h | ⟨o, h⟩ <;> rw [h] <;> intro z <;> cases z
/-- a new thing that changes -/
theorem QL.add {K : PySem.W.Frag} {as : List Addr} {H : Hp} {a p : Addr} {xs : List V} (hp : H p = none) (h : QL K as H a xs) : QL K (as ++ [p]) H a xs := by
  rcases h with ⟨n, h⟩ | h
  · refine .inl ⟨fun z => ?_, h⟩
    rcases List.mem_append.mp z with z | z
    · exact n z
    · rw [List.mem_singleton.mp z] at h
      exact rd_some h hp
  · exact .inr h
theorem QT.add {K : PySem.W.Frag} {as : List Addr} {H : Hp} {a p : Addr} {xs : List V} (hp : H p = none) (h : QT K as H a xs) : QT K (as ++ [p]) H a xs := by
  rcases h with ⟨n, h⟩ | h
  · refine .inl ⟨fun z => ?_, h⟩
    rcases List.mem_append.mp z with z | z
    · exact n z
    · rw [List.mem_singleton.mp z] at h
      exact rd_some h hp
  · exact .inr h

/-- an exception that was caught and kept -/
def Exk (C dd a : Addr) : HO := .ext fun h => ∃ (oe : Obj) (vs : Array Value), h.get? a = some oe ∧ Zc (.ref C) (some dd) oe ∧ oe.data = .fields vs

mutual
inductive Dx (K : PySem.W.Frag) (as : List Addr) (H : Hp) : V → D → Prop
  | non : Dx K as H .non .non
  | bl (b : Bool) : Dx K as H (.bl b) (.bl b)
  | int (i : Int) : Dx K as H (.int i) (.int i)
  | str (x : Str) : Dx K as H (.str x) (.str x)
  | lst {a : Addr} {xs : List V} {ds : List D} : QL K as H a xs → DxA K as H xs ds → Dx K as H (.ref a) (.lst ds)
  | tup {a : Addr} {xs : List V} {ds : List D} : QT K as H a xs → DxA K as H xs ds → Dx K as H (.ref a) (.tup ds)
  | dk {a : Addr} {kvs : List (Key × V)} {kds : List (Key × D)} : a ∉ as → Rd H a (.dK kvs) → DxP K as H kvs kds → Dx K as H (.ref a) (.dk kds)
  | ob {a C dx : Addr} {fs : List (Str × V)} {fds : List (Str × D)} : a ∉ as → dx ∉ as → H a = some (.ins C dx fs) → H dx = some (.own a) → DxF K as H fs fds → Dx K as H (.ref a) (.ob C fds)
  | xo {a C dd : Addr} {fs : List (Str × V)} {fds : List (Str × D)} : a ∉ as → dd ∉ as → H a = some (Exk C dd a) → H dd = some (.xd fs) → DxF K as H fs fds → Dx K as H (.ref a) (.xo C fds)
inductive DxA (K : PySem.W.Frag) (as : List Addr) (H : Hp) : List V → List D → Prop
  | nil : DxA K as H [] []
  | cons {v : V} {vs : List V} {d : D} {ds : List D} : Dx K as H v d → DxA K as H vs ds → DxA K as H (v :: vs) (d :: ds)
inductive DxP (K : PySem.W.Frag) (as : List Addr) (H : Hp) : List (Key × V) → List (Key × D) → Prop
  | nil : DxP K as H [] []
  | cons {k : Key} {v : V} {vs : List (Key × V)} {d : D} {ds : List (Key × D)} : Dx K as H v d → DxP K as H vs ds → DxP K as H ((k, v) :: vs) ((k, d) :: ds)
inductive DxF (K : PySem.W.Frag) (as : List Addr) (H : Hp) : List (Str × V) → List (Str × D) → Prop
  | nil : DxF K as H [] []
  | cons {k : Str} {v : V} {vs : List (Str × V)} {d : D} {ds : List (Str × D)} : Dx K as H v d → DxF K as H vs ds → DxF K as H ((k, v) :: vs) ((k, d) :: ds)
end
section
variable {K : PySem.W.Frag} {as bs : List Addr} {H H' : Hp}
/-- what a reading leans on may be read elsewhere -/
structure Way (K : PySem.W.Frag) (as bs : List Addr) (H H' : Hp) : Prop where
  l : ∀ a xs, QL K as H a xs → QL K bs H' a xs
  t : ∀ a xs, QT K as H a xs → QT K bs H' a xs
  r : ∀ a u, a ∉ as → Rd H a u → a ∉ bs ∧ Rd H' a u
  o : ∀ a u, a ∉ as → H a = some u → a ∉ bs ∧ H' a = some u
mutual
theorem Dx.way (w : Way K as bs H H') : ∀ {v : V} {d : D}, Dx K as H v d → Dx K bs H' v d
  | _, _, .non => .non
  | _, _, .bl b => .bl b
  | _, _, .int i => .int i
  | _, _, .str x => .str x
  | _, _, .lst h r => .lst (w.l _ _ h) (DxA.way w r)
  | _, _, .tup h r => .tup (w.t _ _ h) (DxA.way w r)
  | _, _, .dk n h r => .dk (w.r _ _ n h).1 (w.r _ _ n h).2 (DxP.way w r)
  | _, _, .ob n n2 h h2 r => .ob (w.o _ _ n h).1 (w.o _ _ n2 h2).1 (w.o _ _ n h).2 (w.o _ _ n2 h2).2 (DxF.way w r)
  | _, _, .xo n n2 h h2 r => .xo (w.o _ _ n h).1 (w.o _ _ n2 h2).1 (w.o _ _ n h).2 (w.o _ _ n2 h2).2 (DxF.way w r)
theorem DxA.way (w : Way K as bs H H') : ∀ {v : List V} {d : List D}, DxA K as H v d → DxA K bs H' v d
  | _, _, .nil => .nil
  | _, _, .cons h r => .cons (Dx.way w h) (DxA.way w r)
theorem DxP.way (w : Way K as bs H H') : ∀ {v : List (Key × V)} {d : List (Key × D)}, DxP K as H v d → DxP K bs H' v d
  | _, _, .nil => .nil
  | _, _, .cons h r => .cons (Dx.way w h) (DxP.way w r)
theorem DxF.way (w : Way K as bs H H') : ∀ {v : List (Str × V)} {d : List (Str × D)}, DxF K as H v d → DxF K bs H' v d
  | _, _, .nil => .nil
  | _, _, .cons h r => .cons (Dx.way w h) (DxF.way w r)
end
theorem Way.of_go (g : Go as H H') : Way K as as H H' := ⟨fun _ _ h => h.go g, fun _ _ h => h.go g, fun _ _ n h => ⟨n, rd_go g n h⟩, fun a u n h => ⟨n, g a u h n⟩⟩
theorem Way.of_sub (s : ∀ x ∈ bs, x ∈ as) : Way K as bs H H := ⟨fun _ _ h => h.sub s, fun _ _ h => h.sub s, fun _ _ n h => ⟨fun z => n (s _ z), h⟩, fun _ _ n h => ⟨fun z => n (s _ z), h⟩⟩
theorem Way.of_add {p : Addr} (hp : H p = none) : Way K as (as ++ [p]) H H :=
  ⟨fun _ _ h => h.add hp, fun _ _ h => h.add hp, fun a u n h => ⟨fun z => by
      rcases List.mem_append.mp z with z | z
      · exact n z
      · rw [List.mem_singleton.mp z] at h
        exact rd_some h hp, h⟩,
    fun a u n h => ⟨fun z => by
      rcases List.mem_append.mp z with z | z
      · exact n z
      · rw [List.mem_singleton.mp z, hp] at h
        exact (nomatch h), h⟩⟩
theorem DxA.length : ∀ {v : List V} {d : List D}, DxA K as H v d → v.length = d.length
  | _, _, .nil => rfl
  | _, _, .cons _ r => by rw [List.length_cons, List.length_cons, DxA.length r]
theorem DxA.get : ∀ {v : List V} {d : List D} {i : Nat} {x : D}, DxA K as H v d → d[i]? = some x → ∃ u, v[i]? = some u ∧ Dx K as H u x
  | _, _, _, _, .nil, e => by simp at e
  | _, _, 0, _, .cons h _, e => by simp at e; subst e; exact ⟨_, rfl, h⟩
  | _, _, i + 1, x, .cons _ r, e => by
    obtain ⟨u, h1, h2⟩ := DxA.get (i := i) (x := x) r (by simpa using e)
    exact ⟨u, by simpa using h1, h2⟩
theorem DxA.getV : ∀ {v : List V} {d : List D} {i : Nat} {u : V}, DxA K as H v d → v[i]? = some u → ∃ x, d[i]? = some x ∧ Dx K as H u x
  | _, _, _, _, .nil, e => by simp at e
  | _, _, 0, _, .cons h _, e => by simp at e; subst e; exact ⟨_, rfl, h⟩
  | _, _, i + 1, u, .cons _ r, e => by
    obtain ⟨x, h1, h2⟩ := DxA.getV (i := i) (u := u) r (by simpa using e)
    exact ⟨x, by simpa using h1, h2⟩
theorem DxA.app : ∀ {v w : List V} {d e : List D}, DxA K as H v d → DxA K as H w e → DxA K as H (v ++ w) (d ++ e)
  | _, _, _, _, .nil, s => s
  | _, _, _, _, .cons h r, s => .cons h (DxA.app r s)
theorem DxA.drop : ∀ {v : List V} {d : List D} (n : Nat), DxA K as H v d → DxA K as H (v.drop n) (d.drop n)
  | _, _, 0, h => h
  | _, _, _ + 1, .nil => .nil
  | _, _, n + 1, .cons _ r => DxA.drop n r
theorem DxA.take : ∀ {v : List V} {d : List D} (n : Nat), DxA K as H v d → DxA K as H (v.take n) (d.take n)
  | _, _, 0, _ => .nil
  | _, _, _ + 1, .nil => .nil
  | _, _, n + 1, .cons h r => .cons h (DxA.take n r)
theorem DxA.rev : ∀ {v : List V} {d : List D}, DxA K as H v d → DxA K as H v.reverse d.reverse
  | _, _, .nil => .nil
  | _, _, .cons h r => by
    rw [List.reverse_cons, List.reverse_cons]
    exact DxA.app (DxA.rev r) (.cons h .nil)
theorem DxA.set {u : V} {x : D} (h : Dx K as H u x) : ∀ {v : List V} {d : List D} (i : Nat), DxA K as H v d → DxA K as H (v.set i u) (d.set i x)
  | _, _, _, .nil => .nil
  | _, _, 0, .cons _ r => .cons h r
  | _, _, i + 1, .cons q r => .cons q (DxA.set h i r)
/-- numbers, texts, truths -/
theorem DxA.ints : ∀ (ns : List Int), DxA K as H (ns.map V.int) (ns.map D.int)
  | [] => .nil
  | n :: r => .cons (.int n) (DxA.ints r)
theorem DxA.of_ints : ∀ {v : List V} {ns : List Int}, DxA K as H v (ns.map D.int) → v = ns.map V.int
  | [], [], _ => rfl
  | [], _ :: _, h => nomatch h
  | _ :: _, [], h => nomatch h
  | _ :: _, n :: r, .cons h t => by
    cases h
    rw [DxA.of_ints t]
    rfl
theorem DxA.of_strs : ∀ {v : List V} {ns : List Str}, DxA K as H v (ns.map D.str) → v = ns.map V.str
  | [], [], _ => rfl
  | [], _ :: _, h => nomatch h
  | _ :: _, [], h => nomatch h
  | _ :: _, n :: r, .cons h t => by
    cases h
    rw [DxA.of_strs t]
    rfl
theorem DxA.of_bls : ∀ {v : List V} {ns : List Bool}, DxA K as H v (ns.map D.bl) → v = ns.map V.bl
  | [], [], _ => rfl
  | [], _ :: _, h => nomatch h
  | _ :: _, [], h => nomatch h
  | _ :: _, n :: r, .cons h t => by
    cases h
    rw [DxA.of_bls t]
    rfl
end

/-! ### the store: what changes -/
inductive Ob where
  | ml (xs : List D) | md (kvs : List (Key × D))
def ObR (K : PySem.W.Frag) (as : List Addr) (H : Hp) (a : Addr) : Ob → Prop
  | .ml xs => ∃ vs, H a = some (.lst vs) ∧ DxA K as H vs xs
  | .md kds => ∃ kvs, H a = some (.dK kvs) ∧ DxP K as H kvs kds
theorem ObR.way {K : PySem.W.Frag} {as bs : List Addr} {H H' : Hp} {a : Addr} {o : Ob} (w : Way K as bs H H') (e : ∀ u, H a = some u → H' a = some u) (h : ObR K as H a o) : ObR K bs H' a o := by
  cases o with
  | ml xs =>
    obtain ⟨vs, h1, h2⟩ := h
    exact ⟨vs, e _ h1, h2.way w⟩
  | md kds =>
    obtain ⟨vs, h1, h2⟩ := h
    exact ⟨vs, e _ h1, h2.way w⟩
theorem ObR.some {K : PySem.W.Frag} {as : List Addr} {H : Hp} {a : Addr} {o : Ob} (h : ObR K as H a o) : H a ≠ none := by
  cases o <;> obtain ⟨_, h1, _⟩ := h <;> rw [h1] <;> intro z <;> cases z
/-- a slot's value: data, or the k-th thing of the store -/
inductive Sv where
  | d (x : D) | o (k : Nat)
def SvR (K : PySem.W.Frag) (as : List Addr) (H : Hp) (v : V) : Sv → Prop
  | .d x => Dx K as H v x
  | .o k => ∃ a, as[k]? = some a ∧ v = .ref a
inductive SvA (K : PySem.W.Frag) (as : List Addr) (H : Hp) : List V → List Sv → Prop
  | nil : SvA K as H [] []
  | cons {v : V} {vs : List V} {d : Sv} {ds : List Sv} : SvR K as H v d → SvA K as H vs ds → SvA K as H (v :: vs) (d :: ds)
abbrev Sl := List (Option Sv)
abbrev Os := List Ob
structure Sa where
  s : Sl
  os : Os
/-- the store at as -/
structure Ro (K : PySem.W.Frag) (as : List Addr) (H : Hp) (os : Os) : Prop where
  nd : as.Nodup
  len : as.length = os.length
  own : ∀ (k : Nat) (a : Addr) (ob : Ob), as[k]? = some a → os[k]? = some ob → ObR K as H a ob
structure Re (K : PySem.W.Frag) (as : List Addr) (H : Hp) (σ : St) (S : Sa) : Prop where
  o : Ro K as H S.os
  slen : σ.length = S.s.length
  slot : ∀ (i : Nat) (d : Sv), S.s[i]? = some (some d) → ∃ v, σ[i]? = some (some v) ∧ SvR K as H v d
/-- from as, H to bs, H': what is further is new, what isn't of the store stays -/
structure Stp (as : List Addr) (H : Hp) (bs : List Addr) (H' : Hp) : Prop where
  pre : ∃ nw, bs = as ++ nw ∧ ∀ a ∈ nw, H a = none
  go : Go as H H'
  th : ∀ a, H' a = none → H a = none
section
variable {K : PySem.W.Frag} {as bs cs : List Addr} {H H' H'' : Hp} {σ : St} {S : Sa} {os os' : Os}
theorem Ro.has {a : Addr} (R : Ro K as H os) (ha : a ∈ as) : H a ≠ none := by
  obtain ⟨k, hk, e⟩ := List.mem_iff_getElem.mp ha
  have h1 : as[k]? = some a := by rw [List.getElem?_eq_getElem hk, e]
  have h2 : k < os.length := R.len ▸ hk
  exact (R.own k a os[k] h1 (List.getElem?_eq_getElem h2)).some
theorem Ro.notin {p : Addr} (R : Ro K as H os) (hp : H p = none) : p ∉ as := fun z => R.has z hp
theorem Stp.refl : Stp as H as H := ⟨⟨[], by simp, fun _ h => nomatch h⟩, Go.refl _ _, fun _ h => h⟩
theorem Stp.of_go (g : Go as H H') (R : Ro K as H' os) : Stp as H as H' := ⟨⟨[], by simp, fun _ h => nomatch h⟩, g, fun a h => g.free (R.notin h) h⟩
theorem Stp.sub (s : Stp as H bs H') : ∀ x ∈ as, x ∈ bs := fun x hx => by
  obtain ⟨nw, e, _⟩ := s.pre
  rw [e]
  exact List.mem_append_left _ hx
theorem Stp.nin (s : Stp as H bs H') {a : Addr} (h : H a ≠ none) (n : a ∉ as) : a ∉ bs := fun z => by
  obtain ⟨nw, e, f⟩ := s.pre
  rw [e] at z
  rcases List.mem_append.mp z with z | z
  · exact n z
  · exact h (f a z)
theorem ne_none {α : Type} {o : Option α} {x : α} (h : o = some x) : o ≠ none := by
  rw [h]
  intro z
  cases z
theorem Stp.trans (s : Stp as H bs H') (t : Stp bs H' cs H'') : Stp as H cs H'' := by
  obtain ⟨n1, e1, f1⟩ := s.pre
  obtain ⟨n2, e2, f2⟩ := t.pre
  refine ⟨⟨n1 ++ n2, by rw [e2, e1, List.append_assoc], fun a ha => ?_⟩, fun a o h n => t.go a o (s.go a o h n) (s.nin (ne_none h) n), fun a h => s.th a (t.th a h)⟩
  rcases List.mem_append.mp ha with z | z
  · exact f1 a z
  · exact s.th a (f2 a z)
theorem rd_nn {H : Hp} {a : Addr} {u : HO} (h : Rd H a u) : H a ≠ none := rd_some h
theorem Stp.way (s : Stp as H bs H') : Way K as bs H H' := by
  refine ⟨fun a xs h => ?_, fun a xs h => ?_, fun a u n h => ⟨s.nin (rd_nn h) n, rd_go s.go n h⟩, fun a u n h => ⟨s.nin (ne_none h) n, s.go a u h n⟩⟩
  · rcases h with ⟨n, h⟩ | h
    · exact .inl ⟨s.nin (rd_nn h) n, rd_go s.go n h⟩
    · exact .inr h
  · rcases h with ⟨n, h⟩ | h
    · exact .inl ⟨s.nin (rd_nn h) n, rd_go s.go n h⟩
    · exact .inr h
theorem SvR.stp {v : V} {d : Sv} (s : Stp as H bs H') (h : SvR K as H v d) : SvR K bs H' v d := by
  cases d with
  | d x => exact Dx.way s.way h
  | o k =>
    obtain ⟨a, e, z⟩ := h
    obtain ⟨nw, q, _⟩ := s.pre
    refine ⟨a, ?_, z⟩
    rw [q, List.getElem?_append_left (List.getElem?_eq_some_iff.mp e).1]
    exact e
theorem SvR.go {v : V} {d : Sv} (g : Go as H H') (h : SvR K as H v d) : SvR K as H' v d := by
  cases d with
  | d x => exact Dx.way (Way.of_go g) h
  | o k => exact h
theorem SvR.wayA {v : V} {d : Sv} {p : Addr} (hp : H p = none) (h : SvR K as H v d) : SvR K (as ++ [p]) H v d := by
  cases d with
  | d x => exact Dx.way (Way.of_add hp) h
  | o k =>
    obtain ⟨a, e, z⟩ := h
    refine ⟨a, ?_, z⟩
    rw [List.getElem?_append_left (List.getElem?_eq_some_iff.mp e).1]
    exact e
theorem SvA.go {vs : List V} {ds : List Sv} (g : Go as H H') : SvA K as H vs ds → SvA K as H' vs ds
  | .nil => .nil
  | .cons h r => .cons (h.go g) (SvA.go g r)
theorem Re.go (R : Re K as H σ S) (g : Go as H H') (Q : Ro K as H' os') : Re K as H' σ ⟨S.s, os'⟩ :=
  ⟨Q, R.slen, fun i d h => by
    obtain ⟨v, e, r⟩ := R.slot i d h
    exact ⟨v, e, r.go g⟩⟩
theorem Ro.new {p : Addr} {o : HO} (R : Ro K as H os) (hp : H p = none) : Ro K as (upd H p o) os := by
  refine ⟨R.nd, R.len, fun k a ob h1 h2 => ?_⟩
  refine (R.own k a ob h1 h2).way (Way.of_go (Go.new hp)) fun u e => ?_
  rw [upd_ne (ne_of_none e hp)]
  exact e
end

/-! ### abstract wishes -/
/-- what is wished of an exception: at the heap, over the data -/
structure Xc where
  wx : Value → Option Addr → St → Hp → Prop
  xe : Addr → List (Str × D) → Sa → Prop
/-- none may come -/
def X0 : Xc := ⟨fun _ _ _ _ => False, fun _ _ _ => False⟩
section
variable (K : PySem.W.Frag) (X : Xc)
def XH (as : List Addr) (H : Hp) (σ : St) (s : Sl) : Prop :=
  ∀ H' C dd fs fds os', Go as H H' → Ro K as H' os' → H dd = none → H' dd = some (.xd fs) → DxF K as H' fs fds → X.xe C fds ⟨s, os'⟩ → X.wx (.ref C) (some dd) σ H'
def XS (as : List Addr) (H : Hp) : Prop :=
  ∀ bs H' σ' S' C dd fs fds, Stp as H bs H' → Re K bs H' σ' S' → H dd = none → H' dd = some (.xd fs) → DxF K bs H' fs fds → X.xe C fds S' → X.wx (.ref C) (some dd) σ' H'
def EW (te : TE) (S : Sa) (Q : Sv → Os → Prop) : Prop :=
  ∀ as H σ (Q' : VK), Re K as H σ S → XH K X as H σ S.s → (∀ v H' d os', Go as H H' → Ro K as H' os' → SvR K as H' v d → Q d os' → Q' v H') → te σ H Q'
def TW (tt : TT) (S : Sa) (Q : Bool → Os → Prop) : Prop :=
  ∀ as H σ (Q' : Bool → Hp → Prop), Re K as H σ S → XH K X as H σ S.s → (∀ b H' os', Go as H H' → Ro K as H' os' → Q b os' → Q' b H') → tt σ H Q'
def AW (ta : TA) (S : Sa) (Q : List Sv → Os → Prop) : Prop :=
  ∀ as H σ (Q' : List V → Hp → Prop), Re K as H σ S → XH K X as H σ S.s → (∀ vs H' ds os', Go as H H' → Ro K as H' os' → SvA K as H' vs ds → Q ds os' → Q' vs H') → ta σ H Q'
def OW (to : TO) (S : Sa) (Q : Option Int → Os → Prop) : Prop :=
  ∀ as H σ (Q' : Option Int → Hp → Prop), Re K as H σ S → XH K X as H σ S.s → (∀ o H' os', Go as H H' → Ro K as H' os' → Q o os' → Q' o H') → to σ H Q'
/-- an operation on values -/
def BW (r : R2) (x y : Sv) (os : Os) (Q : Sv → Os → Prop) : Prop :=
  ∀ as H v u (Q' : VK), Ro K as H os → SvR K as H v x → SvR K as H u y → (∀ z H' d os', Go as H H' → Ro K as H' os' → SvR K as H' z d → Q d os' → Q' z H') → r v u H Q'
def UW (r : V → Hp → VK → Prop) (x : Sv) (os : Os) (Q : Sv → Os → Prop) : Prop :=
  ∀ as H v (Q' : VK), Ro K as H os → SvR K as H v x → (∀ z H' d os', Go as H H' → Ro K as H' os' → SvR K as H' z d → Q d os' → Q' z H') → r v H Q'
/-- a call on values -/
def CW (r : List V → Hp → VK → Prop) (xs : List Sv) (os : Os) (Q : Sv → Os → Prop) : Prop :=
  ∀ as H vs (Q' : VK), Ro K as H os → SvA K as H vs xs → (∀ z H' d os', Go as H H' → Ro K as H' os' → SvR K as H' z d → Q d os' → Q' z H') → r vs H Q'
/-- a method on values -/
def MW (r : V → List V → Hp → VK → Prop) (x : Sv) (xs : List Sv) (os : Os) (Q : Sv → Os → Prop) : Prop :=
  ∀ as H v vs (Q' : VK), Ro K as H os → SvR K as H v x → SvA K as H vs xs → (∀ z H' d os', Go as H H' → Ro K as H' os' → SvR K as H' z d → Q d os' → Q' z H') → r v vs H Q'
structure Ea where
  nx : Sa → Prop
  rt : Sv → Os → Prop
  bk : Sa → Prop := fun _ => False
  ct : Sa → Prop := fun _ => False
def W (ts : TS) (E : Ea) (S : Sa) : Prop :=
  ∀ as H σ (D : Ends), Re K as H σ S → XS K X as H →
    (∀ bs H' σ' S', Stp as H bs H' → Re K bs H' σ' S' → E.nx S' → D.nx σ' H') →
    (∀ bs H' v d os', Stp as H bs H' → Ro K bs H' os' → SvR K bs H' v d → E.rt d os' → D.rt v H') →
    (∀ bs H' σ' S', Stp as H bs H' → Re K bs H' σ' S' → E.bk S' → D.bk σ' H') →
    (∀ bs H' σ' S', Stp as H bs H' → Re K bs H' σ' S' → E.ct S' → D.ct σ' H') → ts D σ H
end
section
variable {K : PySem.W.Frag} {X : Xc} {as bs : List Addr} {H H1 : Hp} {σ : St} {s : Sl} {S : Sa} {os os1 : Os}
theorem XH.go (x : XH K X as H σ s) (g : Go as H H1) (R : Ro K as H1 os1) : XH K X as H1 σ s := fun H' C dd fs fds os' g2 R2 n e r z =>
  x H' C dd fs fds os' (g.trans g2) R2 (g.free (R.notin n) n) e r z
theorem XS.stp (x : XS K X as H) (s : Stp as H bs H1) : XS K X bs H1 := fun cs H' σ' S' C dd fs fds t R n e r z => x cs H' σ' S' C dd fs fds (s.trans t) R (s.th _ n) e r z
theorem XS.h (x : XS K X as H) (R : Re K as H σ S) : XH K X as H σ S.s := fun H' C dd fs fds os' g R2 n e r z => x as H' σ ⟨S.s, os'⟩ C dd fs fds (Stp.of_go g R2) (R.go g R2) n e r z
theorem XH.x0 : XH K X0 as H σ s := fun _ _ _ _ _ _ _ _ _ _ _ z => z.elim
theorem XS.x0 : XS K X0 as H := fun _ _ _ _ _ _ _ _ _ _ _ _ _ z => z.elim
end

/-! ### expressions -/
section
variable {K : PySem.W.Frag} {X : Xc} {S : Sa} {os : Os} {Q : Sv → Os → Prop} {ta tb te : TE} {tr : TA}
theorem ew_var {i : Nat} {d : Sv} (h : S.s[i]? = some (some d)) (q : Q d S.os) : EW K X (tVar i) S Q := fun as H σ Q' R x k => by
  obtain ⟨v, e, r⟩ := R.slot i d h
  exact ⟨v, e, k v H d S.os (Go.refl _ _) R.o r q⟩
theorem ew_c {v : V} {d : D} (h : ∀ as H, Dx K as H v d) (q : Q (.d d) S.os) : EW K X (tC v) S Q := fun as H σ Q' R x k => k v H (.d d) S.os (Go.refl _ _) R.o (h as H) q
theorem ew_int {i : Int} (q : Q (.d (.int i)) S.os) : EW K X (tC (.int i)) S Q := ew_c (fun _ _ => .int i) q
theorem ew_str {z : PySem.Str} (q : Q (.d (.str z)) S.os) : EW K X (tC (.str z)) S Q := ew_c (fun _ _ => .str z) q
theorem ew_bl {b : Bool} (q : Q (.d (.bl b)) S.os) : EW K X (tC (.bl b)) S Q := ew_c (fun _ _ => .bl b) q
theorem ew_non (q : Q (.d .non) S.os) : EW K X (tC .non) S Q := ew_c (fun _ _ => .non) q
theorem ew_op {r : R2} (h : EW K X ta S fun x os1 => EW K X tb ⟨S.s, os1⟩ fun y os2 => BW K r x y os2 Q) : EW K X (tOp r ta tb) S Q := fun as H σ Q' R x k =>
  h as H σ _ R x fun v H1 d os1 g1 R1 r1 q1 => q1 as H1 σ _ (R.go g1 R1) (x.go g1 R1) fun u H2 e os2 g2 R2 r2 q2 => q2 as H2 v u Q' R2 (r1.go g2) r2 fun z H3 f os3 g3 R3 r3 q3 => k z H3 f os3 ((g1.trans g2).trans g3) R3 r3 q3
theorem ew_un {r : V → Hp → VK → Prop} (h : EW K X ta S fun x os1 => UW K r x os1 Q) : EW K X (tUn r ta) S Q := fun as H σ Q' R x k =>
  h as H σ _ R x fun v H1 d os1 g1 R1 r1 q1 => q1 as H1 v Q' R1 r1 fun z H3 f os3 g3 R3 r3 q3 => k z H3 f os3 (g1.trans g3) R3 r3 q3
theorem aw_nil {Q : List Sv → Os → Prop} (q : Q [] S.os) : AW K X tNil S Q := fun as H σ Q' R x k => k [] H [] S.os (Go.refl _ _) R.o .nil q
theorem aw_cons {Q : List Sv → Os → Prop} (h : EW K X ta S fun x os1 => AW K X tr ⟨S.s, os1⟩ fun xs os2 => Q (x :: xs) os2) : AW K X (tCons ta tr) S Q := fun as H σ Q' R x k =>
  h as H σ _ R x fun v H1 d os1 g1 R1 r1 q1 => q1 as H1 σ _ (R.go g1 R1) (x.go g1 R1) fun vs H2 ds os2 g2 R2 r2 q2 => k (v :: vs) H2 (d :: ds) os2 (g1.trans g2) R2 (.cons (r1.go g2) r2) q2
theorem ew_cb {r : List V → Hp → VK → Prop} (h : AW K X tr S fun xs os1 => CW K r xs os1 Q) : EW K X (tCB r tr) S Q := fun as H σ Q' R x k =>
  h as H σ _ R x fun vs H1 ds os1 g1 R1 r1 q1 => q1 as H1 vs Q' R1 r1 fun z H3 f os3 g3 R3 r3 q3 => k z H3 f os3 (g1.trans g3) R3 r3 q3
theorem ew_if {t : TT} (h : TW K X t S fun b os1 => if b = true then EW K X ta ⟨S.s, os1⟩ Q else EW K X tb ⟨S.s, os1⟩ Q) : EW K X (tIf t ta tb) S Q := fun as H σ Q' R x k =>
  h as H σ _ R x fun b H1 os1 g1 R1 q1 => by
    cases b with
    | true =>
      show ta σ H1 Q'
      exact (show EW K X ta ⟨S.s, os1⟩ Q from q1) as H1 σ Q' (R.go g1 R1) (x.go g1 R1) fun z H3 f os3 g3 R3 r3 q3 => k z H3 f os3 (g1.trans g3) R3 r3 q3
    | false =>
      show tb σ H1 Q'
      exact (show EW K X tb ⟨S.s, os1⟩ Q from q1) as H1 σ Q' (R.go g1 R1) (x.go g1 R1) fun z H3 f os3 g3 R3 r3 q3 => k z H3 f os3 (g1.trans g3) R3 r3 q3
theorem ew_mono {Q' : Sv → Os → Prop} (h : EW K X te S Q) (m : ∀ d os, Q d os → Q' d os) : EW K X te S Q' := fun as H σ Z R x k =>
  h as H σ Z R x fun v H1 d os1 g1 R1 r1 q1 => k v H1 d os1 g1 R1 r1 (m d os1 q1)
end

/-! ### tests -/
section
variable {K : PySem.W.Frag} {X : Xc} {S : Sa} {Q : Bool → Os → Prop} {ta : TE} {t u : TT}
theorem tw_test (h : EW K X ta S fun x os => ∃ b, x = .d (.bl b) ∧ Q b os) : TW K X (tTest ta) S Q := fun as H σ Q' R x k =>
  h as H σ _ R x fun v H1 d os1 g1 R1 r1 ⟨b, e, q⟩ => by
    subst e
    cases r1
    exact ⟨b, rfl, k b H1 os1 g1 R1 q⟩
theorem tw_B (h : EW K X ta S fun x os => ∃ b, x = .d (.bl b) ∧ Q b os) : TW K X (tB ta) S Q := fun as H σ Q' R x k =>
  h as H σ _ R x fun v H1 d os1 g1 R1 r1 ⟨b, e, q⟩ => by
    subst e
    cases r1
    exact ⟨b, rfl, k b H1 os1 g1 R1 q⟩
theorem tw_and (h : TW K X t S fun b os => if b = true then TW K X u ⟨S.s, os⟩ Q else Q false os) : TW K X (tAnd t u) S Q := fun as H σ Q' R x k =>
  h as H σ _ R x fun b H1 os1 g1 R1 q1 => by
    cases b with
    | true =>
      show u σ H1 Q'
      exact (show TW K X u ⟨S.s, os1⟩ Q from q1) as H1 σ Q' (R.go g1 R1) (x.go g1 R1) fun b H2 os2 g2 R2 q2 => k b H2 os2 (g1.trans g2) R2 q2
    | false =>
      show Q' false H1
      exact k false H1 os1 g1 R1 q1
theorem tw_or (h : TW K X t S fun b os => if b = true then Q true os else TW K X u ⟨S.s, os⟩ Q) : TW K X (tOr t u) S Q := fun as H σ Q' R x k =>
  h as H σ _ R x fun b H1 os1 g1 R1 q1 => by
    cases b with
    | false =>
      show u σ H1 Q'
      exact (show TW K X u ⟨S.s, os1⟩ Q from q1) as H1 σ Q' (R.go g1 R1) (x.go g1 R1) fun b H2 os2 g2 R2 q2 => k b H2 os2 (g1.trans g2) R2 q2
    | true =>
      show Q' true H1
      exact k true H1 os1 g1 R1 q1
theorem tw_not (h : TW K X t S fun b os => Q (!b) os) : TW K X (tNot t) S Q := fun as H σ Q' R x k => h as H σ _ R x fun b H1 os1 g1 R1 q1 => k (!b) H1 os1 g1 R1 q1
end
section
variable {K : PySem.W.Frag} {X : Xc} {S : Sa} {Q : Sv → Os → Prop} {ta tb : TE}
theorem ew_andV (h : EW K X ta S fun x os => ∃ b, x = .d (.bl b) ∧ if b = true then EW K X tb ⟨S.s, os⟩ Q else Q (.d (.bl false)) os) : EW K X (tAndV ta tb) S Q := fun as H σ Q' R x k =>
  h as H σ _ R x fun v H1 d os1 g1 R1 r1 ⟨b, e, q1⟩ => by
    subst e
    cases r1
    refine ⟨b, rfl, ?_⟩
    cases b with
    | true =>
      show tb σ H1 Q'
      exact (show EW K X tb ⟨S.s, os1⟩ Q from q1) as H1 σ Q' (R.go g1 R1) (x.go g1 R1) fun z H3 f os3 g3 R3 r3 q3 => k z H3 f os3 (g1.trans g3) R3 r3 q3
    | false =>
      show Q' (.bl false) H1
      exact k _ H1 (.d (.bl false)) os1 g1 R1 (Dx.bl false) q1
theorem ew_orV (h : EW K X ta S fun x os => ∃ b, x = .d (.bl b) ∧ if b = true then Q (.d (.bl true)) os else EW K X tb ⟨S.s, os⟩ Q) : EW K X (tOrV ta tb) S Q := fun as H σ Q' R x k =>
  h as H σ _ R x fun v H1 d os1 g1 R1 r1 ⟨b, e, q1⟩ => by
    subst e
    cases r1
    refine ⟨b, rfl, ?_⟩
    cases b with
    | false =>
      show tb σ H1 Q'
      exact (show EW K X tb ⟨S.s, os1⟩ Q from q1) as H1 σ Q' (R.go g1 R1) (x.go g1 R1) fun z H3 f os3 g3 R3 r3 q3 => k z H3 f os3 (g1.trans g3) R3 r3 q3
    | true =>
      show Q' (.bl true) H1
      exact k _ H1 (.d (.bl true)) os1 g1 R1 (Dx.bl true) q1
theorem ew_notV (h : EW K X ta S fun x os => ∃ b, x = .d (.bl b) ∧ Q (.d (.bl (!b))) os) : EW K X (tNotV ta) S Q := fun as H σ Q' R x k =>
  h as H σ _ R x fun v H1 d os1 g1 R1 r1 ⟨b, e, q1⟩ => by
    subst e
    cases r1
    exact ⟨b, rfl, k _ H1 (.d (.bl _)) os1 g1 R1 (Dx.bl _) q1⟩
end

/-! ### statements -/
section
variable {K : PySem.W.Frag} {X : Xc} {S : Sa} {E : Ea} {te : TE} {tt : TT} {t u : TS}
theorem w_seq (h : W K X t { E with nx := W K X u E } S) : W K X (tSeq t u) E S := fun as H σ D R x n r b c => by
  refine h as H σ { D with nx := u D } R x (fun bs H1 σ1 S1 s1 R1 q1 => ?_) r b c
  exact q1 bs H1 σ1 D R1 (x.stp s1) (fun cs H2 σ2 S2 s2 R2 q2 => n cs H2 σ2 S2 (s1.trans s2) R2 q2) (fun cs H2 v d os2 s2 R2 r2 q2 => r cs H2 v d os2 (s1.trans s2) R2 r2 q2)
    (fun cs H2 σ2 S2 s2 R2 q2 => b cs H2 σ2 S2 (s1.trans s2) R2 q2) (fun cs H2 σ2 S2 s2 R2 q2 => c cs H2 σ2 S2 (s1.trans s2) R2 q2)
theorem w_next (q : E.nx S) : W K X tNext E S := fun as H σ D R x n r b c => n as H σ S Stp.refl R q
theorem w_brk (q : E.bk S) : W K X tBreak E S := fun as H σ D R x n r b c => b as H σ S Stp.refl R q
theorem w_cont (q : E.ct S) : W K X tCont E S := fun as H σ D R x n r b c => c as H σ S Stp.refl R q
theorem w_ret (h : EW K X te S E.rt) : W K X (tRet te) E S := fun as H σ D R x n r b c => h as H σ _ R (x.h R) fun v H1 d os1 g1 R1 r1 q1 => r as H1 v d os1 (Stp.of_go g1 R1) R1 r1 q1
theorem w_retN (h : E.rt (.d .non) S.os) : W K X tRetN E S := fun as H σ D R x n r b c => r as H .non (.d .non) S.os Stp.refl R.o Dx.non h
theorem w_drop (h : EW K X te S fun _ os => E.nx ⟨S.s, os⟩) : W K X (tDrop te) E S := fun as H σ D R x n r b c => h as H σ _ R (x.h R) fun v H1 d os1 g1 R1 r1 q1 => n as H1 σ _ (Stp.of_go g1 R1) (R.go g1 R1) q1
theorem Re.set {as : List Addr} {H : Hp} {σ : St} {v : V} {d : Sv} (i : Nat) (R : Re K as H σ S) (r : SvR K as H v d) : Re K as H (σ.set i (some v)) ⟨S.s.set i (some d), S.os⟩ :=
  ⟨R.o, by simp [R.slen], fun j e h => by
    have h' : (S.s.set i (some d))[j]? = some (some e) := h
    by_cases hj : i = j
    · subst hj
      by_cases hl : i < S.s.length
      · rw [List.getElem?_set_self hl] at h'
        cases h'
        exact ⟨v, by rw [List.getElem?_set_self (by rw [R.slen]; exact hl)], r⟩
      · rw [List.getElem?_eq_none (by simpa using hl)] at h'
        cases h'
    · rw [List.getElem?_set_ne hj] at h'
      obtain ⟨w, e1, r1⟩ := R.slot j e h'
      exact ⟨w, by rw [List.getElem?_set_ne hj]; exact e1, r1⟩⟩
theorem w_asg {i : Nat} (h : EW K X te S fun d os => E.nx ⟨S.s.set i (some d), os⟩) : W K X (tAsg te (gName i)) E S := fun as H σ D R x n r b c =>
  h as H σ _ R (x.h R) fun v H1 d os1 g1 R1 r1 q1 => n as H1 _ _ (Stp.of_go g1 R1) ((R.go g1 R1).set i r1) q1
theorem w_if (h : TW K X tt S fun b os => if b = true then W K X t E ⟨S.s, os⟩ else W K X u E ⟨S.s, os⟩) : W K X (tIfS tt t u) E S := fun as H σ D R x n r b c =>
  h as H σ _ R (x.h R) fun y H1 os1 g1 R1 q1 => by
    have s1 := Stp.of_go g1 R1
    cases y with
    | true =>
      show t D σ H1
      exact (show W K X t E ⟨S.s, os1⟩ from q1) as H1 σ D (R.go g1 R1) (x.stp s1) (fun cs H2 σ2 S2 s2 R2 q2 => n cs H2 σ2 S2 (s1.trans s2) R2 q2) (fun cs H2 v d os2 s2 R2 r2 q2 => r cs H2 v d os2 (s1.trans s2) R2 r2 q2)
        (fun cs H2 σ2 S2 s2 R2 q2 => b cs H2 σ2 S2 (s1.trans s2) R2 q2) (fun cs H2 σ2 S2 s2 R2 q2 => c cs H2 σ2 S2 (s1.trans s2) R2 q2)
    | false =>
      show u D σ H1
      exact (show W K X u E ⟨S.s, os1⟩ from q1) as H1 σ D (R.go g1 R1) (x.stp s1) (fun cs H2 σ2 S2 s2 R2 q2 => n cs H2 σ2 S2 (s1.trans s2) R2 q2) (fun cs H2 v d os2 s2 R2 r2 q2 => r cs H2 v d os2 (s1.trans s2) R2 r2 q2)
        (fun cs H2 σ2 S2 s2 R2 q2 => b cs H2 σ2 S2 (s1.trans s2) R2 q2) (fun cs H2 σ2 S2 s2 R2 q2 => c cs H2 σ2 S2 (s1.trans s2) R2 q2)
theorem w_mono {E' : Ea} (h : W K X t E S) (n : ∀ S, E.nx S → E'.nx S) (r : ∀ d os, E.rt d os → E'.rt d os) (b : ∀ S, E.bk S → E'.bk S) (c : ∀ S, E.ct S → E'.ct S) : W K X t E' S := fun as H σ D R x kn kr kb kc =>
  h as H σ D R x (fun bs H' σ' S' s R' q => kn bs H' σ' S' s R' (n _ q)) (fun bs H' v d os s R' r' q => kr bs H' v d os s R' r' (r _ _ q)) (fun bs H' σ' S' s R' q => kb bs H' σ' S' s R' (b _ q)) (fun bs H' σ' S' s R' q => kc bs H' σ' S' s R' (c _ q))
/-- never come to -/
theorem w_never (h : False) : W K X t E S := h.elim
end
end Br

/-! BrB: calls, operations on data. -/
namespace Br
open PySem L2

/-! ### data as the library's own -/
mutual
def D.py : D → Option PyData
  | .non => some .none
  | .bl b => some (.bool b)
  | .int i => some (.int i)
  | .str x => some (.str x)
  | .lst xs => (D.pys xs).map .list
  | .tup xs => (D.pys xs).map .tuple
  | .dk _ => none
  | .ob _ _ => none
  | .xo _ _ => none
def D.pys : List D → Option (List PyData)
  | [] => some []
  | x :: r => (D.py x).bind fun p => (D.pys r).map fun ps => p :: ps
end
section
variable {K : PySem.W.Frag} {as : List Addr} {H : Hp}
mutual
theorem Dx.dp1 : ∀ (d : D) (v : V) (p : PyData), Dx K as H v d → d.py = some p → Dp K H v p
  | .non, _, _, h, e => by
    cases h
    have e2 : some PyData.none = some _ := e
    cases e2
    exact .non
  | .bl b, _, _, h, e => by
    cases h
    have e2 : some (PyData.bool b) = some _ := e
    cases e2
    exact .bl b
  | .int b, _, _, h, e => by
    cases h
    have e2 : some (PyData.int b) = some _ := e
    cases e2
    exact .int b
  | .str b, _, _, h, e => by
    cases h
    have e2 : some (PyData.str b) = some _ := e
    cases e2
    exact .str b
  | .lst ds, _, p, h, e => by
    cases h with
    | lst hl hr =>
      have e2 : (D.pys ds).map PyData.list = some p := e
      obtain ⟨ps, q, rfl⟩ := Option.map_eq_some_iff.mp e2
      exact .lst hl.sq (DxA.dp1 ds _ ps hr q)
  | .tup ds, _, p, h, e => by
    cases h with
    | tup hl hr =>
      have e2 : (D.pys ds).map PyData.tuple = some p := e
      obtain ⟨ps, q, rfl⟩ := Option.map_eq_some_iff.mp e2
      exact .tup hl.sq (DxA.dp1 ds _ ps hr q)
  | .dk _, _, p, _, e => by
    have e2 : (none : Option PyData) = some p := e
    cases e2
  | .ob _ _, _, p, _, e => by
    have e2 : (none : Option PyData) = some p := e
    cases e2
  | .xo _ _, _, p, _, e => by
    have e2 : (none : Option PyData) = some p := e
    cases e2
theorem DxA.dp1 : ∀ (ds : List D) (vs : List V) (ps : List PyData), DxA K as H vs ds → D.pys ds = some ps → DpAll K H vs ps
  | [], _, ps, h, e => by
    cases h
    have e2 : some [] = some ps := e
    cases e2
    exact .nil
  | d :: ds, _, ps, h, e => by
    cases h with
    | cons h r =>
      have e2 : ((D.py d).bind fun p => (D.pys ds).map fun ps => p :: ps) = some ps := e
      obtain ⟨p, q1, q2⟩ := Option.bind_eq_some_iff.mp e2
      obtain ⟨qs, q3, q4⟩ := Option.map_eq_some_iff.mp q2
      subst q4
      exact .cons (Dx.dp1 d _ p h q1) (DxA.dp1 ds _ qs r q3)
end
theorem Dx.dp {v : V} {d : D} {p : PyData} (h : Dx K as H v d) (e : d.py = some p) : Dp K H v p := Dx.dp1 d v p h e
end

/-! ### promises over data -/
abbrev Xa := Addr → List (Str × D) → Os → Prop
abbrev FD := List Sv → Os → (D → Os → Prop) → Xa → Prop
/-- the promise: from the arguments' data and the store to the answer's -/
def spD (K : PySem.W.Frag) (f : FD) : Sp := fun vs H Q E => ∃ (as : List Addr) (os : Os) (ds : List Sv) (QA : D → Os → Prop) (EA : Xa), Ro K as H os ∧ SvA K as H vs ds ∧ f ds os QA EA ∧
  (∀ v H' d os', Go as H H' → Ro K as H' os' → Dx K as H' v d → QA d os' → Q v H') ∧
  (∀ C dd H' fs fds os', Go as H H' → Ro K as H' os' → H dd = none → H' dd = some (.xd fs) → DxF K as H' fs fds → EA C fds os' → E (.ref C) (some dd) H')
section
variable {K : PySem.W.Frag} {as bs : List Addr} {H H' : Hp} {os os' : Os}
/-- back to the caller's things -/
theorem Ro.back (s : Stp as H bs H') (n : as.length = os.length) (R : Ro K bs H' os') : Ro K as H' (os'.take os.length) := by
  obtain ⟨nw, e, _⟩ := s.pre
  have hl : os.length ≤ os'.length := by rw [← R.len, ← n, e, List.length_append]; omega
  refine ⟨?_, by rw [n, List.length_take]; omega, fun k a ob h1 h2 => ?_⟩
  · have q := R.nd
    rw [e] at q
    exact (List.nodup_append.mp q).1
  · have hk : k < as.length := (List.getElem?_eq_some_iff.mp h1).1
    have h1' : bs[k]? = some a := by rw [e, List.getElem?_append_left hk]; exact h1
    have h2' : os'[k]? = some ob := by rw [List.getElem?_take_of_lt (by omega)] at h2; exact h2
    exact (R.own k a ob h1' h2').way (Way.of_sub s.sub) fun _ z => z
/-- what a return hands out -/
def RetOk (n : Nat) (QA : D → Os → Prop) : Sv → Os → Prop := fun x os' => match x with
  | .d d => QA d (os'.take n)
  | .o k => n ≤ k ∧ ∃ xs, os'[k]? = some (.ml xs) ∧ QA (.lst xs) (os'.take n)
theorem ret_back {QA : D → Os → Prop} {v : V} {x : Sv} {Q : VK} (s : Stp as H bs H') (n : as.length = os.length) (R : Ro K bs H' os') (r : SvR K bs H' v x) (q : RetOk os.length QA x os')
    (k : ∀ v H' d os', Go as H H' → Ro K as H' os' → Dx K as H' v d → QA d os' → Q v H') : Q v H' := by
  cases x with
  | d d => exact k v H' d _ s.go (R.back s n) (Dx.way (Way.of_sub s.sub) r) q
  | o j =>
    obtain ⟨hj, xs, e, q⟩ := q
    obtain ⟨a, ea, rfl⟩ := r
    obtain ⟨vs, h1, h2⟩ := R.own j a _ ea e
    obtain ⟨nw, eb, hf⟩ := s.pre
    have ha : a ∉ as := fun z => by
      obtain ⟨i, hi, ei⟩ := List.mem_iff_getElem.mp z
      have h3 : bs[i]? = some a := by rw [eb, List.getElem?_append_left hi, List.getElem?_eq_getElem hi, ei]
      have h4 : i = j := by
        obtain ⟨l1, m1⟩ := List.getElem?_eq_some_iff.mp h3
        obtain ⟨l2, m2⟩ := List.getElem?_eq_some_iff.mp ea
        exact (List.getElem_inj R.nd).mp (m1.trans m2.symm)
      omega
    exact k _ H' _ _ s.go (R.back s n) (.lst (.inl ⟨ha, .inl h1⟩) (h2.way (Way.of_sub s.sub))) q
def startS (N : List Str) (ds : List Sv) : Sl := ds.map some ++ List.replicate (N.length - ds.length) none
theorem SvA.length : ∀ {vs : List V} {ds : List Sv}, SvA K as H vs ds → vs.length = ds.length
  | _, _, .nil => rfl
  | _, _, .cons _ r => by rw [List.length_cons, List.length_cons, SvA.length r]
theorem SvA.get : ∀ {v : List V} {d : List Sv} {i : Nat} {x : Sv}, SvA K as H v d → d[i]? = some x → ∃ u, v[i]? = some u ∧ SvR K as H u x
  | _, _, _, _, .nil, e => by simp at e
  | _, _, 0, _, .cons h _, e => by simp at e; subst e; exact ⟨_, rfl, h⟩
  | _, _, i + 1, x, .cons _ r, e => by
    obtain ⟨u, h1, h2⟩ := SvA.get (i := i) (x := x) r (by simpa using e)
    exact ⟨u, by simpa using h1, h2⟩
theorem re_start {N : List Str} {vs : List V} {ds : List Sv} (R : Ro K as H os) (r : SvA K as H vs ds) : Re K as H (L2.start N vs) ⟨startS N ds, os⟩ := by
  have hl := r.length
  refine ⟨R, by unfold L2.start startS; simp [hl], fun i d h => ?_⟩
  have h' : (startS N ds)[i]? = some (some d) := h
  unfold startS at h'
  by_cases hi : i < ds.length
  · rw [List.getElem?_append_left (by simpa using hi), List.getElem?_map] at h'
    cases e : ds[i]? with
    | none => rw [e] at h'; cases h'
    | some y =>
      rw [e] at h'
      cases h'
      obtain ⟨u, h1, h2⟩ := r.get e
      refine ⟨u, ?_, h2⟩
      unfold L2.start
      rw [List.getElem?_append_left (by simpa [hl] using hi), List.getElem?_map, h1]
      rfl
  · rw [List.getElem?_append_right (by simpa using hi), List.getElem?_replicate] at h'
    split at h' <;> cases h'
/-- a body's abstract reading is a reading of the promise -/
theorem read_of {N : List Str} {f : FD} {t : TS} {vs : List V} {Q : VK} {E : XK} (h : spD K f vs H Q E)
    (w : ∀ ds os QA EA, f ds os QA EA → W K ⟨fun cls d _ H => E cls d H, fun C fds S => EA C fds (S.os.take os.length)⟩ t { nx := fun S => RetOk os.length QA (.d .non) S.os, rt := RetOk os.length QA } ⟨startS N ds, os⟩) : t { nx := fun _ H' => Q .non H', rt := Q } (L2.start N vs) H := by
  obtain ⟨as, os, ds, QA, EA, R, r, hf, kq, ke⟩ := h
  refine w ds os QA EA hf as H _ _ (re_start R r) (fun bs H' σ' S' C dd fs fds s R' n e r' z => ?_) (fun bs H' σ' S' s R' q => ?_) (fun bs H' v d os' s R' r' q => ?_) (fun _ _ _ _ _ _ q => q.elim) fun _ _ _ _ _ _ q => q.elim
  · exact ke C dd H' fs fds _ s.go (R'.o.back s R.len) n e (DxF.way (Way.of_sub s.sub) r') z
  · exact ret_back s R.len R'.o (v := .non) (x := .d .non) Dx.non q kq
  · exact ret_back s R.len R' r' q kq
end

/-! ### a call of a def -/
section
variable {K : PySem.W.Frag} {X : Xc} {S : Sa} {Q : Sv → Os → Prop} {ta : TA} {f : FD}
theorem SvA.nilr {as : List Addr} {H : Hp} : ∀ {vs : List V} {ds : List Sv}, SvA K as H vs ds → SvA K as H (vs ++ []) ds := fun h => by
  rw [List.append_nil]
  exact h
theorem ew_call (h : AW K X ta S fun ds os => f ds os (fun d os' => Q (.d d) os') fun _ _ _ => False) : EW K X (tCall (spD K f) [] E0 ta) S Q := fun as H σ Q' R x k =>
  h as H σ _ R x fun vs H1 ds os1 g1 R1 r1 q1 => ⟨as, os1, ds, _, _, R1, r1.nilr, q1, fun v H2 d os2 g2 R2 r2 q2 => k v H2 (.d d) os2 (g1.trans g2) R2 r2 q2, fun _ _ _ _ _ _ _ _ _ _ _ z => z.elim⟩
/-- one that may raise -/
theorem ew_callS {wx : WX} {xe : Addr → List (Str × D) → Sa → Prop} (h : AW K ⟨wx, xe⟩ ta S fun ds os => f ds os (fun d os' => Q (.d d) os') fun C fds os' => xe C fds ⟨S.s, os'⟩) : EW K ⟨wx, xe⟩ (tCallS (spD K f) (WE wx) ta) S Q := fun as H σ Q' R x k =>
  h as H σ _ R x fun vs H1 ds os1 g1 R1 r1 q1 => ⟨as, os1, ds, _, _, R1, r1, q1, fun v H2 d os2 g2 R2 r2 q2 => k v H2 (.d d) os2 (g1.trans g2) R2 r2 q2,
    fun C dd H2 fs fds os2 g2 R2 n2 e2 r2 z => x H2 C dd fs fds os2 (g1.trans g2) R2 (g1.free (R1.notin n2) n2) e2 r2 z⟩
end

/-! ### operations on values -/
section
variable {K : PySem.W.Frag} {os : Os} {Q : Sv → Os → Prop}
theorem bw_pure {r : R2} {x y : Sv} {z : D} (h : ∀ as H v u (Q' : VK), Ro K as H os → SvR K as H v x → SvR K as H u y → (∀ v, Dx K as H v z → Q' v H) → r v u H Q') (q : Q (.d z) os) : BW K r x y os Q :=
  fun as H v u Q' R rx ry k => h as H v u Q' R rx ry fun w rw => k w H (.d z) os (Go.refl _ _) R rw q
theorem cw_pure {r : List V → Hp → VK → Prop} {xs : List Sv} {z : D} (h : ∀ as H vs (Q' : VK), Ro K as H os → SvA K as H vs xs → (∀ v, Dx K as H v z → Q' v H) → r vs H Q') (q : Q (.d z) os) : CW K r xs os Q :=
  fun as H vs Q' R r k => h as H vs Q' R r fun w rw => k w H (.d z) os (Go.refl _ _) R rw q
/-- what gives a new object -/
theorem cw_new {r : List V → Hp → VK → Prop} {xs : List Sv} {z : D}
    (h : ∀ as H vs (Q' : VK), Ro K as H os → SvA K as H vs xs → (∀ p o, H p = none → Dx K as (upd H p o) (.ref p) z → Q' (.ref p) (upd H p o)) → (∀ v, Dx K as H v z → Q' v H) → r vs H Q') (q : Q (.d z) os) : CW K r xs os Q :=
  fun as H vs Q' R r k => h as H vs Q' R r (fun p o hp rw => k (.ref p) (upd H p o) (.d z) os (Go.new hp) (R.new hp) rw q) fun w rw => k w H (.d z) os (Go.refl _ _) R rw q
theorem bw_new {r : R2} {x y : Sv} {z : D}
    (h : ∀ as H v u (Q' : VK), Ro K as H os → SvR K as H v x → SvR K as H u y → (∀ p o, H p = none → Dx K as (upd H p o) (.ref p) z → Q' (.ref p) (upd H p o)) → (∀ v, Dx K as H v z → Q' v H) → r v u H Q') (q : Q (.d z) os) : BW K r x y os Q :=
  fun as H v u Q' R rx ry k => h as H v u Q' R rx ry (fun p o hp rw => k (.ref p) (upd H p o) (.d z) os (Go.new hp) (R.new hp) rw q) fun w rw => k w H (.d z) os (Go.refl _ _) R rw q
/-- ints -/
theorem bw_i0 {g : Int → Int → Int} {i j : Int} (q : Q (.d (.int (g i j))) os) : BW K (rI0 fun i j => .int (g i j)) (.d (.int i)) (.d (.int j)) os Q :=
  bw_pure (fun as H v u Q' R rx ry k => by
    cases rx
    cases ry
    exact ⟨i, j, rfl, rfl, k _ (.int _)⟩) q
theorem bw_ib {g : Int → Int → Bool} {i j : Int} (q : Q (.d (.bl (g i j))) os) : BW K (rI0 fun i j => .bl (g i j)) (.d (.int i)) (.d (.int j)) os Q :=
  bw_pure (fun as H v u Q' R rx ry k => by
    cases rx
    cases ry
    exact ⟨i, j, rfl, rfl, k _ (.bl _)⟩) q
theorem bw_i {C : Int → Int → Prop} {g : Int → Int → Int} {i j : Int} (c : C i j) (q : Q (.d (.int (g i j))) os) : BW K (rI C fun i j => .int (g i j)) (.d (.int i)) (.d (.int j)) os Q :=
  bw_pure (fun as H v u Q' R rx ry k => by
    cases rx
    cases ry
    exact ⟨i, j, rfl, rfl, c, k _ (.int _)⟩) q
/-- texts -/
def rCatS : R2 := fun x y H Q => ∃ i j, x = .str i ∧ y = .str j ∧ i.length + j.length ≤ sizeLine ∧ Q (.str (i ++ j)) H
theorem bw_catS {i j : Str} (c : i.length + j.length ≤ sizeLine) (q : Q (.d (.str (i ++ j))) os) : BW K rCatS (.d (.str i)) (.d (.str j)) os Q :=
  bw_pure (fun as H v u Q' R rx ry k => by
    cases rx
    cases ry
    exact ⟨i, j, rfl, rfl, c, k _ (.str _)⟩) q
theorem bw_inS {c : Nat} {z : Str} (q : Q (.d (.bl (decide (c ∈ z.cps.toList)))) os) : BW K rInS (.d (.str ⟨#[c]⟩)) (.d (.str z)) os Q :=
  bw_pure (fun as H v u Q' R rx ry k => by
    cases rx
    cases ry
    exact ⟨c, z, rfl, rfl, k _ (.bl _)⟩) q
theorem bw_notInS {c : Nat} {z : Str} (q : Q (.d (.bl (!decide (c ∈ z.cps.toList)))) os) : BW K rNotInS (.d (.str ⟨#[c]⟩)) (.d (.str z)) os Q :=
  bw_pure (fun as H v u Q' R rx ry k => by
    cases rx
    cases ry
    exact ⟨c, z, rfl, rfl, k _ (.bl _)⟩) q
theorem bw_eqS {i j : Str} (q : Q (.d (.bl (decide (i = j)))) os) : BW K rEq (.d (.str i)) (.d (.str j)) os Q :=
  bw_pure (fun as H v u Q' R rx ry k => by
    cases rx
    cases ry
    have e : decide (V.str i = V.str j) = decide (i = j) := by simp
    exact ⟨rfl, by rw [e]; exact k _ (.bl _)⟩) q
theorem bw_neS {i j : Str} (q : Q (.d (.bl (!decide (i = j)))) os) : BW K rNe (.d (.str i)) (.d (.str j)) os Q :=
  bw_pure (fun as H v u Q' R rx ry k => by
    cases rx
    cases ry
    have e : decide (V.str i = V.str j) = decide (i = j) := by simp
    exact ⟨rfl, by rw [e]; exact k _ (.bl _)⟩) q
theorem bw_eqI {i j : Int} (q : Q (.d (.bl (decide (i = j)))) os) : BW K rEq (.d (.int i)) (.d (.int j)) os Q :=
  bw_pure (fun as H v u Q' R rx ry k => by
    cases rx
    cases ry
    have e : decide (V.int i = V.int j) = decide (i = j) := by simp
    exact ⟨rfl, by rw [e]; exact k _ (.bl _)⟩) q
theorem bw_neI {i j : Int} (q : Q (.d (.bl (!decide (i = j)))) os) : BW K rNe (.d (.int i)) (.d (.int j)) os Q :=
  bw_pure (fun as H v u Q' R rx ry k => by
    cases rx
    cases ry
    have e : decide (V.int i = V.int j) = decide (i = j) := by simp
    exact ⟨rfl, by rw [e]; exact k _ (.bl _)⟩) q
/-- data at any depth -/
theorem bw_eqD {x y : D} {p r : PyData} (hx : x.py = some p) (hy : y.py = some r) (sp : SeqAt.shaped p = true) (sr : SeqAt.shaped r = true) (q : Q (.d (.bl (PyData.eqv p r))) os) : BW K (rEqD K) (.d x) (.d y) os Q :=
  bw_pure (fun as H v u Q' R rx ry k => ⟨p, r, Dx.dp rx hx, Dx.dp ry hy, sp, sr, k _ (.bl _)⟩) q
theorem bw_neD {x y : D} {p r : PyData} (hx : x.py = some p) (hy : y.py = some r) (sp : SeqAt.shaped p = true) (sr : SeqAt.shaped r = true) (q : Q (.d (.bl (!PyData.eqv p r))) os) : BW K (rNeD K) (.d x) (.d y) os Q :=
  bw_pure (fun as H v u Q' R rx ry k => ⟨p, r, Dx.dp rx hx, Dx.dp ry hy, sp, sr, k _ (.bl _)⟩) q
/-- an item -/
theorem DxA.atI {as : List Addr} {H : Hp} {vs : List V} {ds : List D} {i : Int} {z : D} (r : DxA K as H vs ds) (h : L2.atI ds i = some z) : ∃ u, L2.atI vs i = some u ∧ Dx K as H u z := by
  unfold L2.atI at h ⊢
  rw [r.length]
  cases e : ixN ds.length i with
  | none => rw [e] at h; cases h
  | some j =>
    rw [e] at h
    exact r.get h
theorem bw_ixL {xs : List D} {i : Int} {z : D} (h : L2.atI xs i = some z) (q : Q (.d z) os) : BW K (rIxL K) (.d (.lst xs)) (.d (.int i)) os Q :=
  bw_pure (fun as H v u Q' R rx ry k => by
    cases rx with
    | lst hl hr =>
      cases ry
      obtain ⟨u, e, r⟩ := hr.atI h
      exact ⟨_, _, i, u, rfl, rfl, hl.sq, e, k _ r⟩) q
theorem bw_ixT {xs : List D} {i : Int} {z : D} (h : L2.atI xs i = some z) (q : Q (.d z) os) : BW K (rIxT K) (.d (.tup xs)) (.d (.int i)) os Q :=
  bw_pure (fun as H v u Q' R rx ry k => by
    cases rx with
    | tup hl hr =>
      cases ry
      obtain ⟨u, e, r⟩ := hr.atI h
      exact ⟨_, _, i, u, rfl, rfl, hl.sq, e, k _ r⟩) q
theorem bw_ixS {s : Str} {i : Int} {c : Nat} (hz : s.length ≤ sizeLine) (h : L2.atI s.cps.toList i = some c) (q : Q (.d (.str ⟨#[c]⟩)) os) : BW K rIxS (.d (.str s)) (.d (.int i)) os Q :=
  bw_pure (fun as H v u Q' R rx ry k => by
    cases rx
    cases ry
    exact ⟨s, i, c, rfl, rfl, hz, h, k _ (.str _)⟩) q
/-- lengths -/
def rLen (K : PySem.W.Frag) : List V → Hp → VK → Prop := fun xs H Q => ∃ p ys, xs = [.ref p] ∧ (SqL K H p ys ∨ SqT K H p ys) ∧ Q (.int ys.length) H
def rLenT : List V → Hp → VK → Prop := fun xs H Q => ∃ z, xs = [.str z] ∧ z.length ≤ sizeLine ∧ Q (.int z.length) H
theorem cw_lenL {xs : List D} (q : Q (.d (.int (xs.length : Int))) os) : CW K (rLen K) [.d (.lst xs)] os Q :=
  cw_pure (fun as H vs Q' R r k => by
    cases r with
    | cons h t =>
      cases t
      cases h with
      | lst hl hr =>
        refine ⟨_, _, rfl, .inl hl.sq, ?_⟩
        rw [hr.length]
        exact k _ (.int _)) q
theorem cw_lenU {xs : List D} (q : Q (.d (.int (xs.length : Int))) os) : CW K (rLen K) [.d (.tup xs)] os Q :=
  cw_pure (fun as H vs Q' R r k => by
    cases r with
    | cons h t =>
      cases t
      cases h with
      | tup hl hr =>
        refine ⟨_, _, rfl, .inr hl.sq, ?_⟩
        rw [hr.length]
        exact k _ (.int _)) q
theorem cw_lenS {z : Str} (hz : z.length ≤ sizeLine) (q : Q (.d (.int (z.length : Int))) os) : CW K rLenT [.d (.str z)] os Q :=
  cw_pure (fun as H vs Q' R r k => by
    cases r with
    | cons h t =>
      cases t
      cases h
      exact ⟨z, rfl, hz, k _ (.int _)⟩) q
/-- tuple(a list), list(..) -/
def rTupOf (K : PySem.W.Frag) : List V → Hp → VK → Prop := fun xs H Q => ∃ p ys, xs = [.ref p] ∧ ((SqL K H p ys ∧ ∀ l, H l = none → Q (.ref l) (upd H l (.tup ys))) ∨ (SqT K H p ys ∧ Q (.ref p) H))
theorem dx_newT {as : List Addr} {H : Hp} {p : Addr} {vs : List V} {ds : List D} (R : Ro K as H os) (hp : H p = none) (r : DxA K as H vs ds) : Dx K as (upd H p (.tup vs)) (.ref p) (.tup ds) :=
  .tup (.inl ⟨R.notin hp, .inl upd_same⟩) (r.way (Way.of_go (Go.new hp)))
theorem dx_newL {as : List Addr} {H : Hp} {p : Addr} {vs : List V} {ds : List D} (R : Ro K as H os) (hp : H p = none) (r : DxA K as H vs ds) : Dx K as (upd H p (.lst vs)) (.ref p) (.lst ds) :=
  .lst (.inl ⟨R.notin hp, .inl upd_same⟩) (r.way (Way.of_go (Go.new hp)))
theorem cw_tupL {xs : List D} (q : Q (.d (.tup xs)) os) : CW K (rTupOf K) [.d (.lst xs)] os Q :=
  cw_new (fun as H vs Q' R r k1 k2 => by
    cases r with
    | cons h t =>
      cases t
      cases h with
      | lst hl hr => exact ⟨_, _, rfl, .inl ⟨hl.sq, fun l hl => k1 l _ hl (dx_newT R hl hr)⟩⟩) q
theorem cw_tupU {xs : List D} (q : Q (.d (.tup xs)) os) : CW K (rTupOf K) [.d (.tup xs)] os Q :=
  cw_new (fun as H vs Q' R r k1 k2 => by
    cases r with
    | cons h t =>
      cases t
      cases h with
      | tup hl hr => exact ⟨_, _, rfl, .inr ⟨hl.sq, k2 _ (.tup hl hr)⟩⟩) q
def rListOf (K : PySem.W.Frag) : List V → Hp → VK → Prop := fun xs H Q => ∃ p ys, xs = [.ref p] ∧ (SqL K H p ys ∨ SqT K H p ys) ∧ ∀ l, H l = none → Q (.ref l) (upd H l (.lst ys))
theorem cw_lstL {xs : List D} (q : Q (.d (.lst xs)) os) : CW K (rListOf K) [.d (.lst xs)] os Q :=
  cw_new (fun as H vs Q' R r k1 k2 => by
    cases r with
    | cons h t =>
      cases t
      cases h with
      | lst hl hr => exact ⟨_, _, rfl, .inl hl.sq, fun l hl => k1 l _ hl (dx_newL R hl hr)⟩) q
theorem cw_lstU {xs : List D} (q : Q (.d (.lst xs)) os) : CW K (rListOf K) [.d (.tup xs)] os Q :=
  cw_new (fun as H vs Q' R r k1 k2 => by
    cases r with
    | cons h t =>
      cases t
      cases h with
      | tup hl hr => exact ⟨_, _, rfl, .inr hl.sq, fun l hl => k1 l _ hl (dx_newL R hl hr)⟩) q
/-- abs, min, max, int -/
def rAbs : List V → Hp → VK → Prop := fun xs H Q => ∃ i, xs = [.int i] ∧ Q (.int (if i < 0 then -i else i)) H
theorem cw_abs {i : Int} (q : Q (.d (.int (if i < 0 then -i else i))) os) : CW K rAbs [.d (.int i)] os Q :=
  cw_pure (fun as H vs Q' R r k => by
    cases r with
    | cons h t =>
      cases t
      cases h
      exact ⟨i, rfl, k _ (.int _)⟩) q
def rMin2 : List V → Hp → VK → Prop := fun xs H Q => ∃ i j, xs = [.int i, .int j] ∧ Q (.int (if j < i then j else i)) H
theorem cw_min2 {i j : Int} (q : Q (.d (.int (if j < i then j else i))) os) : CW K rMin2 [.d (.int i), .d (.int j)] os Q :=
  cw_pure (fun as H vs Q' R r k => by
    cases r with
    | cons h t =>
      cases t with
      | cons h2 t =>
        cases t
        cases h
        cases h2
        exact ⟨i, j, rfl, k _ (.int _)⟩) q
def rInt1 : List V → Hp → VK → Prop := fun xs H Q => (∃ i, xs = [.int i] ∧ Q (.int i) H) ∨ ∃ k, xs = [.bl k] ∧ Q (.int (if k then 1 else 0)) H
theorem cw_intI {i : Int} (q : Q (.d (.int i)) os) : CW K rInt1 [.d (.int i)] os Q :=
  cw_pure (fun as H vs Q' R r k => by
    cases r with
    | cons h t =>
      cases t
      cases h
      exact .inl ⟨i, rfl, k _ (.int _)⟩) q
theorem cw_intB {b : Bool} (q : Q (.d (.int (if b then 1 else 0))) os) : CW K rInt1 [.d (.bl b)] os Q :=
  cw_pure (fun as H vs Q' R r k => by
    cases r with
    | cons h t =>
      cases t
      cases h
      exact .inr ⟨b, rfl, k _ (.int _)⟩) q
end
section
variable {X : Cx}
theorem op_addS : OpR X (binaryOp .Add) rCatS := op_add_str
theorem call_lenA : CallR X (.builtin "len") (rLen X.K) := call_len_seq
theorem call_lenS1 : CallR X (.builtin "len") rLenT := call_len_str
theorem call_tupA : CallR X (.type "tuple") (rTupOf X.K) := call_tuple_of
theorem call_lstA : CallR X (.type "list") (rListOf X.K) := call_list_of
theorem call_absA (hc : X.calm = true) : CallR X (.builtin "abs") rAbs := by first | exact call_abs | exact call_abs hc
theorem call_min2A (hc : X.calm = true) : CallR X (.builtin "min") rMin2 := call_min2 hc
theorem call_intA : CallR X (.type "int") rInt1 := call_int1
end

/-! ### displays, slices -/
section
variable {K : PySem.W.Frag} {X : Xc} {S : Sa} {Q : Sv → Os → Prop} {ta : TA} {te : TE} {tl th : TO}
inductive AllD : List Sv → List D → Prop
  | nil : AllD [] []
  | cons {x : D} {xs : List Sv} {ds : List D} : AllD xs ds → AllD (.d x :: xs) (x :: ds)
theorem AllD.dx {as : List Addr} {H : Hp} : ∀ {vs : List V} {xs : List Sv} {ds : List D}, AllD xs ds → SvA K as H vs xs → DxA K as H vs ds
  | _, _, _, .nil, .nil => .nil
  | _, _, _, .cons a, .cons h r => .cons h (AllD.dx a r)
theorem ew_lst (h : AW K X ta S fun xs os => ∃ ds, AllD xs ds ∧ ds.length ≤ sizeLine ∧ Q (.d (.lst ds)) os) : EW K X (tLst ta) S Q := fun as H σ Q' R x k =>
  h as H σ _ R x fun vs H1 xs os1 g1 R1 r1 ⟨ds, a, hl, q⟩ => ⟨by rw [(a.dx r1).length]; exact hl, fun p hp => k (.ref p) _ (.d (.lst ds)) os1 (g1.trans (Go.new hp)) (R1.new hp) (dx_newL R1 hp (a.dx r1)) q⟩
theorem ew_tup (h : AW K X ta S fun xs os => ∃ ds, AllD xs ds ∧ ds.length ≤ sizeLine ∧ Q (.d (.tup ds)) os) : EW K X (tTup ta) S Q := fun as H σ Q' R x k =>
  h as H σ _ R x fun vs H1 xs os1 g1 R1 r1 ⟨ds, a, hl, q⟩ => ⟨by rw [(a.dx r1).length]; exact hl, fun p hp => k (.ref p) _ (.d (.tup ds)) os1 (g1.trans (Go.new hp)) (R1.new hp) (dx_newT R1 hp (a.dx r1)) q⟩
theorem ow_none {Q : Option Int → Os → Prop} (q : Q none S.os) : OW K X tNoPart S Q := fun as H σ Q' R x k => k none H S.os (Go.refl _ _) R.o q
theorem ow_some {Q : Option Int → Os → Prop} (h : EW K X te S fun x os => ∃ i, x = .d (.int i) ∧ Q (some i) os) : OW K X (tPart te) S Q := fun as H σ Q' R x k =>
  h as H σ _ R x fun v H1 d os1 g1 R1 r1 ⟨i, e, q⟩ => by
    subst e
    cases r1
    exact ⟨i, rfl, k (some i) H1 os1 g1 R1 q⟩
def SW (K : PySem.W.Frag) (r : V → Option Int → Option Int → Hp → VK → Prop) (x : Sv) (lo hi : Option Int) (os : Os) (Q : Sv → Os → Prop) : Prop :=
  ∀ as H v (Q' : VK), Ro K as H os → SvR K as H v x → (∀ z H' d os', Go as H H' → Ro K as H' os' → SvR K as H' z d → Q d os' → Q' z H') → r v lo hi H Q'
theorem ew_sl {r : V → Option Int → Option Int → Hp → VK → Prop} (h : EW K X te S fun x os1 => OW K X tl ⟨S.s, os1⟩ fun lo os2 => OW K X th ⟨S.s, os2⟩ fun hi os3 => SW K r x lo hi os3 Q) : EW K X (tSl r te tl th) S Q := fun as H σ Q' R x k =>
  h as H σ _ R x fun v H1 d os1 g1 R1 r1 q1 => q1 as H1 σ _ (R.go g1 R1) (x.go g1 R1) fun lo H2 os2 g2 R2 q2 => q2 as H2 σ _ (R.go (g1.trans g2) R2) (x.go (g1.trans g2) R2) fun hi H3 os3 g3 R3 q3 =>
    q3 as H3 v Q' R3 (r1.go (g2.trans g3)) fun z H4 e os4 g4 R4 r4 q4 => k z H4 e os4 (((g1.trans g2).trans g3).trans g4) R4 r4 q4
theorem sw_S {z : Str} {lo hi : Option Int} {os : Os} (hz : z.length ≤ sizeLine) (q : Q (.d (.str (cutS z lo hi))) os) : SW K rSlS (.d (.str z)) lo hi os Q := fun as H v Q' R r k => by
  cases r
  exact ⟨z, rfl, hz, k _ H (.d (.str _)) os (Go.refl _ _) R (Dx.str _) q⟩
def cutD (xs : List D) (lo hi : Option Int) : List D := (xs.drop (HT.sIx xs.length 0 lo)).take (HT.sIx xs.length xs.length hi - HT.sIx xs.length 0 lo)
theorem cut_dx {as : List Addr} {H : Hp} {vs : List V} {ds : List D} (r : DxA K as H vs ds) (lo hi : Option Int) : DxA K as H (cutV vs lo hi) (cutD ds lo hi) := by
  unfold cutV cutD
  rw [r.length]
  exact (r.drop _).take _
theorem sw_L {xs : List D} {lo hi : Option Int} {os : Os} (q : Q (.d (.lst (cutD xs lo hi))) os) : SW K (rSlL K) (.d (.lst xs)) lo hi os Q := fun as H v Q' R r k => by
  cases r with
  | lst hl hr => exact ⟨_, _, rfl, hl.sq, fun p hp => k _ _ (.d (.lst _)) os (Go.new hp) (R.new hp) (dx_newL R hp (cut_dx hr lo hi)) q⟩
end
end Br

/-! BrC: what is walked, targets, loops, comprehensions, the store's dicts and lists. -/
namespace Br
open PySem L2

/-! ### what is walked -/
/-- J walks over ds, whatever comes later -/
def ItD (K : PySem.W.Frag) (J : It) (as : List Addr) (H : Hp) (ds : List D) : Prop :=
  ∀ bs H2 os, Stp as H bs H2 → Ro K bs H2 os → ∀ i, (∀ d, ds[i]? = some d → J.go i H2 ∧ ∀ x H3, J.yld i H2 x H3 → Go bs H2 H3 ∧ Ro K bs H3 os ∧ Dx K bs H3 x d) ∧ (ds.length ≤ i → J.stop i H2)
def IW (K : PySem.W.Frag) (X : Xc) (wi : TI) (S : Sa) (Q : List D → Os → Prop) : Prop :=
  ∀ as H σ (R' : It → Hp → Prop), Re K as H σ S → XH K X as H σ S.s → (∀ J H' ds os', Go as H H' → Ro K as H' os' → ItD K J as H' ds → Q ds os' → R' J H') → wi σ H R'
section
variable {K : PySem.W.Frag} {X : Xc} {S : Sa} {tl : TE} {ta : TA} {Q : List D → Os → Prop}
theorem iw_list (h : EW K X tl S fun x os => ∃ ds, x = .d (.lst ds) ∧ Q ds os) : IW K X (iList K tl) S Q := fun as H σ R' R x k =>
  h as H σ _ R x fun v H1 d os1 g1 R1 r1 ⟨ds, e, q⟩ => by
    subst e
    cases r1 with
    | @lst a xs _ hl hr =>
      refine ⟨a, rfl, ⟨xs, hl.sq⟩, k (Itl K a) H1 ds os1 g1 R1 (fun bs H2 os s R2 i => ?_) q⟩
      have hl2 := s.way.l _ _ hl
      have hr2 := hr.way s.way
      refine ⟨fun d hd => ?_, fun hn => ⟨xs, hl2.sq, by rw [hr.length]; exact hn⟩⟩
      obtain ⟨u, e1, e2⟩ := hr2.get hd
      refine ⟨⟨xs, u, hl2.sq, e1⟩, fun y H3 hy => ?_⟩
      obtain ⟨rfl, hy⟩ := hy
      have z := hy xs hl2.sq
      rw [e1] at z
      cases z
      exact ⟨Go.refl _ _, R2, e2⟩
theorem iw_tup (h : EW K X tl S fun x os => ∃ ds, x = .d (.tup ds) ∧ Q ds os) : IW K X (iTup K tl) S Q := fun as H σ R' R x k =>
  h as H σ _ R x fun v H1 d os1 g1 R1 r1 ⟨ds, e, q⟩ => by
    subst e
    cases r1 with
    | @tup a xs _ hl hr =>
      refine ⟨a, rfl, ⟨xs, hl.sq⟩, k (Itt K a) H1 ds os1 g1 R1 (fun bs H2 os s R2 i => ?_) q⟩
      have hl2 := s.way.t _ _ hl
      have hr2 := hr.way s.way
      refine ⟨fun d hd => ?_, fun hn => ⟨xs, hl2.sq, by rw [hr.length]; exact hn⟩⟩
      obtain ⟨u, e1, e2⟩ := hr2.get hd
      refine ⟨⟨xs, u, hl2.sq, e1⟩, fun y H3 hy => ?_⟩
      obtain ⟨rfl, hy⟩ := hy
      have z := hy xs hl2.sq
      rw [e1] at z
      cases z
      exact ⟨Go.refl _ _, R2, e2⟩
/-- lo, lo + c, .. -/
def rngD (lo c : Int) (n : Nat) : List D := (List.range n).map fun i => D.int (lo + (i : Nat) * c)
theorem rngD_get {lo c : Int} {n i : Nat} {d : D} (h : (rngD lo c n)[i]? = some d) : i < n ∧ d = .int (lo + (i : Nat) * c) := by
  unfold rngD at h
  rw [List.getElem?_map] at h
  obtain ⟨j, h1, h2⟩ := Option.map_eq_some_iff.mp h
  obtain ⟨h3, h4⟩ := List.getElem?_eq_some_iff.mp h1
  rw [List.getElem_range] at h4
  rw [List.length_range] at h3
  subst h4
  exact ⟨h3, h2.symm⟩
theorem rngD_len {lo c : Int} {n : Nat} : (rngD lo c n).length = n := by unfold rngD; simp
theorem iw_rng1 (h : AW K X ta S fun xs os => ∃ j : Int, xs = [.d (.int j)] ∧ -(2 ^ 62) ≤ j ∧ j < 2 ^ 62 ∧ Q (rngD 0 1 j.toNat) os) : IW K X (iRng1 ta) S Q := fun as H σ R' R x k =>
  h as H σ _ R x fun vs H1 ds os1 g1 R1 r1 ⟨j, e, h1, h2, q⟩ => by
    subst e
    cases r1 with
    | cons r1 rn =>
      cases rn
      cases r1
      refine ⟨j, rfl, h1, h2, k _ H1 _ os1 g1 R1 (fun bs H2 os s R2 i => ⟨fun d hd => ?_, fun hn => ?_⟩) q⟩
      · obtain ⟨hi, rfl⟩ := rngD_get hd
        refine ⟨hi, fun y H3 hy => ?_⟩
        obtain ⟨rfl, rfl⟩ := hy
        refine ⟨Go.refl _ _, R2, ?_⟩
        rw [Int.mul_one]
        exact .int _
      · rw [rngD_len] at hn
        exact hn
theorem iw_rng2 (h : AW K X ta S fun xs os => ∃ i j : Int, xs = [.d (.int i), .d (.int j)] ∧ (-(2 ^ 62) ≤ i ∧ i < 2 ^ 62 ∧ -(2 ^ 62) ≤ j ∧ j < 2 ^ 62) ∧ Q (rngD i 1 (j - i).toNat) os) : IW K X (iRng2 ta) S Q := fun as H σ R' R x k =>
  h as H σ _ R x fun vs H1 ds os1 g1 R1 r1 ⟨i0, j, e, h1, q⟩ => by
    subst e
    cases r1 with
    | cons r1 rn =>
      cases rn with
      | cons r2 rn =>
        cases rn
        cases r1
        cases r2
        refine ⟨i0, j, rfl, h1, k _ H1 _ os1 g1 R1 (fun bs H2 os s R2 i => ⟨fun d hd => ?_, fun hn => ?_⟩) q⟩
        · obtain ⟨hi, rfl⟩ := rngD_get hd
          refine ⟨hi, fun y H3 hy => ?_⟩
          obtain ⟨rfl, rfl⟩ := hy
          refine ⟨Go.refl _ _, R2, ?_⟩
          rw [Int.mul_one]
          exact .int _
        · rw [rngD_len] at hn
          exact hn
theorem iw_rng3 (h : AW K X ta S fun xs os => ∃ (i j c : Int) (n : Nat), xs = [.d (.int i), .d (.int j), .d (.int c)] ∧ RgC i j c n ∧ Q (rngD i c n) os) : IW K X (iRng3 ta) S Q := fun as H σ R' R x k =>
  h as H σ _ R x fun vs H1 ds os1 g1 R1 r1 ⟨i0, j, c, n, e, h1, q⟩ => by
    subst e
    cases r1 with
    | cons r1 rn =>
      cases rn with
      | cons r2 rn =>
        cases rn with
        | cons r3 rn =>
          cases rn
          cases r1
          cases r2
          cases r3
          refine ⟨i0, j, c, n, rfl, h1, k _ H1 _ os1 g1 R1 (fun bs H2 os s R2 i => ⟨fun d hd => ?_, fun hn => ?_⟩) q⟩
          · obtain ⟨hi, rfl⟩ := rngD_get hd
            refine ⟨hi, fun y H3 hy => ?_⟩
            obtain ⟨rfl, rfl⟩ := hy
            exact ⟨Go.refl _ _, R2, .int _⟩
          · rw [rngD_len] at hn
            exact hn
theorem iw_str (h : EW K X tl S fun x os => ∃ z : Str, x = .d (.str z) ∧ Q (z.cps.toList.map fun c => D.str ⟨#[c]⟩) os) : IW K X (iStr tl) S Q := fun as H σ R' R x k =>
  h as H σ _ R x fun v H1 d os1 g1 R1 r1 ⟨z, e, q⟩ => by
    subst e
    cases r1
    refine ⟨z, rfl, k (Its z) H1 _ os1 g1 R1 (fun bs H2 os s R2 i => ⟨fun d hd => ?_, fun hn => ?_⟩) q⟩
    · rw [List.getElem?_map] at hd
      obtain ⟨c, h1, h2⟩ := Option.map_eq_some_iff.mp hd
      have h1' : z.cps[i]? = some c := by rw [← Array.getElem?_toList]; exact h1
      have hi : i < z.cps.size := (Array.getElem?_eq_some_iff.mp h1').1
      refine ⟨hi, fun y H3 hy => ?_⟩
      obtain ⟨rfl, c', e1, rfl⟩ := hy
      rw [h1'] at e1
      cases e1
      subst h2
      exact ⟨Go.refl _ _, R2, .str _⟩
    · rw [List.length_map, Array.length_toList] at hn
      exact hn
end

/-! ### targets -/
def GW (K : PySem.W.Frag) (g : TG) (d : Sv) (S : Sa) (Q : Sa → Prop) : Prop :=
  ∀ as H σ v (Q' : St → Hp → Prop), Re K as H σ S → SvR K as H v d → (∀ σ' S', Re K as H σ' S' → Q S' → Q' σ' H) → g v σ H Q'
def GsW (K : PySem.W.Frag) (g : TGs) (ds : List D) (S : Sa) (Q : Sa → Prop) : Prop :=
  ∀ as H σ vs (Q' : St → Hp → Prop), Re K as H σ S → DxA K as H vs ds → (∀ σ' S', Re K as H σ' S' → Q S' → Q' σ' H) → g vs σ H Q'
section
variable {K : PySem.W.Frag} {X : Xc} {S : Sa} {Q : Sa → Prop} {g : TG} {gs : TGs}
theorem gw_name {j : Nat} {d : Sv} (q : Q ⟨S.s.set j (some d), S.os⟩) : GW K (gName j) d S Q := fun as H σ v Q' R r k => k _ _ (R.set j r) q
theorem gw_tup {n : Nat} {xs : List D} (hn : xs.length = n) (h : GsW K gs xs S Q) : GW K (gTup K n gs) (.d (.tup xs)) S Q := fun as H σ v Q' R r k => by
  cases r with
  | tup hl hr => exact ⟨_, _, rfl, hl.sq, by rw [hr.length]; exact hn, h as H σ _ Q' R hr k⟩
theorem gs_nil (q : Q S) : GsW K gNil [] S Q := fun as H σ vs Q' R r k => by
  cases r
  exact ⟨rfl, k σ S R q⟩
theorem gs_cons {d : D} {ds : List D} (h : GW K g (.d d) S fun S' => GsW K gs ds S' Q) : GsW K (gCons g gs) (d :: ds) S Q := fun as H σ vs Q' R r k => by
  cases r with
  | cons r1 r2 => exact ⟨_, _, rfl, h as H σ _ _ R r1 fun σ' S' R' q => q as H σ' _ Q' R' r2 k⟩
/-- x, y = e -/
theorem w_asgG {te : TE} {E : Ea} (h : EW K X te S fun d os => GW K g d ⟨S.s, os⟩ E.nx) : W K X (tAsg te g) E S := fun as H σ D R x n r b c =>
  h as H σ _ R (x.h R) fun v H1 d os1 g1 R1 r1 q1 => q1 as H1 σ v _ (R.go g1 R1) r1 fun σ' S' R' q => n as H1 σ' S' (Stp.of_go g1 R1) R' q
theorem w_par {i j : Nat} {ta : TA} {E : Ea} (h : AW K X ta S fun ds os => ∃ x y, ds = [x, y] ∧ E.nx ⟨(S.s.set i (some x)).set j (some y), os⟩) : W K X (tPar i j ta) E S := fun as H σ D R x n r b c =>
  h as H σ _ R (x.h R) fun vs H1 ds os1 g1 R1 r1 ⟨y, z, e, q⟩ => by
    subst e
    cases r1 with
    | cons r1 rn =>
      cases rn with
      | cons r2 rn =>
        cases rn
        exact ⟨_, _, rfl, n as H1 _ _ (Stp.of_go g1 R1) (((R.go g1 R1).set i r1).set j r2) q⟩
end

/-! ### for -/
section
variable {K : PySem.W.Frag} {X : Xc} {S : Sa} {E : Ea} {wi : TI} {g : TG} {tb : TS}
theorem w_for (h : IW K X wi S fun ds os => ∃ Pv : Nat → Sa → Prop, Pv 0 ⟨S.s, os⟩ ∧
      (∀ i d S', ds[i]? = some d → Pv i S' → GW K g (.d d) S' (W K X tb { nx := Pv (i + 1), ct := Pv (i + 1), bk := E.nx, rt := E.rt })) ∧ ∀ S', Pv ds.length S' → E.nx S') : W K X (tFor wi g tb) E S := fun as H σ D R x n r b c =>
  h as H σ _ R (x.h R) fun J H1 ds os1 g1 R1 it ⟨Pv, p0, turn, fin⟩ => by
    have s1 : Stp as H as H1 := Stp.of_go g1 R1
    refine ⟨fun i m σ H2 => m = ds.length - i ∧ i ≤ ds.length ∧ ∃ bs S', Stp as H1 bs H2 ∧ Re K bs H2 σ S' ∧ Pv i S', ⟨_, rfl, Nat.zero_le _, as, _, Stp.refl, R.go g1 R1, p0⟩, ?_⟩
    rintro i m σ2 H2 ⟨rfl, hi, bs, S2, s2, R2, p⟩
    by_cases hlt : i < ds.length
    · have hd : ds[i]? = some ds[i] := List.getElem?_eq_getElem hlt
      obtain ⟨hgo, hy⟩ := (it bs H2 S2.os s2 R2.o i).1 _ hd
      refine .inr ⟨hgo, fun σ' H' => ∃ cs S', Stp as H1 cs H' ∧ Re K cs H' σ' S' ∧ Pv (i + 1) S', fun σ' H' z => ⟨ds.length - (i + 1), by omega, rfl, hlt, z⟩, fun y H3 hyl => ?_⟩
      obtain ⟨g3, R3, r3⟩ := hy y H3 hyl
      have s3 : Stp bs H2 bs H3 := Stp.of_go g3 R3
      refine turn i _ S2 hd p bs H3 σ2 y _ (R2.go g3 R3) r3 fun σ4 S4 R4 w => ?_
      refine w bs H3 σ4 _ R4 ((x.stp s1).stp (s2.trans s3)) (fun cs H5 σ5 S5 s5 R5 q5 => ⟨cs, S5, (s2.trans s3).trans s5, R5, q5⟩) (fun cs H5 v d os5 s5 R5 r5 q5 => r cs H5 v d os5 (((s1.trans s2).trans s3).trans s5) R5 r5 q5)
        (fun cs H5 σ5 S5 s5 R5 q5 => n cs H5 σ5 S5 (((s1.trans s2).trans s3).trans s5) R5 q5) (fun cs H5 σ5 S5 s5 R5 q5 => ⟨cs, S5, (s2.trans s3).trans s5, R5, q5⟩)
    · have e : i = ds.length := by omega
      subst e
      exact .inl ⟨(it bs H2 S2.os s2 R2.o _).2 (Nat.le_refl _), n bs H2 σ2 S2 (s1.trans s2) R2 (fin S2 p)⟩
/-- while, by a word that falls -/
theorem w_while {tc : TT} (Pv : Nat → Sa → Prop) (m0 : Nat) (p0 : Pv m0 S)
    (turn : ∀ m S', Pv m S' → TW K X tc S' fun b os => if b = true then W K X tb { nx := fun S2 => ∃ m', m' < m ∧ Pv m' S2, ct := fun S2 => ∃ m', m' < m ∧ Pv m' S2, bk := E.nx, rt := E.rt } ⟨S'.s, os⟩ else E.nx ⟨S'.s, os⟩) : W K X (tWhile tc tb) E S := fun as H σ D R x n r b c => by
  refine ⟨fun m σ H2 => ∃ bs S', Stp as H bs H2 ∧ Re K bs H2 σ S' ∧ Pv m S', ⟨m0, as, S, Stp.refl, R, p0⟩, ?_⟩
  rintro m σ2 H2 ⟨bs, S2, s2, R2, p⟩
  refine turn m S2 p bs H2 σ2 _ R2 ((x.stp s2).h R2) fun y H3 os3 g3 R3 q => ?_
  have s3 : Stp bs H2 bs H3 := Stp.of_go g3 R3
  cases y with
  | false =>
    show D.nx σ2 H3
    exact n bs H3 σ2 _ (s2.trans s3) (R2.go g3 R3) q
  | true =>
    show ∃ N : St → Hp → Prop, _
    refine ⟨fun σ' H' => ∃ m', m' < m ∧ ∃ cs S', Stp as H cs H' ∧ Re K cs H' σ' S' ∧ Pv m' S', fun σ' H' ⟨m', l, z⟩ => ⟨m', l, z⟩, ?_⟩
    refine (show W K X tb _ _ from q) bs H3 σ2 _ (R2.go g3 R3) (x.stp (s2.trans s3)) (fun cs H5 σ5 S5 s5 R5 ⟨m', l, q5⟩ => ⟨m', l, cs, S5, (s2.trans s3).trans s5, R5, q5⟩) (fun cs H5 v d os5 s5 R5 r5 q5 => r cs H5 v d os5 ((s2.trans s3).trans s5) R5 r5 q5)
      (fun cs H5 σ5 S5 s5 R5 q5 => n cs H5 σ5 S5 ((s2.trans s3).trans s5) R5 q5) (fun cs H5 σ5 S5 s5 R5 ⟨m', l, q5⟩ => ⟨m', l, cs, S5, (s2.trans s3).trans s5, R5, q5⟩)
end

/-! ### comprehensions -/
def wipeS (s : Sl) : List Nat → Sl
  | [] => s
  | v :: vs => (wipeS s vs).set v none
section
variable {K : PySem.W.Frag} {X : Xc} {S : Sa} {Q : Sv → Os → Prop} {wi : TI} {g : TG} {tt : TT} {te : TE}
theorem wipe_in {σ : St} {i : Nat} : ∀ {vs : List Nat}, i ∈ vs → (wipe σ vs)[i]? = if i < σ.length then some none else none
  | [], h => nomatch h
  | v :: vs, h => by
    show ((wipe σ vs).set v none)[i]? = _
    by_cases hv : v = i
    · subst hv
      rw [List.getElem?_set, wipe_length]
      simp
    · rw [List.getElem?_set_ne hv]
      rcases List.mem_cons.mp h with e | h
      · exact absurd e.symm hv
      · exact wipe_in h
theorem wipe_out1 {σ : St} {i : Nat} : ∀ {vs : List Nat}, i ∉ vs → (wipe σ vs)[i]? = σ[i]?
  | [], _ => rfl
  | v :: vs, h => by
    have h1 : v ≠ i := fun e => h (by rw [e]; exact List.mem_cons_self)
    show ((wipe σ vs).set v none)[i]? = _
    rw [List.getElem?_set_ne h1]
    exact wipe_out1 fun z => h (List.mem_cons_of_mem _ z)
theorem wipe_ext {σ τ : St} {vs : List Nat} (hl : τ.length = σ.length) (h : ∀ i, i ∉ vs → τ[i]? = σ[i]?) : wipe τ vs = wipe σ vs := by
  refine List.ext_getElem? fun i => ?_
  by_cases hi : i ∈ vs
  · rw [wipe_in hi, wipe_in hi, hl]
  · rw [wipe_out1 hi, wipe_out1 hi, h i hi]
theorem re_wipe {as : List Addr} {H : Hp} {σ : St} {s : Sl} {os : Os} : ∀ {vs : List Nat}, Re K as H σ ⟨s, os⟩ → Re K as H (wipe σ vs) ⟨wipeS s vs, os⟩
  | [], R => R
  | v :: vs, R => by
    have ih := re_wipe (vs := vs) R
    refine ⟨R.o, by show ((wipe σ vs).set v none).length = ((wipeS s vs).set v none).length; simpa using ih.slen, fun i d h => ?_⟩
    have h' : ((wipeS s vs).set v none)[i]? = some (some d) := h
    by_cases hv : v = i
    · subst hv
      by_cases hl : v < (wipeS s vs).length
      · rw [List.getElem?_set_self hl] at h'
        cases h'
      · rw [List.getElem?_eq_none (by simpa using hl)] at h'
        cases h'
    · rw [List.getElem?_set_ne hv] at h'
      obtain ⟨u, e, r⟩ := ih.slot i d h'
      exact ⟨u, by show ((wipe σ vs).set v none)[i]? = _; rw [List.getElem?_set_ne hv]; exact e, r⟩
/-- a target that stores at vs alone -/
def Wg (g : TG) (vs : List Nat) : Prop := ∀ v σ H Q, g v σ H Q → g v σ H fun σ2 H2 => Q σ2 H2 ∧ σ2.length = σ.length ∧ ∀ i, i ∉ vs → σ2[i]? = σ[i]?
def Wgs (g : TGs) (vs : List Nat) : Prop := ∀ v σ H Q, g v σ H Q → g v σ H fun σ2 H2 => Q σ2 H2 ∧ σ2.length = σ.length ∧ ∀ i, i ∉ vs → σ2[i]? = σ[i]?
theorem wg_name {j : Nat} {vs : List Nat} (h : j ∈ vs) : Wg (gName j) vs := fun v σ H Q q => ⟨q, by simp, fun i hi => List.getElem?_set_ne fun (e : j = i) => hi (e ▸ h)⟩
theorem wgs_nil {vs : List Nat} : Wgs gNil vs := fun v σ H Q q => ⟨q.1, q.2, rfl, fun _ _ => rfl⟩
/-- what follows may be widened -/
def Mg (g : TG) : Prop := ∀ v σ H (Q Q' : St → Hp → Prop), (∀ σ H, Q σ H → Q' σ H) → g v σ H Q → g v σ H Q'
def Mgs (g : TGs) : Prop := ∀ v σ H (Q Q' : St → Hp → Prop), (∀ σ H, Q σ H → Q' σ H) → g v σ H Q → g v σ H Q'
theorem mg_name {j : Nat} : Mg (gName j) := fun v σ H Q Q' k q => k _ _ q
theorem mgs_nil : Mgs gNil := fun v σ H Q Q' k q => ⟨q.1, k _ _ q.2⟩
theorem mgs_cons {g : TG} {gs : TGs} (a : Mg g) (b : Mgs gs) : Mgs (gCons g gs) := fun v σ H Q Q' k ⟨x, r, e, q⟩ => ⟨x, r, e, a _ _ _ _ _ (fun σ2 H2 z => b _ _ _ _ _ k z) q⟩
theorem mg_tup {n : Nat} {gs : TGs} (b : Mgs gs) : Mg (gTup K n gs) := fun v σ H Q Q' k ⟨a, xs, e1, e2, e3, q⟩ => ⟨a, xs, e1, e2, e3, b _ _ _ _ _ k q⟩
theorem wgs_cons {g : TG} {gs : TGs} {vs : List Nat} (m : Mg g) (mb : Mgs gs) (a : Wg g vs) (b : Wgs gs vs) : Wgs (gCons g gs) vs := fun v σ H Q ⟨x, r, e, q⟩ =>
  ⟨x, r, e, m _ _ _ _ _ (fun σ2 H2 ⟨z, l, o⟩ => mb _ _ _ _ _ (fun σ3 H3 ⟨y, l2, o2⟩ => ⟨y, l2.trans l, fun i hi => (o2 i hi).trans (o i hi)⟩) (b _ _ _ _ z)) (a _ _ _ _ q)⟩
theorem wg_tup {n : Nat} {gs : TGs} {vs : List Nat} (b : Wgs gs vs) : Wg (gTup K n gs) vs := fun v σ H Q ⟨a, xs, e1, e2, e3, q⟩ => ⟨a, xs, e1, e2, e3, b _ _ _ _ q⟩
theorem ro_add {as : List Addr} {H : Hp} {os : Os} {p : Addr} (R : Ro K as H os) (hp : H p = none) : Ro K (as ++ [p]) (upd H p (.lst [])) (os ++ [.ml []]) := by
  have R' := R.new (o := .lst []) hp
  refine ⟨?_, by simp [R.len], fun k a ob h1 h2 => ?_⟩
  · refine List.nodup_append.mpr ⟨R.nd, List.nodup_cons.mpr ⟨by simp, List.nodup_nil⟩, fun a ha b hb e => ?_⟩
    rw [List.mem_singleton.mp hb] at e
    exact R.notin hp (e ▸ ha)
  · by_cases hk : k < as.length
    · rw [List.getElem?_append_left hk] at h1
      rw [List.getElem?_append_left (by rw [← R.len]; exact hk)] at h2
      refine (R.own k a ob h1 h2).way ?_ fun u e => ?_
      · have w1 : Way K as (as ++ [p]) H H := Way.of_add hp
        have w2 : Way K (as ++ [p]) (as ++ [p]) H (upd H p (.lst [])) := Way.of_go (Go.at (by simp))
        exact ⟨fun a xs z => w2.l _ _ (w1.l _ _ z), fun a xs z => w2.t _ _ (w1.t _ _ z), fun a u n z => let ⟨n1, z1⟩ := w1.r _ _ n z; w2.r _ _ n1 z1, fun a u n z => let ⟨n1, z1⟩ := w1.o _ _ n z; w2.o _ _ n1 z1⟩
      · rw [upd_ne (ne_of_none e hp)]
        exact e
    · have hk2 : k = as.length := by
        have := (List.getElem?_eq_some_iff.mp h1).1
        rw [List.length_append] at this
        simp at this
        omega
      subst hk2
      rw [List.getElem?_append_right (Nat.le_refl _)] at h1
      rw [R.len, List.getElem?_append_right (Nat.le_refl _)] at h2
      simp at h1 h2
      subst h1
      subst h2
      exact ⟨[], upd_same, .nil⟩
theorem ro_drop {as : List Addr} {H : Hp} {os : Os} {p : Addr} {ob : Ob} (R : Ro K (as ++ [p]) H (os ++ [ob])) : Ro K as H os ∧ ObR K as H p ob ∧ p ∉ as := by
  have hl : as.length = os.length := by
    have := R.len
    simpa using this
  have sub : ∀ x ∈ as, x ∈ as ++ [p] := fun x h => List.mem_append_left _ h
  have hnd := List.nodup_append.mp R.nd
  refine ⟨⟨hnd.1, hl, fun k a ob h1 h2 => ?_⟩, ?_, fun z => hnd.2.2 p z p (by simp) rfl⟩
  · have hk := (List.getElem?_eq_some_iff.mp h1).1
    exact (R.own k a ob (by rw [List.getElem?_append_left hk]; exact h1) (by rw [List.getElem?_append_left (by omega)]; exact h2)).way (Way.of_sub sub) fun _ e => e
  · refine (R.own as.length p ob (by simp) (by rw [hl]; simp)).way (Way.of_sub sub) fun _ e => e
/-- the store's last list has grown -/
theorem ro_grow {as : List Addr} {H : Hp} {os : Os} {p : Addr} {vs : List V} {xs : List D} {v : V} {d : D} (R : Ro K (as ++ [p]) H (os ++ [.ml xs])) (e : H p = some (.lst vs)) (r : Dx K (as ++ [p]) H v d) :
    Ro K (as ++ [p]) (upd H p (.lst (vs ++ [v]))) (os ++ [.ml (xs ++ [d])]) := by
  have g : Go (as ++ [p]) H (upd H p (.lst (vs ++ [v]))) := Go.at (by simp)
  have hl : as.length = os.length := by
    have := R.len
    simpa using this
  have hnd := List.nodup_append.mp R.nd
  refine ⟨R.nd, by simp [hl], fun k a ob h1 h2 => ?_⟩
  by_cases hk : k < as.length
  · have h1' := h1
    rw [List.getElem?_append_left hk] at h1
    rw [List.getElem?_append_left (by omega)] at h2
    refine (R.own k a ob h1' (by rw [List.getElem?_append_left (by omega)]; exact h2)).way (Way.of_go g) fun u q => ?_
    have hne : a ≠ p := fun z => hnd.2.2 a (List.mem_of_getElem? h1) p (by simp) z
    rw [upd_ne hne]
    exact q
  · have hk2 : k = as.length := by
      have := (List.getElem?_eq_some_iff.mp h1).1
      rw [List.length_append] at this
      simp at this
      omega
    subst hk2
    rw [List.getElem?_append_right (Nat.le_refl _)] at h1
    rw [hl, List.getElem?_append_right (Nat.le_refl _)] at h2
    simp at h1 h2
    subst h1
    subst h2
    obtain ⟨ws, e2, r2⟩ := (ro_drop R).2.1
    rw [e] at e2
    cases e2
    have hown := R.own as.length p (.ml xs) (by simp) (by rw [hl]; simp)
    obtain ⟨ws, e3, r3⟩ := hown
    rw [e] at e3
    cases e3
    exact ⟨_, upd_same, DxA.app (r3.way (Way.of_go g)) (.cons (r.way (Way.of_go g)) .nil)⟩
theorem ew_lc {vs : List Nat} (hg : Wg g vs) (hm : Mg g) (h : IW K X wi S fun ds os => ∃ Pv : Nat → List D → Os → Prop, Pv 0 [] os ∧
      (∀ i d acc os', ds[i]? = some d → Pv i acc os' → GW K g (.d d) ⟨wipeS S.s vs, os' ++ [.ml acc]⟩ fun S2 => TW K X0 tt S2 fun b os2 =>
        if b = true then EW K X0 te ⟨S2.s, os2⟩ fun y os3 => ∃ z os4, y = .d z ∧ os3 = os4 ++ [.ml acc] ∧ acc.length < sizeLine ∧ Pv (i + 1) (acc ++ [z]) os4 else ∃ os4, os2 = os4 ++ [.ml acc] ∧ Pv (i + 1) acc os4) ∧
      ∀ acc os', Pv ds.length acc os' → Q (.d (.lst acc)) os') : EW K X (tLc wi g tt te vs) S Q := fun as H σ Q' R x k =>
  h as H σ _ R x fun J H1 ds os1 g1 R1 it ⟨Pv, p0, turn, fin⟩ Dl hD => by
    have R1' := R.go g1 R1
    refine ⟨fun i m H2 => m = ds.length - i ∧ i ≤ ds.length ∧ ∃ acc os2, Stp as H1 (as ++ [Dl]) H2 ∧ Re K (as ++ [Dl]) H2 σ ⟨S.s, os2 ++ [.ml acc]⟩ ∧ Pv i acc os2, ⟨_, rfl, Nat.zero_le _, [], os1, ?_, ?_, p0⟩, ?_⟩
    · exact ⟨⟨[Dl], rfl, fun a ha => by rw [List.mem_singleton.mp ha]; exact hD⟩, Go.new hD, fun a ha => by
        by_cases e : a = Dl
        · rw [e]
          exact hD
        · rw [upd_ne e] at ha
          exact ha⟩
    · refine ⟨ro_add R1 hD, R1'.slen, fun i d hd => ?_⟩
      obtain ⟨u, e, r⟩ := R1'.slot i d hd
      refine ⟨u, e, ?_⟩
      have r2 := r.wayA hD
      exact r2.go (Go.at (by simp))
    rintro i m H2 ⟨rfl, hi, acc, os2, s2, R2, p⟩
    by_cases hlt : i < ds.length
    · have hd : ds[i]? = some ds[i] := List.getElem?_eq_getElem hlt
      obtain ⟨hgo, hy⟩ := (it _ H2 _ s2 R2.o i).1 _ hd
      refine .inr ⟨hgo, fun H' => ∃ acc os3, Stp as H1 (as ++ [Dl]) H' ∧ Re K (as ++ [Dl]) H' σ ⟨S.s, os3 ++ [.ml acc]⟩ ∧ Pv (i + 1) acc os3, fun H' z => ⟨ds.length - (i + 1), by omega, rfl, hlt, z⟩, fun y H3 hyl => ?_⟩
      obtain ⟨g3, R3, r3⟩ := hy y H3 hyl
      have R3' := R2.go g3 R3
      have s3 : Stp as H1 (as ++ [Dl]) H3 := s2.trans (Stp.of_go g3 R3)
      have base := turn i _ acc os2 hd p (as ++ [Dl]) H3 (wipe σ vs) y (fun σ2 H4 => H4 = H3 ∧ ∃ S2, Re K (as ++ [Dl]) H3 σ2 S2 ∧ TW K X0 tt S2 fun b os2 =>
        if b = true then EW K X0 te ⟨S2.s, os2⟩ fun y os3 => ∃ z os4, y = .d z ∧ os3 = os4 ++ [.ml acc] ∧ acc.length < sizeLine ∧ Pv (i + 1) (acc ++ [z]) os4 else ∃ os4, os2 = os4 ++ [.ml acc] ∧ Pv (i + 1) acc os4) (re_wipe R3') r3 fun σ2 S2 R4 q => ⟨rfl, S2, R4, q⟩
      refine hm _ _ _ _ _ ?_ (hg _ _ _ _ base)
      rintro σ2 H4 ⟨⟨rfl, S2, R4, tw⟩, hl, ho⟩
      refine ⟨(wipe_ext hl fun i hi => ho i hi).trans (wipe_ext (wipe_length σ vs) fun i hi => wipe_out1 hi), ?_⟩
      refine tw _ H4 σ2 _ R4 XH.x0 fun b H5 os5 g5 R5 q5 => ?_
      have s5 := s3.trans (Stp.of_go g5 R5)
      cases b with
      | false =>
        obtain ⟨os4, rfl, q6⟩ := (show ∃ os4, os5 = os4 ++ [.ml acc] ∧ Pv (i + 1) acc os4 from q5)
        show ∃ acc os3, _
        exact ⟨acc, os4, s5, R3'.go g5 R5, q6⟩
      | true =>
        show te σ2 H5 _
        refine (show EW K X0 te ⟨S2.s, os5⟩ _ from q5) _ H5 σ2 _ (R4.go g5 R5) XH.x0 fun u H6 e os6 g6 R6 r6 ⟨z, os7, ez, eo, hz, q7⟩ => ?_
        subst ez
        subst eo
        obtain ⟨ws, ew, rw'⟩ := (ro_drop R6).2.1
        refine ⟨ws, ew, by rw [rw'.length]; exact hz, acc ++ [z], os7, ?_, ?_, q7⟩
        · exact (s5.trans (Stp.of_go g6 R6)).trans (Stp.of_go (Go.at (by simp)) (ro_grow R6 ew r6))
        · exact (R3'.go (g5.trans g6) R6).go (Go.at (by simp)) (ro_grow R6 ew r6)
    · have e : i = ds.length := by omega
      subst e
      obtain ⟨Rd, ob, nin⟩ := ro_drop R2.o
      obtain ⟨ws, ew, rw'⟩ := ob
      exact .inl ⟨(it _ H2 _ s2 R2.o _).2 (Nat.le_refl _), k (.ref Dl) H2 (.d (.lst acc)) os2 (g1.trans s2.go) Rd (Dx.lst (.inl ⟨nin, .inl ew⟩) rw') (fin acc os2 p)⟩
theorem tw_yes {S : Sa} {Q : Bool → Os → Prop} (q : Q true S.os) : TW K X tYes S Q := fun as H σ Q' R x k => k true H S.os (Go.refl _ _) R.o q
end
end Br

/-! BrE: the store's dicts; a def that makes one; rooms; a law's end. -/
namespace Br
open PySem L2

/-! ### the store's dicts -/
def keyD : Key → D
  | .inl i => .int i
  | .inr x => .str x
def lookD (kvs : List (Key × D)) (k : Key) : Option D := (kvs.find? fun kv => decide (kv.1 = k)).map (·.2)
def putD (kvs : List (Key × D)) (k : Key) (v : D) : List (Key × D) :=
  if (kvs.any fun kv => decide (kv.1 = k)) = true then kvs.map (fun kv => if kv.1 = k then (kv.1, v) else kv) else kvs ++ [(k, v)]
section
variable {K : PySem.W.Frag} {as : List Addr} {H : Hp}
theorem key_v {v : V} {k : Key} (h : Dx K as H v (keyD k)) : v = kV k := by
  cases k with
  | inl i =>
    cases h
    rfl
  | inr x =>
    cases h
    rfl
theorem DxP.length : ∀ {vs : List (Key × V)} {ds : List (Key × D)}, DxP K as H vs ds → vs.length = ds.length
  | _, _, .nil => rfl
  | _, _, .cons _ r => by rw [List.length_cons, List.length_cons, DxP.length r]
theorem DxP.look {k : Key} : ∀ {vs : List (Key × V)} {ds : List (Key × D)} {z : D}, DxP K as H vs ds → lookD ds k = some z → ∃ v, valV vs k = some v ∧ Dx K as H v z
  | _, _, _, .nil, e => by simp [lookD] at e
  | _, _, z, .cons (k := k2) (v := v) (d := d) (ds := ds) (vs := vs) h r, e => by
    by_cases hk : k2 = k
    · have e2 : some d = some z := by rw [← e]; simp [lookD, List.find?_cons, hk]
      cases e2
      exact ⟨v, valV_pos (p := (k2, v)) hk, h⟩
    · have e2 : lookD ds k = some z := by rw [← e]; simp [lookD, List.find?_cons, hk]
      obtain ⟨u, h1, h2⟩ := DxP.look r e2
      exact ⟨u, by rw [valV_neg (p := (k2, v)) hk]; exact h1, h2⟩
theorem DxP.any {k : Key} : ∀ {vs : List (Key × V)} {ds : List (Key × D)}, DxP K as H vs ds → (vs.any fun kv => decide (kv.1 = k)) = (ds.any fun kv => decide (kv.1 = k))
  | _, _, .nil => rfl
  | _, _, .cons _ r => by rw [List.any_cons, List.any_cons, DxP.any r]
theorem DxP.mapk {k : Key} {u : V} {z : D} (h : Dx K as H u z) : ∀ {vs : List (Key × V)} {ds : List (Key × D)}, DxP K as H vs ds → DxP K as H (vs.map fun kv => if kv.1 = k then (kv.1, u) else kv) (ds.map fun kv => if kv.1 = k then (kv.1, z) else kv)
  | _, _, .nil => .nil
  | _, _, .cons (k := k2) h2 r => by
    rw [List.map_cons, List.map_cons]
    by_cases hk : k2 = k
    · rw [if_pos hk, if_pos hk]
      exact .cons h (DxP.mapk h r)
    · rw [if_neg hk, if_neg hk]
      exact .cons h2 (DxP.mapk h r)
theorem DxP.app : ∀ {v w : List (Key × V)} {d e : List (Key × D)}, DxP K as H v d → DxP K as H w e → DxP K as H (v ++ w) (d ++ e)
  | _, _, _, _, .nil, s => s
  | _, _, _, _, .cons h r, s => .cons h (DxP.app r s)
theorem DxP.put {k : Key} {u : V} {z : D} {vs : List (Key × V)} {ds : List (Key × D)} (h : Dx K as H u z) (r : DxP K as H vs ds) : DxP K as H (putK vs k u) (putD ds k z) := by
  unfold putK putD
  rw [r.any (k := k)]
  split
  · exact DxP.mapk h r
  · exact DxP.app r (.cons h .nil)
/-- a thing of the store is written -/
theorem ro_set {os : Os} {k : Nat} {a : Addr} {o : HO} {ob : Ob} (R : Ro K as H os) (ha : as[k]? = some a) (h : ObR K as (upd H a o) a ob) : Ro K as (upd H a o) (os.set k ob) := by
  have hm : a ∈ as := List.mem_of_getElem? ha
  refine ⟨R.nd, by rw [List.length_set]; exact R.len, fun j b ob2 h1 h2 => ?_⟩
  by_cases hj : k = j
  · subst hj
    rw [ha] at h1
    cases h1
    by_cases hl : k < os.length
    · rw [List.getElem?_set_self hl] at h2
      cases h2
      exact h
    · rw [List.getElem?_eq_none (by simpa using hl)] at h2
      cases h2
  · rw [List.getElem?_set_ne hj] at h2
    refine (R.own j b ob2 h1 h2).way (Way.of_go (Go.at hm)) fun u e => ?_
    have hne : b ≠ a := fun z => by
      subst z
      obtain ⟨l1, m1⟩ := List.getElem?_eq_some_iff.mp h1
      obtain ⟨l2, m2⟩ := List.getElem?_eq_some_iff.mp ha
      exact hj ((List.getElem_inj R.nd).mp (m2.trans m1.symm))
    rw [upd_ne hne]
    exact e
end
section
variable {K : PySem.W.Frag} {X : Xc} {S : Sa} {Q : Sv → Os → Prop} {td ty tv : TE} {E : Ea}
theorem ew_dget (h : EW K X td S fun x os1 => EW K X ty ⟨S.s, os1⟩ fun y os2 => ∃ k kvs key z, x = .o k ∧ os2[k]? = some (.md kvs) ∧ y = .d (keyD key) ∧ lookD kvs key = some z ∧ Q (.d z) os2) : EW K X (tDGet td ty) S Q := fun as H σ Q' R x k =>
  h as H σ _ R x fun v H1 d os1 g1 R1 r1 q1 => q1 as H1 σ _ (R.go g1 R1) (x.go g1 R1) fun u H2 e os2 g2 R2 r2 ⟨j, kvs, key, z, ex, eo, ey, el, q2⟩ => by
    subst ex
    subst ey
    obtain ⟨a, ea, rfl⟩ := r1
    obtain ⟨vs, h1, h2⟩ := R2.own j a _ ea eo
    obtain ⟨w, h3, h4⟩ := h2.look el
    have hk := key_v r2
    subst hk
    refine ⟨a, w, rfl, ?_, k w H2 (.d z) os2 (g1.trans g2) R2 h4 q2⟩
    rw [← h3]
    exact DGet.k h1
theorem w_dput (h : EW K X tv S fun v os1 => EW K X td ⟨S.s, os1⟩ fun x os2 => EW K X ty ⟨S.s, os2⟩ fun y os3 => ∃ k kvs key z, v = .d z ∧ x = .o k ∧ os3[k]? = some (.md kvs) ∧ y = .d (keyD key) ∧ kvs.length ≤ 1000 ∧
    E.nx ⟨S.s, os3.set k (.md (putD kvs key z))⟩) : W K X (sDPut td ty tv) E S := fun as H σ D R x n r b c =>
  h as H σ _ R (x.h R) fun v H1 d os1 g1 R1 r1 q1 => q1 as H1 σ _ (R.go g1 R1) ((x.h R).go g1 R1) fun u H2 e os2 g2 R2 r2 q2 => q2 as H2 σ _ (R.go (g1.trans g2) R2) ((x.h R).go (g1.trans g2) R2) fun y H3 f os3 g3 R3 r3 ⟨j, kvs, key, z, ev, ex, eo, ey, hl, q3⟩ => by
    subst ev
    subst ex
    subst ey
    obtain ⟨a, ea, rfl⟩ := r2
    obtain ⟨vs, h1, h2⟩ := R3.own j a _ ea eo
    have hk := key_v r3
    subst hk
    have hm : a ∈ as := List.mem_of_getElem? ea
    have rz : Dx K as H3 v z := (r1.go (g2.trans g3) : SvR K as H3 v (.d z))
    have R4 : Ro K as (upd H3 a (.dK (putK vs key v))) (os3.set j (.md (putD kvs key z))) := ro_set R3 ea ⟨_, upd_same, DxP.way (Way.of_go (Go.at hm)) (h2.put rz)⟩
    have g4 : Go as H (upd H3 a (.dK (putK vs key v))) := ((g1.trans g2).trans g3).trans (Go.at hm)
    have hz : vs.length < sizeLine := by
      rw [h2.length]
      exact Nat.lt_of_le_of_lt hl (by decide)
    exact ⟨a, _, rfl, DPut.k h1 hz, n as _ σ _ (Stp.of_go g4 R4) (R.go g4 R4) q3⟩
end

section
variable {K : PySem.W.Frag} {X : Xc} {S : Sa} {Q : Sv → Os → Prop} {td tv : TE} {E : Ea} {z : Str}
/-- by a written text -/
theorem ew_dgetS (h : EW K X td S fun v os1 => ∃ k kvs d, v = .o k ∧ os1[k]? = some (.md kvs) ∧ lookD kvs (.inr z) = some d ∧ Q (.d d) os1) : EW K X (tDGet td (tC (.str z))) S Q :=
  ew_dget (ew_mono h fun x os1 ⟨k, kvs, d, ex, eo, el, q⟩ => ew_str ⟨k, kvs, .inr z, d, ex, eo, rfl, el, q⟩)
theorem w_dputS (h : EW K X tv S fun v os1 => EW K X td ⟨S.s, os1⟩ fun x os2 => ∃ k kvs d kv2 os3, v = .d d ∧ x = .o k ∧ os2[k]? = some (.md kvs) ∧ kvs.length ≤ 1000 ∧ putD kvs (.inr z) d = kv2 ∧ os2.set k (.md kv2) = os3 ∧ E.nx ⟨S.s, os3⟩) : W K X (sDPut td (tC (.str z)) tv) E S :=
  w_dput (ew_mono h fun v os1 h1 => ew_mono h1 fun x os2 ⟨k, kvs, d, kv2, os3, ev, ex, eo, hl, e1, e2, q⟩ => ew_str ⟨k, kvs, .inr z, d, ev, ex, eo, rfl, hl, by rw [e1, e2]; exact q⟩)
end

/-! ### a def that makes a thing of the store -/
abbrev FN := List Sv → Os → (Ob → Os → Prop) → Prop
def spN (K : PySem.W.Frag) (f : FN) : Sp := fun vs H Q _ => ∃ (as : List Addr) (os : Os) (ds : List Sv) (QN : Ob → Os → Prop), Ro K as H os ∧ SvA K as H vs ds ∧ f ds os QN ∧
  ∀ p H' ob os', Stp as H (as ++ [p]) H' → Ro K (as ++ [p]) H' (os' ++ [ob]) → QN ob os' → Q (.ref p) H'
def RetN (n : Nat) (QN : Ob → Os → Prop) : Sv → Os → Prop := fun x os' => x = .o n ∧ os'.length = n + 1 ∧ ∃ ob, os'[n]? = some ob ∧ QN ob (os'.take n)
theorem take_last {α : Type} {l : List α} {n : Nat} {x : α} (h : l.length = n + 1) (e : l[n]? = some x) : l.take n ++ [x] = l := by
  obtain ⟨hn, e2⟩ := List.getElem?_eq_some_iff.mp e
  rw [← e2]
  have : l.take (n + 1) = l := List.take_of_length_le (by omega)
  rw [← List.take_append_getElem hn] at this
  exact this
theorem readN_of {K : PySem.W.Frag} {N : List Str} {f : FN} {t : TS} {vs : List V} {H : Hp} {Q : VK} {E : XK} (h : spN K f vs H Q E)
    (w : ∀ ds os QN, f ds os QN → W K X0 t { nx := fun S => False, rt := RetN os.length QN } ⟨startS N ds, os⟩) : t { nx := fun _ H' => Q .non H', rt := Q } (L2.start N vs) H := by
  obtain ⟨as, os, ds, QN, R, r, hf, k⟩ := h
  refine w ds os QN hf as H _ _ (re_start R r) XS.x0 (fun _ _ _ _ _ _ q => q.elim) (fun bs H' v d os' s R' r' q => ?_) (fun _ _ _ _ _ _ q => q.elim) fun _ _ _ _ _ _ q => q.elim
  obtain ⟨rfl, hl, ob, e, q⟩ := q
  obtain ⟨a, ea, rfl⟩ := r'
  obtain ⟨nw, eb, hf⟩ := s.pre
  have hb : bs = as ++ [a] := by
    have h1 : bs.length = os.length + 1 := R'.len.trans hl
    have h2 : as.length = os.length := R.len
    rw [eb, List.length_append] at h1
    match nw, h1 with
    | [b], _ =>
      rw [eb, ← h2, List.getElem?_append_right (Nat.le_refl _)] at ea
      simp at ea
      rw [eb, ea]
    | [], h1 => simp at h1; omega
    | _ :: _ :: _, h1 => simp at h1; omega
  subst hb
  exact k a H' ob _ s (by rw [take_last hl e]; exact R') q
section
variable {K : PySem.W.Frag} {X : Xc} {S : Sa}
/-- x = f(..), f making a thing -/
theorem w_asgN {ta : TA} {i : Nat} {f : FN} {E : Ea} (h : AW K X ta S fun ds os => f ds os fun ob os' => E.nx ⟨S.s.set i (some (.o os'.length)), os' ++ [ob]⟩) : W K X (tAsg (tCall (spN K f) [] E0 ta) (gName i)) E S := fun as H σ D R x n r b c =>
  h as H σ _ R (x.h R) fun vs H1 ds os1 g1 R1 r1 q1 => ⟨as, os1, ds, _, R1, r1.nilr, q1, fun p H2 ob os2 s2 R2 q2 => by
    have s1 : Stp as H as H1 := Stp.of_go g1 R1
    have hl : as.length = os2.length := by
      have := R2.len
      simpa using this
    have R3 : Re K (as ++ [p]) H2 σ ⟨S.s, os2 ++ [ob]⟩ := ⟨R2, R.slen, fun j d hd => by
      obtain ⟨u, e, z⟩ := R.slot j d hd
      exact ⟨u, e, z.stp (s1.trans s2)⟩⟩
    exact n _ H2 _ _ (s1.trans s2) (R3.set i (v := .ref p) (d := .o os2.length) ⟨p, by rw [← hl]; simp, rfl⟩) q2⟩
/-- pairs of a display -/
inductive PrR (K : PySem.W.Frag) (as : List Addr) (H : Hp) : List (V × V) → List (D × D) → Prop
  | nil : PrR K as H [] []
  | cons {x y : V} {a b : D} {ps : List (V × V)} {ds : List (D × D)} : Dx K as H x a → Dx K as H y b → PrR K as H ps ds → PrR K as H ((x, y) :: ps) ((a, b) :: ds)
def DW (K : PySem.W.Frag) (X : Xc) (trs : List (TE × TE)) (S : Sa) (Q : List (D × D) → Os → Prop) : Prop :=
  ∀ as H σ (Q' : List (V × V) → Hp → Prop), Re K as H σ S → XH K X as H σ S.s → (∀ ps H' ds os', Go as H H' → Ro K as H' os' → PrR K as H' ps ds → Q ds os' → Q' ps H') → tPairs trs σ H Q'
theorem dw_nil {Q : List (D × D) → Os → Prop} (q : Q [] S.os) : DW K X [] S Q := fun as H σ Q' R x k => k [] H [] S.os (Go.refl _ _) R.o .nil q
theorem dw_cons {Q : List (D × D) → Os → Prop} {tk tv : TE} {trs : List (TE × TE)} (h : EW K X tk S fun x os1 => EW K X tv ⟨S.s, os1⟩ fun y os2 => ∃ a b, x = .d a ∧ y = .d b ∧ DW K X trs ⟨S.s, os2⟩ fun ds os3 => Q ((a, b) :: ds) os3) : DW K X ((tk, tv) :: trs) S Q := fun as H σ Q' R x k =>
  h as H σ _ R x fun v H1 d os1 g1 R1 r1 q1 => q1 as H1 σ _ (R.go g1 R1) (x.go g1 R1) fun u H2 e os2 g2 R2 r2 ⟨a, b, ea, eb, q2⟩ => by
    subst ea
    subst eb
    have ra : Dx K as H2 v a := (r1.go g2 : SvR K as H2 v (.d a))
    have rb : Dx K as H2 u b := r2
    exact q2 as H2 σ _ (R.go (g1.trans g2) R2) (x.go (g1.trans g2) R2) fun ps H3 ds os3 g3 R3 r3 q3 => k _ H3 _ os3 ((g1.trans g2).trans g3) R3 (.cons (ra.way (Way.of_go g3)) (rb.way (Way.of_go g3)) r3) q3
def mergeD (kvs more : List (Key × D)) : List (Key × D) := more.foldl (fun acc kv => putD acc kv.1 kv.2) kvs
theorem merge_dx {as : List Addr} {H : Hp} : ∀ {more : List (Key × V)} {md : List (Key × D)} {kvs : List (Key × V)} {kds : List (Key × D)}, DxP K as H more md → DxP K as H kvs kds → DxP K as H (mergeK kvs more) (mergeD kds md)
  | _, _, _, _, .nil, s => s
  | _, _, _, _, .cons (k := k) (v := v) (vs := vs) (d := d) (ds := ds) h r, s => merge_dx (kvs := putK _ k v) (kds := putD _ k d) r (s.put h)
theorem pr_keys {as : List Addr} {H : Hp} : ∀ {ps : List (V × V)} {kds : List (Key × D)}, PrR K as H ps (kds.map fun kv => (keyD kv.1, kv.2)) → ∃ kvs : List (Key × V), ps = kvs.map (fun kv => (kV kv.1, kv.2)) ∧ DxP K as H kvs kds
  | [], [], _ => ⟨[], rfl, .nil⟩
  | [], _ :: _, h => nomatch h
  | _ :: _, [], h => nomatch h
  | (x, y) :: ps, (k, d) :: kds, .cons h1 h2 r => by
    obtain ⟨kvs, e, z⟩ := pr_keys (kds := kds) r
    have hk := key_v h1
    subst hk
    subst e
    exact ⟨(k, y) :: kvs, rfl, .cons h2 z⟩
/-- a new dict at p -/
theorem ro_addD {as : List Addr} {H : Hp} {os : Os} {p : Addr} (R : Ro K as H os) (hp : H p = none) : Ro K (as ++ [p]) (upd H p (.dK [])) (os ++ [.md []]) := by
  refine ⟨List.nodup_append.mpr ⟨R.nd, List.nodup_cons.mpr ⟨by simp, List.nodup_nil⟩, fun a ha b hb e => ?_⟩, by simp [R.len], fun k a ob h1 h2 => ?_⟩
  · rw [List.mem_singleton.mp hb] at e
    exact R.notin hp (e ▸ ha)
  · have w1 : Way K as (as ++ [p]) H H := Way.of_add hp
    have w2 : Way K (as ++ [p]) (as ++ [p]) H (upd H p (.dK [])) := Way.of_go (Go.at (by simp))
    by_cases hk : k < as.length
    · rw [List.getElem?_append_left hk] at h1
      rw [List.getElem?_append_left (by rw [← R.len]; exact hk)] at h2
      refine ((R.own k a ob h1 h2).way w1 fun _ e => e).way w2 fun u e => ?_
      rw [upd_ne (ne_of_none e hp)]
      exact e
    · have hk2 : k = as.length := by
        have := (List.getElem?_eq_some_iff.mp h1).1
        rw [List.length_append] at this
        simp at this
        omega
      subst hk2
      rw [List.getElem?_append_right (Nat.le_refl _)] at h1
      rw [R.len, List.getElem?_append_right (Nat.le_refl _)] at h2
      simp at h1 h2
      subst h1
      subst h2
      exact ⟨[], upd_same, .nil⟩
theorem stp_add {as : List Addr} {H : Hp} {p : Addr} {o : HO} (hp : H p = none) : Stp as H (as ++ [p]) (upd H p o) :=
  ⟨⟨[p], rfl, fun a ha => by rw [List.mem_singleton.mp ha]; exact hp⟩, Go.new hp, fun a ha => by
    by_cases e : a = p
    · rw [e]
      exact hp
    · rw [upd_ne e] at ha
      exact ha⟩
theorem w_retDisp {trs : List (TE × TE)} {E : Ea} (h : DW K X0 trs ⟨S.s, S.os ++ [.md []]⟩ fun ds os3 => ∃ os4 kds, os3 = os4 ++ [.md []] ∧ ds = kds.map (fun kv => (keyD kv.1, kv.2)) ∧ kds.length ≤ 15 ∧ E.rt (.o S.os.length) (os4 ++ [.md (mergeD [] kds)])) :
    W K X (tRet (tDisp trs)) E S := fun as H σ D R x n r b c p hp => by
  have R1 : Re K (as ++ [p]) (upd H p (.dK [])) σ ⟨S.s, S.os ++ [.md []]⟩ := ⟨ro_addD R.o hp, R.slen, fun j d hd => by
    obtain ⟨u, e, z⟩ := R.slot j d hd
    exact ⟨u, e, z.stp (stp_add hp)⟩⟩
  refine h _ _ σ _ R1 XH.x0 fun ps H2 ds os3 g2 R2 r2 ⟨os4, kds, e3, ed, hl, q⟩ => ?_
  subst e3
  subst ed
  obtain ⟨kvs, ek, rk⟩ := pr_keys r2
  have hlen : as.length = os4.length := by
    have := R2.len
    simpa using this
  have hpos : (as ++ [p])[as.length]? = some p := by simp
  obtain ⟨ws, e1, e2⟩ := R2.own as.length p (.md []) hpos (by rw [hlen]; simp)
  cases e2
  have g3 : Go (as ++ [p]) H2 (upd H2 p (.dK (mergeK [] kvs))) := Go.at (by simp)
  have R3 : Ro K (as ++ [p]) (upd H2 p (.dK (mergeK [] kvs))) (os4 ++ [.md (mergeD [] kds)]) := by
    have z := ro_set (ob := .md (mergeD [] kds)) R2 hpos ⟨mergeK [] kvs, upd_same, DxP.way (Way.of_go g3) (merge_dx rk .nil)⟩
    rw [hlen, List.set_append_right _ _ (Nat.le_refl _)] at z
    simpa using z
  have sN : Stp as H (as ++ [p]) (upd H2 p (.dK (mergeK [] kvs))) := ((stp_add hp).trans (Stp.of_go g2 R2)).trans (Stp.of_go g3 R3)
  refine ⟨e1, kvs, ek, by rw [rk.length]; exact hl, r _ _ (.ref p) (.o S.os.length) _ sN R3 ⟨p, by rw [← R.o.len]; simp, rfl⟩ q⟩
end
end Br

/-! BrT: small words for the readings. -/
namespace Br
open PySem L2
theorem br_ite {c : Prop} [Decidable c] {A B : Prop} (h1 : c → A) (h2 : ¬ c → B) : if decide c = true then A else B := by
  by_cases h : c
  · rw [decide_eq_true h]
    exact h1 h
  · rw [decide_eq_false h]
    exact h2 h
theorem br_iteN {c : Prop} [Decidable c] {A B : Prop} (h1 : ¬ c → A) (h2 : c → B) : if (!decide c) = true then A else B := by
  by_cases h : c
  · rw [decide_eq_true h]
    exact h2 h
  · rw [decide_eq_false h]
    exact h1 h
theorem br_iteB {b : Bool} {A B : Prop} (h1 : b = true → A) (h2 : b = false → B) : if b = true then A else B := by
  cases b with
  | true => exact h1 rfl
  | false => exact h2 rfl
theorem br_T {A B : Prop} (h : A) : if true = true then A else B := h
theorem br_F {A B : Prop} (h : B) : if false = true then A else B := h
theorem set_set {os : Os} {k : Nat} {a b : Ob} : (os.set k a).set k b = os.set k b := List.set_set ..
theorem get_set {os : Os} {k : Nat} {a b : Ob} (h : os[k]? = some a) : (os.set k b)[k]? = some b := List.getElem?_set_self (List.getElem?_eq_some_iff.mp h).1
theorem c_div {i j : Int} (h : 0 < j) (h2 : j < 2 ^ 8000) : CDivW i j := wide_div (b := 8000) h (by omega) (by decide) (by decide)
theorem c_mul {i j : Int} (a b : Nat) (ha : i.natAbs < 2 ^ a) (hb : j.natAbs < 2 ^ b) (h0 : 0 < a) (h1 : 0 < b) (h : a + b ≤ 1000000) : CMulW i j := wide_mul ha hb h0 h1 h
theorem alld1 {x : D} : AllD [.d x] [x] := .cons .nil
theorem small_len {n : Nat} (h : n ≤ 1000000) : n ≤ sizeLine := Nat.le_trans h (by decide)
theorem pys_ints : ∀ ns : List Int, D.pys (ns.map D.int) = some (ns.map PyData.int)
  | [] => rfl
  | n :: r => by
    show ((D.py (.int n)).bind fun p => (D.pys (r.map D.int)).map fun ps => p :: ps) = _
    rw [pys_ints r]
    rfl
theorem bw_neNil {K : PySem.W.Frag} {os : Os} {Q : Sv → Os → Prop} {ns : List Int} (q : Q (.d (.bl (!ns.isEmpty))) os) : BW K (rNeD K) (.d (.lst (ns.map D.int))) (.d (.lst [])) os Q := by
  refine bw_neD (p := .list (ns.map PyData.int)) (r := .list []) ?_ rfl (PySem.W.ke_shaped_ints ns) (PySem.W.ke_shaped_ints []) ?_
  · show (D.pys (ns.map D.int)).map PyData.list = _
    rw [pys_ints]
    rfl
  · cases ns with
    | nil => exact q
    | cons n r => exact q
theorem at_mod {ns : List Int} {n : Int} (h : ns ≠ []) : ∃ c, L2.atI (ns.map D.int) (n % ((ns.map D.int).length : Int)) = some (.int c) := by
  have hl : 0 < ns.length := List.length_pos_iff.mpr h
  have e : ((ns.map D.int).length : Int) = (ns.length : Int) := by rw [List.length_map]
  have h1 : 0 ≤ n % (ns.length : Int) := Int.emod_nonneg _ (by omega)
  have h2 : n % (ns.length : Int) < (ns.length : Int) := Int.emod_lt_of_pos _ (by omega)
  have hk : (n % (ns.length : Int)).toNat < ns.length := by omega
  obtain ⟨j, hj⟩ : ∃ j : Nat, n % (ns.length : Int) = (j : Int) := ⟨(n % (ns.length : Int)).toNat, by omega⟩
  have hj2 : j < ns.length := by omega
  refine ⟨ns[j], ?_⟩
  rw [e, hj]
  exact atI_nat (by rw [List.getElem?_map, List.getElem?_eq_getElem hj2]; rfl)
theorem w_cut {K : PySem.W.Frag} {X : Xc} {S : Sa} {E : Ea} {t u : TS} (Mid : Sa → Prop) (h1 : W K X t { E with nx := Mid } S) (h2 : ∀ S', Mid S' → W K X u E S') : W K X (tSeq t u) E S :=
  w_seq (w_mono h1 h2 (fun _ _ z => z) (fun _ z => z) fun _ z => z)
theorem w_join {K : PySem.W.Frag} {X : Xc} {S S2 : Sa} {E : Ea} {t u : TS} {b : Bool} (Mid : Sa → Prop) (h1 : if b = true then W K X t { E with nx := Mid } S else W K X u { E with nx := Mid } S2) (h2 : ∀ S', Mid S' → E.nx S') : if b = true then W K X t E S else W K X u E S2 := by
  cases b with
  | true => exact w_mono (show W K X t { E with nx := Mid } S from h1) h2 (fun _ _ z => z) (fun _ z => z) fun _ z => z
  | false => exact w_mono (show W K X u { E with nx := Mid } S2 from h1) h2 (fun _ _ z => z) (fun _ z => z) fun _ z => z
theorem ret_set {os : Os} {k : Nat} {ob : Ob} {d : D} {QA : D → Os → Prop} (q : QA d (os.set k ob)) : RetOk os.length QA (.d d) (os.set k ob) := by
  show QA d ((os.set k ob).take os.length)
  rw [List.take_of_length_le (by rw [List.length_set]; exact Nat.le_refl _)]
  exact q
theorem ret_same {os : Os} {d : D} {QA : D → Os → Prop} (q : QA d os) : RetOk os.length QA (.d d) os := by
  show QA d (os.take os.length)
  rw [List.take_length]
  exact q
theorem c_divS {i j : Int} (h : 0 < j) (h2 : j < 2 ^ 64) : CDivW i j := wide_div (b := 64) h (by omega) (by decide) (by decide)
theorem c_mulS {i j : Int} (h1 : -(2 ^ 200) < i ∧ i < 2 ^ 200) (h2 : -(2 ^ 200) < j ∧ j < 2 ^ 200) : CMulW i j := wide_mul (a := 200) (b := 200) (by omega) (by omega) (by decide) (by decide) (by decide)
/-- a display's things, as data -/
def unD : List Sv → Option (List D)
  | [] => some []
  | .d x :: r => (unD r).map fun ds => x :: ds
  | .o _ :: _ => none
theorem unD_all : ∀ {xs : List Sv} {ds : List D}, unD xs = some ds → AllD xs ds
  | [], ds, h => by
    have e : some [] = some ds := h
    cases e
    exact .nil
  | .d x :: r, ds, h => by
    have e : (unD r).map (fun ds => x :: ds) = some ds := h
    obtain ⟨es, e1, rfl⟩ := Option.map_eq_some_iff.mp e
    exact .cons (unD_all e1)
  | .o _ :: _, ds, h => by
    have e : (none : Option (List D)) = some ds := h
    cases e
section
variable {K : PySem.W.Frag} {X : Xc} {S : Sa} {Q : Sv → Os → Prop} {ta : TA}
theorem ew_lst2 (h : AW K X ta S fun xs os => ∃ ds, unD xs = some ds ∧ ds.length ≤ sizeLine ∧ Q (.d (.lst ds)) os) : EW K X (tLst ta) S Q :=
  ew_lst fun as H σ Q' R x k => h as H σ Q' R x fun vs H1 xs os1 g1 R1 r1 ⟨ds, e, q⟩ => k vs H1 xs os1 g1 R1 r1 ⟨ds, unD_all e, q⟩
theorem ew_tup2 (h : AW K X ta S fun xs os => ∃ ds, unD xs = some ds ∧ ds.length ≤ sizeLine ∧ Q (.d (.tup ds)) os) : EW K X (tTup ta) S Q :=
  ew_tup fun as H σ Q' R x k => h as H σ Q' R x fun vs H1 xs os1 g1 R1 r1 ⟨ds, e, q⟩ => k vs H1 xs os1 g1 R1 r1 ⟨ds, unD_all e, q⟩
end
end Br

/-! BrU: kinds asked, texts joined, looked through; an exception made and raised. -/
namespace Br
open PySem L2
/-- the kind of data -/
def D.ty : D → Option String
  | .non => some "NoneType"
  | .bl _ => some "bool"
  | .int _ => some "int"
  | .str _ => some "str"
  | .lst _ => some "list"
  | .tup _ => some "tuple"
  | .dk _ => some "dict"
  | .ob _ _ => none
  | .xo _ _ => none
section
variable {K : PySem.W.Frag} {X : Xc} {S : Sa} {Q : Sv → Os → Prop} {te to : TE} {ta : TA}
theorem dx_ty {as : List Addr} {H : Hp} {v : V} {d : D} {n : String} (r : Dx K as H v d) (e : d.ty = some n) : TyX K H v (.type n) := by
  cases r with
  | non => cases e; exact .base .non
  | bl b => cases e; exact .base (.bl b)
  | int i => cases e; exact .base (.int i)
  | str x => cases e; exact .base (.str x)
  | lst hl hr =>
    cases e
    rcases hl with ⟨_, h | ⟨o, h⟩⟩ | ⟨o, its, k, h, c, _⟩
    · exact .base (.lst h)
    · exact .base (.frz h)
    · exact .kList h c
  | tup hl hr =>
    cases e
    rcases hl with ⟨_, h | ⟨o, h⟩⟩ | ⟨o, its, k, h, c, _⟩
    · exact .base (.tup h)
    · exact .fTuple h
    · exact .kTuple h c
  | dk n h hr =>
    cases e
    rcases h with h | ⟨o, h⟩
    · exact .base (.dK h)
    · exact .fDict h
  | ob => cases e
  | xo => cases e
/-- isinstance(x, a built-in type) -/
theorem ew_isi {n : String} (h : EW K X te S fun x os => ∃ d a r, x = .d d ∧ d.ty = some a ∧ kitB a n = some r ∧ Q (.d (.bl r)) os) : EW K X (tCB (rIsi K) (tCons te (tCons (tC (.ty n)) tNil))) S Q := fun as H σ Q' R x k =>
  h as H σ _ R x fun v H1 d os1 g1 R1 r1 ⟨e, a, r, ed, ea, er, q⟩ => by
    subst ed
    exact ⟨v, .ty n, .type a, .type n, r, rfl, .ty n, dx_ty r1 ea, kit_ty er, k (.bl r) H1 (.d (.bl r)) os1 g1 R1 (Dx.bl r) q⟩
/-- sep.join(a list of texts) -/
theorem ew_join (h : EW K X to S fun x os => ∃ a : Str, x = .d (.str a) ∧ EW K X te ⟨S.s, os⟩ fun y os2 => ∃ ys : List Str, y = .d (.lst (ys.map D.str)) ∧ (ys.map (·.length)).sum + ys.length * a.length ≤ 16777216 ∧ Q (.d (.str (Txt.join a ys))) os2) :
    EW K X (tM1 (fun x xs H Q => ∃ a p, ∃ ys : List Str, x = .str a ∧ xs = [.ref p] ∧ (SqL K H p (ys.map V.str) ∨ SqT K H p (ys.map V.str)) ∧ (ys.map (·.length)).sum + ys.length * a.length ≤ 16777216 ∧ Q (.str (Txt.join a ys)) H) to te) S Q := fun as H σ Q' R x k =>
  h as H σ _ R x fun v H1 d os1 g1 R1 r1 ⟨a, ed, h2⟩ => by
    subst ed
    cases r1
    refine ⟨⟨a, rfl⟩, h2 as H1 σ _ (R.go g1 R1) (x.go g1 R1) fun u H2 e os2 g2 R2 r2 ⟨ys, ey, hl, q⟩ => ?_⟩
    subst ey
    cases r2 with
    | @lst p vs _ hl2 hr =>
      have ev := DxA.of_strs hr
      subst ev
      exact ⟨a, p, ys, rfl, rfl, .inl hl2.sq, hl, k _ H2 (.d (.str _)) os2 (g1.trans g2) R2 (Dx.str _) q⟩
/-- a.index(b) -/
theorem ew_sindex (h : EW K X to S fun x os => ∃ a : Str, x = .d (.str a) ∧ EW K X te ⟨S.s, os⟩ fun y os2 => ∃ (b : Str) (i : Nat), y = .d (.str b) ∧ (Builtin.Str.occurrences a b 0 a.length 1).head? = some i ∧ Q (.d (.int (i : Int))) os2) :
    EW K X (tM1 (fun x xs H Q => ∃ a b i rest, x = .str a ∧ xs = [.str b] ∧ Builtin.Str.occurrences a b 0 a.length 1 = i :: rest ∧ Q (.int (i : Nat)) H) to te) S Q := fun as H σ Q' R x k =>
  h as H σ _ R x fun v H1 d os1 g1 R1 r1 ⟨a, ed, h2⟩ => by
    subst ed
    cases r1
    refine ⟨⟨a, rfl⟩, h2 as H1 σ _ (R.go g1 R1) (x.go g1 R1) fun u H2 e os2 g2 R2 r2 ⟨b, i, ey, ho, q⟩ => ?_⟩
    subst ey
    cases r2
    cases eo : Builtin.Str.occurrences a b 0 a.length 1 with
    | nil => rw [eo] at ho; cases ho
    | cons j rest =>
      rw [eo] at ho
      cases ho
      exact ⟨a, b, i, rest, rfl, rfl, eo, k _ H2 (.d (.int _)) os2 (g1.trans g2) R2 (Dx.int _) q⟩
end
/-! ### an exception of the text's own -/
/-- data without a place -/
def D.flat : D → Option V
  | .non => some .non
  | .bl b => some (.bl b)
  | .int i => some (.int i)
  | .str x => some (.str x)
  | _ => none
theorem dx_flat {K : PySem.W.Frag} {as : List Addr} {H : Hp} {v : V} : ∀ {d : D}, d.flat = some v → Dx K as H v d
  | .non, e => by cases e; exact .non
  | .bl b, e => by cases e; exact .bl b
  | .int i, e => by cases e; exact .int i
  | .str x, e => by cases e; exact .str x
  | .lst _, e => by cases e
  | .tup _, e => by cases e
  | .dk _, e => by cases e
  | .ob _ _, e => by cases e
  | .xo _ _, e => by cases e
theorem flat_dx {K : PySem.W.Frag} {as : List Addr} {H : Hp} {u v : V} : ∀ {d : D}, d.flat = some v → Dx K as H u d → u = v
  | .non, e, r => by cases e; cases r; rfl
  | .bl b, e, r => by cases e; cases r; rfl
  | .int i, e, r => by cases e; cases r; rfl
  | .str x, e, r => by cases e; cases r; rfl
  | .lst _, e, _ => by cases e
  | .tup _, e, _ => by cases e
  | .dk _, e, _ => by cases e
  | .ob _ _, e, _ => by cases e
  | .xo _ _, e, _ => by cases e
/-- C.__init__ of one field -/
def spI1 (C : Addr) (f : Str) (P : V → Prop) : Sp := fun vs H Q _ => ∃ (a : Addr) (v : V), vs = [.ref a, v] ∧ P v ∧ H a = some (exo a C none) ∧
  ∀ dx H', H dx = none → dx ≠ a → H' a = some (exo a C (some dx)) → H' dx = some (exd dx [(f, v)]) → (∀ b o, H b = some o → b ≠ a → H' b = some o) → Q .non H'
section
variable {K : PySem.W.Frag} {X : Xc} {S : Sa} {E : Ea} {ta : TA}
theorem w_raise1 {C : Addr} {f : Str} {P : V → Prop} {Wx : WX} (hw : Wx = X.wx) (h : AW K X ta S fun xs os => ∃ d v, xs = [.d d] ∧ d.flat = some v ∧ P v ∧ X.xe C [(f, d)] ⟨S.s, os⟩) :
    W K X (fun _ σ H => tMkO C (spI1 C f P) [] ta σ H fun cls dd H' => Wx cls dd σ H') E S := fun as H σ D R x n r b c => by
  refine h as H σ _ R (x.h R) fun vs H1 xs os1 g1 R1 r1 ⟨d, v, e, ef, hP, q⟩ => ?_
  subst e
  cases r1 with
  | @cons u _ _ _ r1 rn =>
    cases rn
    have ev : v = u := (flat_dx ef r1).symm
    subst ev
    refine ⟨Nat.le_of_ble_eq_true rfl, fun a ha => ⟨a, _, rfl, hP, upd_same, fun dx H2 h1 h2 h3 h4 h6 => ⟨rfl, dx, _, h3, h4, ?_, ?_⟩⟩⟩
    · rw [upd_ne h2] at h1
      exact h1
    · have hdx : H1 dx = none := by
        rw [upd_ne h2] at h1
        exact h1
      have gg : ∀ b o, H1 b = some o → (upd (del H2 a) dx (.xd [(f, v)])) b = some o := fun b o e => by
        have hb : b ≠ a := ne_of_none e ha
        rw [upd_ne (ne_of_none e hdx), del_ne hb]
        exact h6 b o (by rw [upd_ne hb]; exact e) hb
      have g2 : Go as H1 (upd (del H2 a) dx (.xd [(f, v)])) := fun b o e _ => gg b o e
      have R3 : Ro K as (upd (del H2 a) dx (.xd [(f, v)])) os1 := ⟨R1.nd, R1.len, fun k b ob e1 e2 => (R1.own k b ob e1 e2).way (Way.of_go g2) fun w e => gg b w e⟩
      have g3 : Go as H (upd (del H2 a) dx (.xd [(f, v)])) := g1.trans g2
      have z := x.h R _ C dx [(f, v)] [(f, d)] os1 g3 R3 (g1.free (R1.notin hdx) hdx) upd_same (.cons (dx_flat ef) .nil) q
      rw [hw]
      exact z
end
end Br

/-! BrX: an exception that is caught and kept. -/
namespace Br
open PySem PySem.Spec PyProof.Rows L2
theorem exk_ok {P : Program} {w : World} {H : Hp} {h : Heap} {C dd a : Addr} {oe : Obj} {vs : Array Value} (e : h.get? a = some oe) (z : Zc (.ref C) (some dd) oe) (d : oe.data = .fields vs) : ObjOk P w H h a (Exk C dd a) :=
  ⟨⟨oe, vs, e, z, d⟩, ⟨oe, e⟩, fun _ _ ⟨o, v, q, r⟩ k => ⟨o, v, k o q, r⟩⟩
section
variable {X : Cx} {pins : List (Addr × Obj)} {σ : L2.St} {H : Hp} {s : Shared}
/-- what is pinned and new is tracked -/
theorem inv_keep {a : Addr} {oe : Obj} {o : HO} (I : Inv X ((a, oe) :: pins) σ H s) (n0 : X.s_0.heap.get? a = none) (hp : ∀ p ∈ X.pn ++ pins, p.1 ≠ a) (new : ObjOk X.prog X.w (upd H a o) s.heap a o) : Inv X pins σ (upd H a o) s := by
  obtain ⟨he, na, nL, nF, nc⟩ := I.pin (a, oe) (List.mem_append_right _ List.mem_cons_self)
  refine ⟨I.ok, I.os, I.bare, ⟨I.base.keep, I.base.slot, fun b u e n hx => ?_, I.base.there, fun b xs e => ?_, fun b u xs e => ?_, fun b ps e => ?_⟩, I.loc, I.cell, ?_, fun x c e => ?_, fun p hq => ?_, ?_, I.len⟩
  · rw [upd_ne (fun z => by rw [z, n0] at e; cases e)]
    exact I.base.free b u e n hx
  · have z := I.base.tups b xs e
    rw [upd_ne (ne_of_none z na)]
    exact z
  · have z := I.base.frzs b u xs e
    rw [upd_ne (ne_of_none z na)]
    exact z
  · obtain ⟨more, z⟩ := I.base.tbls b ps e
    refine ⟨more, ?_⟩
    rw [upd_ne (ne_of_none z na)]
    exact z
  · rw [upd_ne (Ne.symm nL)]
    exact I.free
  · have hc := I.freeC x c e
    rw [upd_ne (fun z => ?_)]
    · exact hc
    · obtain ⟨v, q⟩ := I.cell x c e
      rw [z] at q
      obtain ⟨o', h1, h2⟩ := id q
      rw [he] at h1
      cases h1
      exact nc v h2
  · have hq' : p ∈ X.pn ++ (a, oe) :: pins := by
      rcases List.mem_append.mp hq with z | z
      · exact List.mem_append_left _ z
      · exact List.mem_append_right _ (List.mem_cons_of_mem _ z)
    obtain ⟨h1, h2, h3, h4, h5⟩ := I.pin p hq'
    refine ⟨h1, ?_, h3, h4, h5⟩
    rw [upd_ne (hp p hq)]
    exact h2
  · exact HOk.laidN I.hok (fun _ _ e => e) na new
end
/-- except x as n: y = n -/
def wKeep (K : PySem.W.Frag) (c : Value) (i j : Nat) (D : Ends) : WX := fun cls d σ H =>
  PySem.W.exmOne K cls c = some true ∧ ∃ C dd, cls = .ref C ∧ d = some dd ∧ i < σ.length ∧ ∀ a, H a = none → D.nx (((σ.set i (some (.ref a))).set j (some (.ref a))).set i none) (upd H a (Exk C dd a))
section
variable {X : Cx} {x n y : Str} {c : Value} {i j : Nat} {body : List Stmt} {np p1 p2 p3 pos pos' : Pos} {tb : WX → TS}
theorem ps_try_keep (hs : X.stack = X.env :: X.outer) (hf : X.env.frame = some X.env.locals) (hN : X.N.Nodup) (hi : X.N[i]? = some n) (hln : X.env.kindOf n = some .local) (hlv : X.env.scope.names.lookup n = some .local) (hj : X.N[j]? = some y) (hjl : X.env.scope.names.lookup y = some .local) (hc : Names X x c) (hex : X.ex = [])
    (hb : ∀ (W : WX) (pn : List (Addr × Obj)) (xe : Value → Shared → Prop), Takes (X.tr pn xe) W → PassesOwn (model X.prog X.w) X.A X.env xe → PSs (X.tr pn xe) body (tb W))
    (hsw : swapsWith (.Name n p1) (some (.Name y p2)) p3.line X.env = pure false := by rfl) (hd1 : (n == ("__debug__" : Str)) = false := by decide) (hd2 : (n == ("__classdict__" : Str)) = false := by decide) :
    PS X (.Try body [.ExceptHandler (some (.Name x np)) (some n) [.Assign [.Name y p2] (.Name n p1) p3] pos'] [] [] pos) (fun D σ H => tb (wKeep X.K c i j D) D σ H) := by
  refine ⟨fun pins s σ H D I h => ?_⟩
  have ok := I.ok
  have hfr : X.A.frames = some (X.env :: X.outer) := by rw [ok.frames, hs]
  have hloc : Loc X.env.scope n := .inl hln
  refine wpAny_Try_except ?_
  refine wpAny_mono ((hb (wKeep X.K c i j D) (X.pn ++ pins) (fun e s₁ => wpAny (model X.prog X.w) X.A (noteFrame e X.env) (fun _ s₂ => wpAny (model X.prog X.w) X.A (setFlight e none) (fun _ s₃ =>
    wpAny (model X.prog X.w) X.A (handleBy e X.env [.ExceptHandler (some (.Name x np)) (some n) [.Assign [.Name y p2] (.Name n p1) p3] pos']) (SP X pins D) X.xe s₃) X.xe s₂) X.xe s₁) (fun u s' xx => ?_) PassesOwn.looking).run [] s σ H D (I.toTry _) h) (fun f s1 hsp => ?_) (fun e s1 he => he)
  · obtain ⟨a, B, sI, pins', σ', H', cls, d, rfl, J', nb, up, sky, na, os, ag, hb1, C, dd, rfl, rfl, hil, hyes⟩ := xx
    have J : Inv X pins σ' H' sI := J'.ofTry ok
    have sky' : Sky B (X.env :: X.outer) a (Zc (.ref C) (some dd)) X.env.locals s'.heap := by rw [← hs]; exact sky
    show wpAny (model X.prog X.w) X.A (noteFrame (.ref a) X.env) _ _ _
    refine Sky.land Zc.steady hfr hf sky' fun h3 fl3 up3 => ?_
    have J3 : Inv X pins σ' H' { s' with heap := h3 } := J.landed nb fl3.1 (up.trans up3) os ag
    obtain ⟨oe3, vs3, he3, hz3, hd3⟩ := fl3.there
    have notFr : ∀ {h : Heap} {o : Obj} {vs : Array Value}, h.FunFrames B (X.env :: X.outer) → h.get? a = some o → o.data = .fields vs → a ∉ frs (X.env :: X.outer) := fun {h o vs} ff e dd hm => by
      obtain ⟨_, o', e', hnf⟩ := ff.mem hm
      rw [e] at e'; cases e'
      exact hnf _ dd
    have nfr := notFr fl3.2.2.1 he3 hd3
    have nL : a ≠ X.env.locals := fun z => nfr (List.mem_filterMap.mpr ⟨X.env, List.mem_cons_self, by rw [hf, z]⟩)
    have nF : a ∉ X.fs := fun hm => by
      obtain ⟨e, he, q⟩ := List.mem_filterMap.mp hm
      exact nfr (List.mem_filterMap.mpr ⟨e, List.mem_cons_of_mem _ he, q⟩)
    have nI : sI.heap.get? a = none := by
      cases e : sI.heap.get? a with
      | none => rfl
      | some o =>
        have z := nb a o e (by rw [hs]; exact nfr)
        rw [fl3.2.1] at z
        cases z
    have n0 : X.s_0.heap.get? a = none := by
      cases e : X.s_0.heap.get? a with
      | none => rfl
      | some o =>
        obtain ⟨o', z⟩ := J.base.there a o e (by rw [hex]; exact fun z => nomatch z)
        rw [nI] at z
        cases z
    have np' : ∀ p ∈ X.pn ++ pins, p.1 ≠ a := fun p hp z => by
      have e := (J.pin p hp).1
      rw [z, nI] at e
      cases e
    have S3 := J3.suite he3 hd3 na nL nF
    refine wpAny_handleBy_cons (codeAny_handlers_test ?_) (by intro q; cases q)
    have LT : PySem.W.Looks (model X.prog X.w) h3 (typeOf (.ref a)) (.ref C) := fun A Q E s k q => wpAny_typeOf_ref (k _ _ he3) (by rw [hz3.1]; exact q)
    have LM := PySem.W.exm_one (M := model X.prog X.w) (J3.kIn) LT hb1
    have test : ∀ {Q : Value → Shared → Prop} {E : Value → Shared → Prop}, Q c { s' with heap := h3 } → wpAny (model X.prog X.w) (X.A.mark (some (.ref a))) (eval (.Name x np) X.env) Q E { s' with heap := h3 } := fun {Q E} q => by
      obtain ⟨hg, hdbg, hm | ⟨hm, hv, hnn⟩⟩ := hc
      · exact ld_glob (X := X.suite a ((a, oe3) :: (X.pn ++ pins))) S3 hg hm q hdbg
      · exact ld_blt (X := X.suite a ((a, oe3) :: (X.pn ++ pins))) S3 hg hm hv q hnn hdbg
    refine test (LM.here ?_)
    refine codeAny_handlers_suite_as ?_
    refine HandSPX.lands_againZ fl3 fun h4 fl4 up4 => ?_
    have J4 : Inv X pins σ' H' { s' with heap := h4 } := J.landed nb fl4.1 ((up.trans up3).trans up4) os ag
    obtain ⟨oe4, vs4, he4, hz4, hd4⟩ := fl4.there
    have S4 := J4.suite he4 hd4 na nL nF
    refine store_ok (X := X.suite a ((a, oe4) :: (X.pn ++ pins))) (v := .ref a) S4 hN hi hloc rfl (fun s5 S5 => ?_) (.inr hln)
    have suite : PSs (X.suite a ((a, oe4) :: (X.pn ++ pins))) [.Assign [.Name y p2] (.Name n p1) p3] (tAsg (tVar i) (gName j)) :=
      pss_one (ps_set (X := X.suite a ((a, oe4) :: (X.pn ++ pins))) hN hj (.inl hjl) (pe_var (X := X.suite a ((a, oe4) :: (X.pn ++ pins))) hi (.inl hlv) hd1 hd2) hsw (.inr hjl))
    refine wpAny_mono (suite.run [] s5 _ H' { nx := fun σ6 H6 => H6 = H' ∧ σ6 = (σ'.set i (some (.ref a))).set j (some (.ref a)), rt := fun _ _ => False, bk := fun _ _ => False, ct := fun _ _ => False } S5 ⟨.ref a, by rw [List.getElem?_set_self hil], rfl, rfl⟩) (fun f s6 hsp => ?_) (fun _ _ z => False.elim z)
    cases f with
    | next =>
      obtain ⟨σ6, H6, S6, q6, q7⟩ := hsp
      subst q6
      have pinA := S6.pin (a, oe4) (List.mem_append_left _ List.mem_cons_self)
      have S7 : Inv X ((a, oe4) :: pins) σ6 H6 s6 := (Inv.unsuite S6 ok).pins_of fun p hp => by
        rcases List.mem_cons.mp hp with e | z
        · rw [e]
          exact pinA
        · exact S6.pin p (List.mem_append_left _ (List.mem_cons_of_mem _ (List.mem_append_right _ z)))
      refine gone_ok S7 hN hi hln fun s7 J7 => ?_
      have e7 := (J7.pin (a, oe4) (List.mem_append_right _ List.mem_cons_self)).1
      refine ⟨_, _, inv_keep J7 n0 np' (exk_ok e7 hz4 hd4), ?_⟩
      rw [q7]
      exact hyes a na
    | brk =>
      obtain ⟨σ6, H6, S6, q6⟩ := hsp
      exact q6.elim
    | cont =>
      obtain ⟨σ6, H6, S6, q6⟩ := hsp
      exact q6.elim
    | ret u =>
      obtain ⟨v6, σ6, H6, S6, r6, q6⟩ := hsp
      exact q6.elim
  · cases f with
    | next =>
      obtain ⟨σ', H', J', q⟩ := hsp
      exact wpAny_execs_nil ⟨σ', H', J'.ofTry ok, q⟩
    | brk =>
      obtain ⟨σ', H', J', q⟩ := hsp
      exact ⟨σ', H', J'.ofTry ok, q⟩
    | cont =>
      obtain ⟨σ', H', J', q⟩ := hsp
      exact ⟨σ', H', J'.ofTry ok, q⟩
    | ret u =>
      obtain ⟨v, σ', H', J', r, q⟩ := hsp
      exact ⟨v, σ', H', J'.ofTry ok, r, q⟩
end
/-! ### what is asked of a kept exception -/
/-- kept.f -/
def tXk (C : Addr) (f : Str) (te : TE) : TE := fun σ H Q => te σ H fun x H1 => ∃ (a dd : Addr) (fs : List (Str × V)) (v : V), x = .ref a ∧ H1 a = some (Exk C dd a) ∧ H1 dd = some (.xd fs) ∧ fs.lookup f = some v ∧ Q v H1
theorem inst_exk {X : Cx} {pins : List (Addr × Obj)} {σ : L2.St} {H : Hp} {s : Shared} {C dd a : Addr} {fs : List (Str × V)} (I : Inv X pins σ H s) (ea : H a = some (Exk C dd a)) (ed : H dd = some (.xd fs)) :
    ∃ (oe : Obj) (od : Obj) (mA : Str → Option Value), PySem.W.InstAt s.heap a oe C (some od) ∧ (∀ f, RelO (fs.lookup f) (mA f)) ∧ ∀ n, PySem.W.lookIn n od = some (mA n) := by
  obtain ⟨⟨oe, vs, he, hz, hd⟩, _⟩ := (show ObjOk X.prog X.w H s.heap a (Exk C dd a) from I.hok a _ ea)
  have hx : ObjOk X.prog X.w H s.heap dd (.xd fs) := I.hok dd _ ed
  obtain ⟨mA, hns, hr⟩ := hx
  obtain ⟨od, ho, hl⟩ := lookIn_ns hns
  exact ⟨oe, od, mA, ⟨he, hz.1, by unfold PySem.W.notCls; rw [hd] <;> rfl, by rw [hz.2]; exact ho⟩, hr, hl⟩
theorem pe_xk {X : Cx} {C : Addr} {e : Expr} {te : TE} {pos : Pos} {n : Str} (T : XfC X.K C) (hno : PySem.W.findIn X.K (.ref C) n = some none) (he : PE X e te) (hb : attributeBase e n X.env (eval e X.env) = eval e X.env := by rfl) :
    PE X (.Attribute e n pos) (tXk C n te) := by
  refine ⟨fun pins s σ H Q I h => ?_⟩
  refine attr_of hb (thn (he.run pins s σ H _ I h) fun u s1 hh => ?_)
  obtain ⟨x, H1, I1, rx, a, dd, fs, v, ex, ea, ed, l, q⟩ := hh
  subst ex
  obtain rfl : u = Value.ref a := rx
  obtain ⟨oe, od, mA, J, hr, hl⟩ := inst_exk I1 ea ed
  obtain ⟨u, hu, ru⟩ := RelO.some_of (v := v) (o := mA n) (by rw [← l]; exact hr n)
  exact HandSPX.exc_get I1.kIn J T.ga T.gg T.exC (PySem.W.findObj_own T.hdC hno rfl (by rw [hl, hu])) (handed_of ru) ⟨v, H1, I1.tok _, ru, q⟩
/-- isinstance(kept, c) -/
def rIsK (K : PySem.W.Frag) (C : Addr) : List V → Hp → VK → Prop := fun xs H Q => ∃ (a dd : Addr) (fs : List (Str × V)) (c : V) (cv : Value) (b : Bool), xs = [.ref a, c] ∧ H a = some (Exk C dd a) ∧ H dd = some (.xd fs) ∧ ClsV c cv ∧ PySem.W.kitOne K (.ref C) cv = some b ∧ Q (.bl b) H
theorem call_isK {X : Cx} {D : Addr} (C : ExcC X.K D) (hcl : (PySem.W.clsIn X.K D).isSome = true) : CallR X (.builtin "isinstance") (rIsK X.K D) := by
  intro pins s σ H xs us Q I r h
  obtain ⟨a, dd, fs, c, cv, b, rfl, ea, ed, hcv, e, q⟩ := h
  obtain ⟨u1, u2, rfl, r1, r2⟩ := vals2 r
  cases (show u1 = Value.ref a from r1)
  have ec := hcv.eq r2
  subst ec
  obtain ⟨oe, od, mA, J, hr, hl⟩ := inst_exk I ea ed
  exact PySem.W.kia_one (PySem.W.kitx_exc hcl C.hg C.hk C.hs C.ha C.hn C.ht C.hm) I.kIn J e (fun z => nomatch z) fun tk => ⟨.bl b, H, I.tok tk, rfl, q⟩
section
variable {K : PySem.W.Frag} {X : Xc} {S : Sa} {Q : Sv → Os → Prop} {te : TE} {E : Ea}
def lookF (fds : List (Str × D)) (f : Str) : Option D := (fds.find? fun kv => kv.1 = f).map (·.2)
theorem dxf_look {as : List Addr} {H : Hp} {f : Str} : ∀ {vs : List (Str × V)} {ds : List (Str × D)} {z : D}, DxF K as H vs ds → lookF ds f = some z → ∃ v, vs.lookup f = some v ∧ Dx K as H v z
  | _, _, _, .nil, e => by simp [lookF] at e
  | _, _, z, .cons (k := k) (v := v) (d := d) (ds := ds) (vs := vs) h r, e => by
    by_cases hk : k = f
    · have e2 : some d = some z := by rw [← e]; simp [lookF, List.find?_cons, hk]
      cases e2
      refine ⟨v, ?_, h⟩
      rw [List.lookup_cons, hk]
      simp
    · have e2 : lookF ds f = some z := by rw [← e]; simp [lookF, List.find?_cons, hk]
      obtain ⟨u, h1, h2⟩ := dxf_look r e2
      refine ⟨u, ?_, h2⟩
      rw [List.lookup_cons, show (f == k) = false by simpa using fun z => hk z.symm]
      exact h1
theorem ew_xk {C : Addr} {f : Str} (h : EW K X te S fun x os => ∃ fds d, x = .d (.xo C fds) ∧ lookF fds f = some d ∧ Q (.d d) os) : EW K X (tXk C f te) S Q := fun as H σ Q' R x k =>
  h as H σ _ R x fun v H1 d os1 g1 R1 r1 ⟨fds, z, ed, el, q⟩ => by
    subst ed
    cases r1 with
    | xo n1 n2 h1 h2 hr =>
      obtain ⟨u, e1, e2⟩ := dxf_look hr el
      exact ⟨_, _, _, u, rfl, h1, h2, e1, k u H1 (.d z) os1 g1 R1 e2 q⟩
theorem ew_isK {C : Addr} {n : String} (h : EW K X te S fun x os => ∃ fds r, x = .d (.xo C fds) ∧ PySem.W.kitOne K (.ref C) (.type n) = some r ∧ Q (.d (.bl r)) os) : EW K X (tCB (rIsK K C) (tCons te (tCons (tC (.ty n)) tNil))) S Q := fun as H σ Q' R x k =>
  h as H σ _ R x fun v H1 d os1 g1 R1 r1 ⟨fds, r, ed, er, q⟩ => by
    subst ed
    cases r1 with
    | xo n1 n2 h1 h2 hr => exact ⟨_, _, _, .ty n, .type n, r, rfl, h1, h2, .ty n, er, k (.bl r) H1 (.d (.bl r)) os1 g1 R1 (Dx.bl r) q⟩
theorem bw_isN0 {os : Os} (q : Q (.d (.bl true)) os) : BW K rIsN (.d .non) (.d .non) os Q :=
  bw_pure (fun as H v u Q' R rx ry k => by
    cases rx
    cases ry
    exact ⟨rfl, k _ (.bl true)⟩) q
theorem bw_isN1 {os : Os} {C : Addr} {fds : List (Str × D)} (q : Q (.d (.bl false)) os) : BW K rIsN (.d (.xo C fds)) (.d .non) os Q :=
  bw_pure (fun as H v u Q' R rx ry k => by
    cases rx
    cases ry
    exact ⟨rfl, k _ (.bl false)⟩) q
/-- try: .. except c as n: y = n -/
theorem w_try_keep {c : Value} {i j : Nat} {tb : WX → TS} {xe : Addr → List (Str × D) → Sa → Prop} (hi : i < S.s.length) (h : ∀ wx, W K ⟨wx, xe⟩ (tb wx) { nx := E.nx, rt := E.rt, bk := E.bk, ct := E.ct } S)
    (hx : ∀ C fds S', xe C fds S' → PySem.W.exmOne K (.ref C) c = some true ∧ i < S'.s.length ∧ E.nx ⟨((S'.s.set i (some (.d (.xo C fds)))).set j (some (.d (.xo C fds)))).set i none, S'.os⟩) :
    W K X (fun D σ H => tb (wKeep K c i j D) D σ H) E S := fun as H σ D R x n r b ct => by
  refine h (wKeep K c i j D) as H σ D R ?_ n r b ct
  intro bs H' σ' S' C dd fs fds s R' hdd e rf z
  obtain ⟨h1, h2, h3⟩ := hx C fds S' z
  refine ⟨h1, C, dd, rfl, rfl, by rw [R'.slen]; exact h2, fun a ha => ?_⟩
  have g : Go bs H' (upd H' a (Exk C dd a)) := Go.new ha
  have R2 : Re K bs (upd H' a (Exk C dd a)) σ' S' := R'.go g (R'.o.new ha)
  have hdn : dd ∉ bs := fun hm => by
    obtain ⟨k, hk, ek⟩ := List.mem_iff_getElem.mp hm
    have h1 : bs[k]? = some dd := by rw [List.getElem?_eq_getElem hk, ek]
    have h2 : k < S'.os.length := R'.o.len ▸ hk
    have z := R'.o.own k dd S'.os[k] h1 (List.getElem?_eq_getElem h2)
    cases eo : S'.os[k] with
    | ml xs =>
      rw [eo] at z
      obtain ⟨vs, q, _⟩ := z
      rw [e] at q
      cases q
    | md xs =>
      rw [eo] at z
      obtain ⟨vs, q, _⟩ := z
      rw [e] at q
      cases q
  have had : dd ≠ a := ne_of_none e ha
  have rx : Dx K bs (upd H' a (Exk C dd a)) (.ref a) (.xo C fds) := .xo (R'.o.notin ha) hdn upd_same (by rw [upd_ne had]; exact e) (DxF.way (Way.of_go g) rf)
  have R3 := (R2.set i (v := .ref a) (d := .d (.xo C fds)) rx).set j (v := .ref a) (d := .d (.xo C fds)) rx
  have R4 : Re K bs (upd H' a (Exk C dd a)) (((σ'.set i (some (.ref a))).set j (some (.ref a))).set i none) ⟨((S'.s.set i (some (.d (.xo C fds)))).set j (some (.d (.xo C fds)))).set i none, S'.os⟩ := by
    refine ⟨R3.o, by simpa using R3.slen, fun k d hd => ?_⟩
    have hd' : ((((S'.s.set i (some (Sv.d (.xo C fds)))).set j (some (Sv.d (.xo C fds)))).set i none)[k]? = some (some d)) := hd
    by_cases hk : i = k
    · subst hk
      rw [List.getElem?_set] at hd'
      split at hd'
      · split at hd' <;> cases hd'
      · exact absurd rfl ‹_›
    · rw [List.getElem?_set_ne hk] at hd'
      obtain ⟨u, e1, e2⟩ := R3.slot k d hd'
      exact ⟨u, by rw [List.getElem?_set_ne hk]; exact e1, e2⟩
  exact n bs _ _ _ (s.trans (Stp.of_go g R2.o)) R4 h3
end
end Br

/-! BrR: a text back to front. -/
namespace Br
open PySem PySem.Spec PyProof.Rows L2
/-- z[::-1], of which its length is told -/
def tRevS (te : TE) : TE := fun σ H Q => te σ H fun x H1 => ∃ z : Str, x = .str z ∧ z.length ≤ sizeLine ∧ ∀ y : Str, y.length ≤ z.length → Q (.str y) H1
theorem pe_revs {X : Cx} {e : Expr} {te : TE} {k : Nat} {p1 p2 p3 pos : Pos} (he : PE X e te) : PE X (.Subscript e (.Slice none none (some (.UnaryOp .USub (.Constant (.int 1) k p1) p2)) p3) pos) (tRevS te) := by
  refine ⟨fun pins s σ H Q I h => ?_⟩
  refine Subscript_ (thn (he.run pins s σ H _ I h) fun v s1 ⟨x, H1, I1, r1, q1⟩ => ?_)
  obtain ⟨z, ex, hz, q⟩ := q1
  subst ex
  obtain ⟨t, rfl⟩ := r1
  have hst : PO X (some (.UnaryOp .USub (.Constant (.int 1) k p1) p2)) (tPart (tUn (rU fun i => .int (-i)) (tC (.int 1)))) := po_some (pe_un un_neg pe_int)
  refine wpAny_Slice (thn (po_none.run pins s1 σ H1 (fun o H2 => o = none ∧ H2 = H1) I1 ⟨rfl, rfl⟩) fun vl s2 ⟨l, H2, I2, pl, el, e2⟩ => ?_)
  subst el e2
  refine thn (po_none.run pins s2 σ H2 (fun o H3 => o = none ∧ H3 = H2) I2 ⟨rfl, rfl⟩) fun vu s3 ⟨u, H3, I3, pu, eu, e3⟩ => ?_
  subst eu e3
  refine thn (hst.run pins s3 σ H3 (fun o H4 => o = some (-1) ∧ H4 = H3) I3 ⟨1, rfl, -1, rfl, rfl, rfl⟩) fun vs s4 ⟨o, H4, I4, ps, eo, e4⟩ => ?_
  subst eo e4
  obtain ⟨l, rfl, el⟩ := IsPart.raw pl
  obtain ⟨u, rfl, eu⟩ := IsPart.raw pu
  obtain ⟨st, rfl, es⟩ := IsPart.raw ps
  have I5 : Inv X pins σ H4 { s4 with heap := s4.heap.push { cls := .type "slice", data := .fields #[partValue l, partValue u, partValue st] } } := I4.kept (t' := s4.toks) fun b ob q => Heap.get?_push_of_some _ q
  show wpAny (model X.prog X.w) X.A (subscriptTail e (.Slice none none (some (.UnaryOp .USub (.Constant (.int 1) k p1) p2)) p3) (.str z t) (.ref s4.heap.objs.size)) (EP X pins σ Q) X.xe { s4 with heap := s4.heap.push { cls := .type "slice", data := .fields #[partValue l, partValue u, partValue st] } }
  refine tail_any (ops := [.ref s4.heap.objs.size, .str z t]) (typeIs_str _ _ _) PySem.F.slot_str_getitem.lookup ?_ (by with_unfolding_all rfl)
  refine wpAny_getItem_str_slice (l := l) (u := u) (st := st) (Heap.IsSliceOf.new _ _ _ _) (by rw [es]; rfl) ?_
  cases l with
  | some l => cases el
  | none =>
    cases u with
    | some u => cases eu
    | none =>
      cases st with
      | none => cases es
      | some st =>
        obtain ⟨n, tk⟩ := st
        have en : n = -1 := by
          have e : some n = some (-1) := es
          injection e
        subst en
        have hlen := step_rev_len z tk
        have hn : ¬ (((((some ((-1 : Int), tk)).map (·.1)).getD 1 == 1) && ((slicePicked z none none (some ((-1 : Int), tk))).length == z.length)) = true) := by
          have : ((((some ((-1 : Int), tk)).map (·.1)).getD 1 == 1)) = false := rfl
          rw [this]
          simp
        have e1 : Txt.sliceBy z none none (-1, tk) = ⟨((slicePicked z none none (some (-1, tk))).filterMap (z.cps[·]?)).toArray⟩ := by
          unfold Txt.sliceBy
          rw [if_neg hn]
        have e2 : sliceMade z t none none (some (-1, tk)) = Made.str (Txt.sliceBy z none none (-1, tk)) := by
          rw [e1]
          unfold sliceMade
          rw [if_neg hn]
        rw [e2]
        exact ⟨by rw [hlen]; exact hz, .str _, _, I5.tok _, ⟨_, rfl⟩, q _ (Nat.le_of_eq hlen)⟩
section
variable {K : PySem.W.Frag} {X : Xc} {S : Sa} {Q : Sv → Os → Prop} {te : TE}
theorem ew_revs (h : EW K X te S fun x os => ∃ z : Str, x = .d (.str z) ∧ z.length ≤ sizeLine ∧ ∀ y : Str, y.length ≤ z.length → Q (.d (.str y)) os) : EW K X (tRevS te) S Q := fun as H σ Q' R x k =>
  h as H σ _ R x fun v H1 d os1 g1 R1 r1 ⟨z, ed, hz, q⟩ => by
    subst ed
    cases r1
    exact ⟨z, rfl, hz, fun y hy => k _ H1 (.d (.str y)) os1 g1 R1 (Dx.str _) (q y hy)⟩
end
end Br

/-! BrF: a byte in two signs; a tuple's slices. -/
namespace PySem.W
open Lean Elab Tactic Meta PySem PySem.Calls PyProof.Rows
open Builtin Builtin.Str Builtin.Int Builtin.Float
def br_two (n : Nat) : PySem.Str := ⟨#[("0123456789abcdef" : PySem.Str).cps.getD (n / 16) 0, ("0123456789abcdef" : PySem.Str).cps.getD (n % 16) 0]⟩
theorem br_fmt02 {a : Int} {t : Tok} {n : Nat} (ha : a = (n : Int)) (hn : n < 256) : ∀ u, Meets («int.__format__» ⟨[.int a t, .str ⟨#[48, 50, 120]⟩ u], []⟩) (fun _ R s => ∀ t' k, R (.ok (.ret (.str (br_two n) t'))) { s with toks := k }) := by
  intro _
  apply KPc.meets_of
  intro _ _ _ _ _ _ _
  unfold Builtin.«int.__format__»
  refine wpAny_bind (wpAny_of_eq (a := (_, _)) rfl ?_)
  refine wpAny_bind (wpAny_of_eq (a := _) rfl ?_)
  kxf_if
  refine wpAny_bind (wpAny_typeNameOf (T := "str") (typeIs_str _ _ _) (by decide) fun _ => ?_)
  refine wpAny_bind (wpAny_of_eq (a := some _) rfl ?_)
  kxf_if
  kxf_if
  refine wpAny_bind (wpAny_typeNameOfCut_int ?_)
  (repeat kxf_if)
  subst ha
  refine KXf.ret_text (T := br_two n) ?_ ?_ (by assumption)
  · rename_i h _
    clear h
    revert hn
    revert n
    decide +kernel
  · rename_i h _
    clear h
    refine Nat.le_trans (m := 100) ?_ (by rw [sizeLine_eq]; decide)
    revert hn
    revert n
    decide +kernel
end PySem.W

namespace Br
open PySem PySem.Spec PyProof.Rows L2
/-- f'{x:02x}' of a byte -/
def tFmt2 (te : TE) : TE := fun σ H Q => te σ H fun x H1 => ∃ n : Nat, x = .int (n : Int) ∧ n < 256 ∧ Q (.str (PySem.W.br_two n)) H1
theorem pe_fmt02x {X : Cx} {e : Expr} {te : TE} {pos p1 p2 : Pos} {k : Nat} (he : PE X e te) : PE X (.FormattedValue e (-1) (some (.JoinedStr [.Constant (.str "02x") k p1] p2)) pos) (tFmt2 te) := by
  refine ⟨fun pins s σ H Q I h => ?_⟩
  have hs : PE X (.JoinedStr [.Constant (.str "02x") k p1] p2) (tC (.str "02x")) := pe_joined1 pe_str
  refine wpAny_FormattedValue_spec (thn (he.run pins s σ H _ I h) fun v s1 ⟨x, H1, I1, r1, n, ex, hn, q⟩ => ?_)
  subst ex
  obtain ⟨t, rfl⟩ := r1
  refine thn (hs.run pins s1 σ H1 (fun y H2 => y = .str "02x" ∧ H2 = H1) I1 ⟨rfl, rfl⟩) fun r s2 ⟨y, H2, I2, r2, ey, e2⟩ => ?_
  subst ey e2
  obtain ⟨t2, rfl⟩ := r2
  refine ⟨_, t2, rfl, PySem.W.KXf.field_int (spec' := ⟨#[48, 50, 120]⟩) (by decide +kernel) (by decide) (by rw [sizeLine_eq]; decide) (PySem.W.br_fmt02 rfl hn) fun t' k => ?_⟩
  exact ⟨.str _, _, I2.tok _, ⟨t', rfl⟩, q⟩
section
variable {K : PySem.W.Frag} {X : Xc} {S : Sa} {Q : Sv → Os → Prop} {te : TE}
theorem ew_fmt2 (h : EW K X te S fun x os => ∃ n : Nat, x = .d (.int (n : Int)) ∧ n < 256 ∧ Q (.d (.str (PySem.W.br_two n))) os) : EW K X (tFmt2 te) S Q := fun as H σ Q' R x k =>
  h as H σ _ R x fun v H1 d os1 g1 R1 r1 ⟨n, ed, hn, q⟩ => by
    subst ed
    cases r1
    exact ⟨n, rfl, hn, k _ H1 (.d (.str _)) os1 g1 R1 (Dx.str _) q⟩
theorem cutD_all {xs : List D} {lo hi : Option Int} (h : HT.sIx xs.length 0 lo = 0 ∧ HT.sIx xs.length xs.length hi = xs.length) : cutD xs lo hi = xs := by
  unfold cutD
  rw [h.1, h.2]
  simp
theorem sw_T {xs : List D} {lo hi : Option Int} {os : Os} (q : Q (.d (.tup (cutD xs lo hi))) os) : SW K (rSlA K) (.d (.tup xs)) lo hi os Q := fun as H v Q' R r k => by
  cases r with
  | @tup a vs _ hl hr =>
    refine ⟨a, vs, rfl, hl.sq, fun h => ?_, fun h p hp => k _ _ (.d (.tup _)) os (Go.new hp) (R.new hp) (dx_newT R hp (cut_dx hr lo hi)) q⟩
    rw [hr.length] at h
    rw [cutD_all h] at q
    exact k _ H (.d (.tup xs)) os (Go.refl _ _) R (.tup hl hr) q
end
/-! within a comprehension, where the context's own K isn't to be named -/
def tJn (K : PySem.W.Frag) (to te : TE) : TE := tM1 (fun x xs H Q => ∃ a p, ∃ ys : List Str, x = .str a ∧ xs = [.ref p] ∧ (SqL K H p (ys.map V.str) ∨ SqT K H p (ys.map V.str)) ∧ (ys.map (·.length)).sum + ys.length * a.length ≤ 16777216 ∧ Q (.str (Txt.join a ys)) H) to te
theorem pe_joinK {X : Cx} {K : PySem.W.Frag} (hK : X.K = K) {o e : Expr} {to te : TE} {apos pos : Pos} (ho : PE X o to) (he : PE X e te) (hs : starEach [e] X.env = [(false, eval e X.env)] := by rfl) (hbase : attributeBase o "join" X.env (eval o X.env) = eval o X.env := by rfl) (hline : (apos.endLine == pos.line) = true := by rfl) :
    PE X (.Call (.Attribute o "join" apos) [e] [] pos) (tJn K to te) := by
  subst hK
  exact pe_join ho he hs hbase hline
theorem pi_tupK {X : Cx} {K : PySem.W.Frag} (hK : X.K = K) {tg l : Expr} {tl : TE} (hl : PE X l tl) : PI X tg l (iTup K tl) := by
  subst hK
  exact pi_tup hl
section
variable {K : PySem.W.Frag} {X : Xc} {S : Sa} {Q : Sv → Os → Prop} {te to : TE}
theorem ew_joinK (h : EW K X to S fun x os => ∃ a : Str, x = .d (.str a) ∧ EW K X te ⟨S.s, os⟩ fun y os2 => ∃ ys : List Str, y = .d (.lst (ys.map D.str)) ∧ (ys.map (·.length)).sum + ys.length * a.length ≤ 16777216 ∧ Q (.d (.str (Txt.join a ys))) os2) : EW K X (tJn K to te) S Q := ew_join h
end
end Br

/-! BrG: a law's own def, called with nothing being shown: repr of data. -/
namespace Br
open PySem PySem.Spec PyProof.Rows L2
/-- a def's promise where no repr is under way -/
structure FnG (P : Program) (w : World) (K : PySem.W.Frag) (mg : Str → Option Value) (base : Heap) (k : Nat) (f : Addr) (fd : FuncData) (ps : List Str) (sp : Sp) : Prop where
  len : ∀ vs H Q E, sp vs H Q E → vs.length = ps.length
  run : ∀ (A : Around) (outer : List Env) (s : Shared) (H : Hp) (args : Args) (us : List Value) (vs : List V) (Q : VK) (E : XK), A.guards = some [] → Room k A → Env0 P w K mg base A outer s H → BindsTo s fd args (ps.zip us) → Vals vs us → sp vs H Q E →
    codeAny (model P w) A (.call (.ref f) args) (CR CX0 outer P w H s Q E) s
theorem fn_ofG {P : Program} {w : World} {K : PySem.W.Frag} {mg : Str → Option Value} {base : Heap} {k : Nat} {f : Addr} {name qual : Str} {params : Arguments} {body : List Stmt} {scope : Scope} {dV kV doc pm cdv ct oc : Value} {an od : Option Addr}
    {osl : Array (Option Value)} {N ps : List Str} {sp : Sp} (lk : K.lookup f = some ⟨oc, od, .func (PySem.W.fnOf name qual params body scope dV kV doc pm an cdv ct), osl⟩) (hcd : PySem.W.codeIn K cdv qual = true) (S : FnScope N ps scope)
    (len : ∀ vs H Q E, sp vs H Q E → vs.length = ps.length)
    (hbody : ∀ (A : Around) (outer : List Env) (s : Shared) (H : Hp) (vs : List V) (Q : VK) (E : XK), (A.deeper (envOfC qual scope s.heap.objs.size f cdv)).guards = some [] → Room k (A.deeper (envOfC qual scope s.heap.objs.size f cdv)) → sp vs H Q E →
      ∃ t, PSs (cxOf CX0 P w K mg base N qual scope f cdv A outer s H E) body t ∧ t { nx := fun _ H' => Q .non H', rt := Q } (L2.start N vs) H) :
    FnG P w K mg base (k + 1) f (PySem.W.fnOf name qual params body scope dV kV doc pm an cdv ct) ps sp where
  len := len
  run A outer s H args us vs Q E hg hr e0 hb r hsp := by
    have inK : K.In s.heap := e0.mod.kin.keeps fun p u q => (e0.bs p u q).1
    have free : s.heap.NoLimit := e0.mod.nolimit.keeps fun p u q => (e0.bs p u q).1
    have kinds : ∀ z ∈ ps.zip us, scope.names.lookup z.1 = some .local ∨ (scope.names.lookup z.1 = some .cell ∧ ((cellsFrom (s.heap.objs.size + 1) scope.names []).lookup z.1).isSome = true) := by
      rintro ⟨m, u⟩ hz
      cases S.par m (List.of_mem_zip hz).1 with
      | inl z => exact .inl z
      | inr z => exact .inr ⟨z, PySem.W.cellsFrom_some _ _ _ (.inl z)⟩
    apply codeAny_call_function hr.depth (inK _ _ lk) rfl S.co S.gen rfl (PySem.W.codeRec_of inK hcd)
    apply hb
    apply wpAny_newFunctionEnv_cells S.kind kinds
    intro env henv s1 hin
    cases henv
    refine ⟨free.keeps hin.toInCall.keep, codeAny_func ?_⟩
    have hg2 : (A.deeper (envOfC qual scope s.heap.objs.size f cdv)).guards = some [] := hg
    obtain ⟨t, rules, reading⟩ := hbody A outer s H vs Q E hg2 (hr.deeper _) hsp
    have J : Inv (cxOf CX0 P w K mg base N qual scope f cdv A outer s H E) [] (L2.start N vs) H s1 := inv_start S hr.hd e0 (len _ _ _ _ hsp) r hin
    have run := rules.run [] s1 (L2.start N vs) H _ J reading
    refine wpAny_mono run ?_ fun _ _ z => z
    intro fl s' ends
    cases fl with
    | brk => exact ends.elim fun _ z => z.elim fun _ z => z.2.elim
    | cont => exact ends.elim fun _ z => z.elim fun _ z => z.2.elim
    | ret u =>
      obtain ⟨v, _, H2, J2, rv, q⟩ := ends
      exact ⟨v, H2, J2.os, J2.bare, J2.base, J2.hok, rv, q⟩
    | next =>
      obtain ⟨_, H2, J2, q⟩ := ends
      exact ⟨V.non, H2, J2.os, J2.bare, J2.base, J2.hok, rfl, q⟩
/-- the call of a law's def, behind the top -/
theorem called {P : Program} {w : World} {K : PySem.W.Frag} {mg mb : Str → Option Value} {k : Nat} {fa a : Addr} {fd : FuncData} {x : Str} {sp : Sp} {s : Shared} {vs : List Value} {ns : List Int}
    (inK : K.In s.heap) (gl : s.heap.Ns mainGlobals mg) (bl : s.heap.Ns builtinsNs mb) (blb : ∀ y : Str, y ≠ "__name__" → mb y = bootBuiltins y) (lim : s.heap.NoLimit) (gens : s.gens = #[])
    (at_a : s.heap.get? a = some { cls := .type "list", data := .seq vs.toArray }) (nums : IntsAre vs ns) (short : ns.length ≤ sizeLine) (room : Room k callerA)
    (F : ∀ base : Heap, K.In base → base.Ns mainGlobals mg → FnG P w K mg base k fa fd [x] sp) (binds : ∀ (s : Shared) (u : Value), BindsTo s fd ⟨[u], []⟩ [(x, u)])
    (promise : ∀ H : Hp, SqL K H a (ns.map V.int) → sp [.ref a] H (fun v _ => v = .bl true) fun _ _ _ => False) :
    codeAny (model P w) callerA (.call (.ref fa) ⟨[.ref a], []⟩) (fun r s' => r = .ok (.ret (.bool true)) ∧ OldK s.heap s'.heap ∧ s'.os = s.os ∧ AllBare s'.gens) s := by
  have lenV := nums.length
  have vals := vals_ints nums
  -- what is tracked: the script, unless it is written
  obtain ⟨H, only, seq, ok, fresh⟩ : ∃ H : Hp, (∀ b, H b = none ∨ (b = a ∧ H b = some (.frz { cls := .type "list", data := .seq vs.toArray } (.lst (ns.map V.int))))) ∧ SqL K H a (ns.map V.int) ∧ HOk P w H s.heap ∧ (H a ≠ none → K.lookup a = none) := by
    cases hk : K.lookup a with
    | some o =>
      have e := inK a o hk
      rw [at_a] at e
      cases e
      exact ⟨fun _ => none, fun _ => .inl rfl, .inr ⟨_, vs.toArray, _, hk, rfl, rfl, rfl, by rw [List.size_toArray, lenV]; exact short, by simpa using vals⟩, fun _ _ z => (nomatch z), fun z => absurd rfl z⟩
    | none =>
      have tracked : ∀ b, (if b = a then some (HO.frz { cls := .type "list", data := .seq vs.toArray } (.lst (ns.map V.int))) else none) = none ∨ (b = a ∧ (if b = a then some (HO.frz { cls := .type "list", data := .seq vs.toArray } (.lst (ns.map V.int))) else none) = some (.frz { cls := .type "list", data := .seq vs.toArray } (.lst (ns.map V.int)))) := fun b => by
        by_cases e : b = a
        · exact .inr ⟨e, if_pos e⟩
        · exact .inl (if_neg e)
      refine ⟨fun b => if b = a then some (.frz { cls := .type "list", data := .seq vs.toArray } (.lst (ns.map V.int))) else none, tracked, .inl (.inr ⟨_, if_pos rfl⟩), fun b u z => ?_, fun _ => rfl⟩
      rcases tracked b with q | ⟨e, q⟩
      · have y := q.symm.trans z
        cases y
      · have y := q.symm.trans z
        cases y
        subst e
        exact ⟨at_a, by rw [List.length_map]; exact short, vs, _, vals, at_a⟩
  have dicts : ∀ {b : Addr} {o : Obj} {es : Array DictEntry} {ep : Nat}, s.heap.get? b = some o → o.data = .dict es ep → H b = none := fun {b o es ep} e d => by
    rcases only b with z | ⟨rfl, _⟩
    · exact z
    · rw [at_a] at e
      cases e
      exact absurd d (by intro z; cases z)
  have low : ∀ {b : Addr} {m : Str → Option Value}, s.heap.Ns b m → (hidT s.heap H).Ns b m := by
    rintro b m ⟨o, es, ep, e, d, r⟩
    exact ⟨o, es, ep, hidT_get e (dicts e d), d, r⟩
  have lowK : K.In (hidT s.heap H) := fun b o e => hidT_get (inK b o e) (by
    rcases only b with z | ⟨rfl, z⟩
    · exact z
    · have y := fresh (by rw [z]; intro q; cases q)
      rw [e] at y
      cases y)
  have limL : (hidT s.heap H).NoLimit := by
    obtain ⟨mc, h1, h2⟩ := lim
    exact ⟨mc, low h1, h2⟩
  have e0 : Env0 P w K mg (hidT s.heap H) callerA [] s H :=
    ⟨rfl, ⟨lowK, low gl, ⟨mb, low bl, blb⟩, limL⟩, fun b o e => of_hidT e, Nat.le_of_eq (hidT_size _ _), trivial, fun b hb => (by cases hb), ok, .of_eq gens⟩
  have run := (F _ lowK (low gl)).run callerA [] s H ⟨[.ref a], []⟩ [.ref a] [.ref a] (fun v _ => v = .bl true) (fun _ _ _ => False) rfl room e0 (binds s (.ref a)) (.cons rfl .nil) (promise H seq)
  refine codeAny_mono run fun r s' q => ?_
  cases r with
  | error e => exact q.elim
  | ok fl =>
    cases fl with
    | next => exact q.elim
    | brk => exact q.elim
    | cont => exact q.elim
    | ret u =>
      obtain ⟨v, H2, os, bare, un, ok2, rv, ev⟩ := q
      have ev' : v = .bl true := ev
      subst ev'
      have eu : u = Value.bool true := rv
      subst eu
      refine ⟨rfl, OldK.of_keep fun b o e => ?_, os, bare⟩
      rcases only b with z | ⟨rfl, z⟩
      · exact un.keep b o e z (by intro q; cases q) (by intro q; cases q)
      · have z2 := un.frzs _ _ _ z
        have y1 := (ok _ _ z).1
        have y2 := (ok2 _ _ z2).1
        rw [e] at y1
        cases y1
        exact y2
/-- the goal that the head leaves -/
theorem walkG {l : PySem.W.OpenLaw} {n k : Nat} {q : Program} {loose : List Str} {XP : (Str → Option Value) → Heap → Prop} {YP : World → Heap → Prop} {d : DefRec} {K : Params → PySem.W.Frag} {sp : World → Sp} {x : Str}
    (hn : l.most = some n) (hn2 : n ≤ sizeLine) (hdf : d.params.defaults = []) (room : Room k callerA) (hY : ∀ (w : World) (h : Heap), YP w h → (K w.params).In h)
    (F : ∀ (w : World) (mg : Str → Option Value) (fa : Addr) (h : Heap), (K w.params).In h → h.Ns mainGlobals mg → mg d.name = some (.ref fa) →
      ∃ fd : FuncData, (∀ (s : Shared) (u : Value), BindsTo s fd ⟨[u], []⟩ [(x, u)]) ∧ ∀ base : Heap, (K w.params).In base → base.Ns mainGlobals mg → FnG l.prog w (K w.params) mg base k fa fd [x] (sp w))
    (promise : ∀ (w : World) (H : Hp) (a : Addr) (ns : List Int), ns.length ≤ n → SqL (K w.params) H a (ns.map V.int) → sp w [.ref a] H (fun v _ => v = .bl true) fun _ _ _ => False) :
    PySem.W.WalkO q loose XP YP l.row.toRowW d [] (fun f vs => PySem.call f vs) := by
  refine Att.attach_call hn hdf ?_
  intro w s₀ s₁ mg mb fa o pm cd doc a vs ns G Y _ _ _ named obj nums len gens
  have inK := hY w _ Y
  obtain ⟨fd, binds, hF⟩ := F w mg fa _ inK G.T.g named
  exact called inK G.T.g G.T.b G.T.builtins G.T.nolimit gens obj nums (Nat.le_trans len hn2) room hF binds fun H seq => promise w H a ns len seq
/-! ### repr -/
def rRepr (K : PySem.W.Frag) : List V → Hp → VK → Prop := fun xs H Q => ∃ (a : Addr) (p : PyData), xs = [.ref a] ∧ Dp K H (.ref a) p ∧ p.showable = true ∧ p.hasDict = false ∧ p.depth ≤ 10 ∧ p.shown.length ≤ sizeLine ∧ Q (.str p.shown) H
theorem call_repr {X : Cx} (hg : X.A.guards = some []) (hu : X.A.units + 64 < cLine) : CallR X (.builtin "repr") (rRepr X.K) := by
  intro pins s σ H xs us Q I r h
  obtain ⟨a, p, rfl, hd, h1, h2, h3, h4, q⟩ := h
  obtain ⟨u, rfl, rx⟩ := vals1 r
  obtain ⟨as, rd⟩ := Dp.reads I p _ _ hd rx
  cases (show u = Value.ref a from rx)
  refine repr_of_reads' rd h1 (fun z => by rw [h2] at z; cases z) hg (by omega) (fun _ _ e => e) (fun h' t tk keep => ?_) h4
  exact ⟨.str p.shown, H, I.kept (t' := tk) keep, ⟨t, rfl⟩, q⟩
section
variable {K : PySem.W.Frag} {os : Os} {Q : Sv → Os → Prop}
theorem cw_reprL {xs : List D} {ps : List PyData} (e : D.pys xs = some ps) (h1 : (PyData.list ps).showable = true) (h2 : (PyData.list ps).hasDict = false) (h3 : (PyData.list ps).depth ≤ 10) (h4 : (PyData.list ps).shown.length ≤ sizeLine) (q : Q (.d (.str (PyData.list ps).shown)) os) : CW K (rRepr K) [.d (.lst xs)] os Q :=
  cw_pure (fun as H vs Q' R r k => by
    cases r with
    | cons h t =>
      cases t
      have dp := Dx.dp (p := .list ps) h (by show (D.pys xs).map PyData.list = _; rw [e]; rfl)
      cases h with
      | @lst a vs _ hl hr => exact ⟨a, _, rfl, dp, h1, h2, h3, h4, k _ (.str _)⟩) q
theorem cw_reprU {xs : List D} {ps : List PyData} (e : D.pys xs = some ps) (h1 : (PyData.tuple ps).showable = true) (h2 : (PyData.tuple ps).hasDict = false) (h3 : (PyData.tuple ps).depth ≤ 10) (h4 : (PyData.tuple ps).shown.length ≤ sizeLine) (q : Q (.d (.str (PyData.tuple ps).shown)) os) : CW K (rRepr K) [.d (.tup xs)] os Q :=
  cw_pure (fun as H vs Q' R r k => by
    cases r with
    | cons h t =>
      cases t
      have dp := Dx.dp (p := .tuple ps) h (by show (D.pys xs).map PyData.tuple = _; rw [e]; rfl)
      cases h with
      | @tup a vs _ hl hr => exact ⟨a, _, rfl, dp, h1, h2, h3, h4, k _ (.str _)⟩) q
end
end Br

/-! BrH: the store's lists: made, grown, read. -/
namespace Br
open PySem L2
section
variable {K : PySem.W.Frag} {X : Xc} {S : Sa} {Q : Sv → Os → Prop} {E : Ea} {te to : TE} {ta : TA}
theorem stp_new {as : List Addr} {H : Hp} {os : Os} {p : Addr} (R : Ro K as H os) (hp : H p = none) : Stp as H (as ++ [p]) (upd H p (.lst [])) := stp_add hp
/-- x = [], a list that changes -/
theorem w_newL {i : Nat} (q : E.nx ⟨S.s.set i (some (.o S.os.length)), S.os ++ [.ml []]⟩) : W K X (tAsg (tLst tNil) (gName i)) E S := fun as H σ D R x n r b c => by
  refine ⟨Nat.zero_le _, fun p hp => ?_⟩
  have R2 : Re K (as ++ [p]) (upd H p (.lst [])) σ ⟨S.s, S.os ++ [.ml []]⟩ := ⟨ro_add R.o hp, R.slen, fun j d hd => by
    obtain ⟨u, e, z⟩ := R.slot j d hd
    exact ⟨u, e, z.stp (stp_new R.o hp)⟩⟩
  exact n _ _ _ _ (stp_new R.o hp) (R2.set i (v := .ref p) (d := .o S.os.length) ⟨p, by rw [← R.o.len]; simp, rfl⟩) q
/-- x.append(e) -/
theorem ew_app (h : EW K X to S fun x os1 => ∃ k xs1, x = .o k ∧ os1[k]? = some (.ml xs1) ∧ EW K X te ⟨S.s, os1⟩ fun y os2 => ∃ z xs, y = .d z ∧ os2[k]? = some (.ml xs) ∧ xs.length < sizeLine ∧ Q (.d .non) (os2.set k (.ml (xs ++ [z])))) :
    EW K X (tBM K "list" rAppend to (tCons te tNil)) S Q := fun as H σ Q' R x k =>
  h as H σ _ R x fun v H1 d os1 g1 R1 r1 ⟨j, xs1, ed, eo1, h2⟩ => by
    subst ed
    obtain ⟨a, ea, rfl⟩ := r1
    refine ⟨?_, h2 as H1 σ _ (R.go g1 R1) (x.go g1 R1) fun u H2 e os2 g2 R2 r2 ⟨z, xs, ey, eo, hl, q⟩ => ?_⟩
    · obtain ⟨ws, q1, _⟩ := R1.own j a _ ea eo1
      exact .inl ⟨rfl, ws, .inl (.inl q1)⟩
    · subst ey
      obtain ⟨vs, h1, h3⟩ := R2.own j a _ ea eo
      have hm : a ∈ as := List.mem_of_getElem? ea
      have g3 : Go as H2 (upd H2 a (.lst (vs ++ [u]))) := Go.at hm
      have rz : Dx K as H2 u z := r2
      have R3 : Ro K as (upd H2 a (.lst (vs ++ [u]))) (os2.set j (.ml (xs ++ [z]))) := ro_set R2 ea ⟨_, upd_same, DxA.way (Way.of_go g3) (DxA.app h3 (.cons rz .nil))⟩
      exact ⟨a, vs, u, rfl, rfl, h1, by rw [h3.length]; exact hl, k .non _ (.d .non) _ ((g1.trans g2).trans g3) R3 Dx.non q⟩
/-- a list of the store, as it is read -/
theorem o_list {as : List Addr} {H : Hp} {os : Os} {v : V} {j : Nat} {xs : List D} (R : Ro K as H os) (r : SvR K as H v (.o j)) (e : os[j]? = some (.ml xs)) : ∃ a vs, v = .ref a ∧ SqL K H a vs ∧ DxA K as H vs xs := by
  obtain ⟨a, ea, rfl⟩ := r
  obtain ⟨vs, h1, h2⟩ := R.own j a _ ea e
  exact ⟨a, vs, rfl, .inl (.inl h1), h2⟩
theorem cw_lenO {os : Os} {j : Nat} {xs : List D} (e : os[j]? = some (.ml xs)) (q : Q (.d (.int (xs.length : Int))) os) : CW K (rLen K) [.o j] os Q :=
  cw_pure (fun as H vs Q' R r k => by
    cases r with
    | cons h t =>
      cases t
      obtain ⟨a, ws, rfl, hs, hr⟩ := o_list R h e
      refine ⟨a, ws, rfl, .inl hs, ?_⟩
      rw [hr.length]
      exact k _ (.int _)) q
theorem bw_ixO {os : Os} {j : Nat} {xs : List D} {i : Int} {z : D} (e : os[j]? = some (.ml xs)) (h : L2.atI xs i = some z) (q : Q (.d z) os) : BW K (rIxL K) (.o j) (.d (.int i)) os Q :=
  bw_pure (fun as H v u Q' R rx ry k => by
    cases ry
    obtain ⟨a, ws, rfl, hs, hr⟩ := o_list R rx e
    obtain ⟨u, e1, r⟩ := hr.atI h
    exact ⟨a, ws, i, u, rfl, rfl, hs, e1, k _ r⟩) q
theorem cw_tupO {os : Os} {j : Nat} {xs : List D} (e : os[j]? = some (.ml xs)) (q : Q (.d (.tup xs)) os) : CW K (rTupOf K) [.o j] os Q :=
  cw_new (fun as H vs Q' R r k1 k2 => by
    cases r with
    | cons h t =>
      cases t
      obtain ⟨a, ws, rfl, hs, hr⟩ := o_list R h e
      exact ⟨a, ws, rfl, .inl ⟨hs, fun l hl => k1 l _ hl (dx_newT R hl hr)⟩⟩) q
theorem cw_lstO {os : Os} {j : Nat} {xs : List D} (e : os[j]? = some (.ml xs)) (q : Q (.d (.lst xs)) os) : CW K (rListOf K) [.o j] os Q :=
  cw_new (fun as H vs Q' R r k1 k2 => by
    cases r with
    | cons h t =>
      cases t
      obtain ⟨a, ws, rfl, hs, hr⟩ := o_list R h e
      exact ⟨a, ws, rfl, .inl hs, fun l hl => k1 l _ hl (dx_newL R hl hr)⟩) q
end
end Br

/-! BrW: written constants: tuples, lists, dicts with text keys, looked over at once. -/
namespace Br
open PySem L2
mutual
def dOk (K : PySem.W.Frag) : D → Value → Bool
  | .non, u => decide (u = .none)
  | .bl b, u => decide (u = .bool b)
  | .int i, u => match u with
    | .int j _ => decide (i = j)
    | _ => false
  | .str x, u => match u with
    | .str y _ => decide (x = y)
    | _ => false
  | .tup ds, u => match u with
    | .ref a => match K.lookup a with
      | some o => decide (o.cls = .type "tuple") && match o.data with
        | .seq its _ => decide (its.size ≤ sizeLine) && dsOk K ds its.toList
        | _ => false
      | none => false
    | _ => false
  | .lst ds, u => match u with
    | .ref a => match K.lookup a with
      | some o => decide (o.cls = .type "list") && (decide (o.dict = none) && match o.data with
        | .seq its _ => decide (its.size ≤ sizeLine) && dsOk K ds its.toList
        | _ => false)
      | none => false
    | _ => false
  | .dk _, _ => false
  | .ob _ _, _ => false
  | .xo _ _, _ => false
def dsOk (K : PySem.W.Frag) : List D → List Value → Bool
  | [], us => us.isEmpty
  | d :: ds, us => match us with
    | u :: us => dOk K d u && dsOk K ds us
    | [] => false
end
variable {K : PySem.W.Frag}
mutual
theorem dOk_is : ∀ (d : D) (u : Value), dOk K d u = true → ∃ v, RelV v u ∧ ∀ as H, Dx K as H v d
  | .non, u, h => by
    have h2 : decide (u = .none) = true := h
    have e : u = .none := of_decide_eq_true h2
    exact ⟨.non, e, fun _ _ => .non⟩
  | .bl b, u, h => by
    have h2 : decide (u = .bool b) = true := h
    have e : u = .bool b := of_decide_eq_true h2
    exact ⟨.bl b, e, fun _ _ => .bl b⟩
  | .int i, .int j t, h => by
    have h2 : decide (i = j) = true := h
    have e : i = j := of_decide_eq_true h2
    subst e
    exact ⟨.int i, ⟨t, rfl⟩, fun _ _ => .int i⟩
  | .str x, .str y t, h => by
    have h2 : decide (x = y) = true := h
    have e : x = y := of_decide_eq_true h2
    subst e
    exact ⟨.str x, ⟨t, rfl⟩, fun _ _ => .str x⟩
  | .tup ds, .ref a, h => by
    have h0 : (match K.lookup a with
      | some o => decide (o.cls = .type "tuple") && match o.data with
        | .seq its _ => decide (its.size ≤ sizeLine) && dsOk K ds its.toList
        | _ => false
      | none => false) = true := h
    cases eo : K.lookup a with
    | none => rw [eo] at h0; cases h0
    | some o =>
      rw [eo] at h0
      obtain ⟨h1, h2⟩ := Bool.and_eq_true_iff.mp h0
      have h3 : o.cls = .type "tuple" := of_decide_eq_true h1
      cases ed : o.data with
      | seq its n =>
        rw [ed] at h2
        obtain ⟨h4, h5⟩ := Bool.and_eq_true_iff.mp h2
        obtain ⟨vs, r1, r2⟩ := dsOk_is ds _ h5
        exact ⟨.ref a, rfl, fun as H => .tup (.inr ⟨o, its, n, eo, h3, ed, of_decide_eq_true h4, r1⟩) (r2 as H)⟩
      | _ => rw [ed] at h2; cases h2
  | .lst ds, .ref a, h => by
    have h0 : (match K.lookup a with
      | some o => decide (o.cls = .type "list") && (decide (o.dict = none) && match o.data with
        | .seq its _ => decide (its.size ≤ sizeLine) && dsOk K ds its.toList
        | _ => false)
      | none => false) = true := h
    cases eo : K.lookup a with
    | none => rw [eo] at h0; cases h0
    | some o =>
      rw [eo] at h0
      obtain ⟨h1, h2⟩ := Bool.and_eq_true_iff.mp h0
      obtain ⟨h6, h2⟩ := Bool.and_eq_true_iff.mp h2
      have h3 : o.cls = .type "list" := of_decide_eq_true h1
      cases ed : o.data with
      | seq its n =>
        rw [ed] at h2
        obtain ⟨h4, h5⟩ := Bool.and_eq_true_iff.mp h2
        obtain ⟨vs, r1, r2⟩ := dsOk_is ds _ h5
        exact ⟨.ref a, rfl, fun as H => .lst (.inr ⟨o, its, n, eo, h3, of_decide_eq_true h6, ed, of_decide_eq_true h4, r1⟩) (r2 as H)⟩
      | _ => rw [ed] at h2; cases h2
theorem dsOk_is : ∀ (ds : List D) (us : List Value), dsOk K ds us = true → ∃ vs, Vals vs us ∧ ∀ as H, DxA K as H vs ds
  | [], [], _ => ⟨[], .nil, fun _ _ => .nil⟩
  | [], _ :: _, h => by cases h
  | _ :: _, [], h => by cases h
  | d :: ds, u :: us, h => by
    have h0 : (dOk K d u && dsOk K ds us) = true := h
    obtain ⟨h1, h2⟩ := Bool.and_eq_true_iff.mp h0
    obtain ⟨v, r1, r2⟩ := dOk_is d u h1
    obtain ⟨vs, r3, r4⟩ := dsOk_is ds us h2
    exact ⟨v :: vs, .cons r1 r3, fun as H => .cons (r2 as H) (r4 as H)⟩
end
/-- a written dict with text keys, looked over: just these, in this order -/
def tbOk (K : PySem.W.Frag) (a : Addr) (tb : List (Str × D)) : Bool := tb.all fun kd => match PySem.W.nsIn K a kd.1 with
  | some (some u) => dOk K kd.2 u
  | _ => false
theorem tbOk_at {a : Addr} {tb : List (Str × D)} {k : Str} {d : D} (h : tbOk K a tb = true) (m : (k, d) ∈ tb) : ∃ u v, PySem.W.nsIn K a k = some (some u) ∧ RelV v u ∧ ∀ as H, Dx K as H v d := by
  have z := List.all_eq_true.mp h (k, d) m
  dsimp only at z
  cases e : PySem.W.nsIn K a k with
  | none => rw [e] at z; cases z
  | some o =>
    cases o with
    | none => rw [e] at z; cases z
    | some u =>
      rw [e] at z
      obtain ⟨v, r1, r2⟩ := dOk_is d u z
      exact ⟨u, v, rfl, r1, r2⟩
/-- a written dict, looked over: just these text keys, in this order -/
def keysOk (K : PySem.W.Frag) : List DictEntry → List (Str × D) → Bool
  | [], tb => tb.isEmpty
  | e :: es, tb => match tb with
    | kd :: tb => (match e.key with
      | .str x _ => decide (x = kd.1)
      | _ => false) && (dOk K kd.2 e.val && keysOk K es tb)
    | [] => false
def kdOk (K : PySem.W.Frag) (a : Addr) (tb : List (Str × D)) : Bool := match K.lookup a with
  | some ⟨_, _, .dict es _, _⟩ => keysOk K es.toList tb
  | _ => false
def lookT (tb : List (Str × D)) (z : Str) : Option D := (tb.find? fun kd => decide (kd.1 = z)).map (·.2)
theorem keys_find {z : Str} : ∀ {es : List DictEntry} {tb : List (Str × D)}, keysOk K es tb = true → (∃ d e, lookT tb z = some d ∧ es.find? (·.key.isStr z) = some e ∧ dOk K d e.val = true) ∨ (lookT tb z = none ∧ es.find? (·.key.isStr z) = none)
  | [], [], _ => .inr ⟨rfl, rfl⟩
  | [], _ :: _, h => by cases h
  | _ :: _, [], h => by cases h
  | e :: es, kd :: tb, h => by
    have h0 : ((match e.key with
      | .str x _ => decide (x = kd.1)
      | _ => false) && (dOk K kd.2 e.val && keysOk K es tb)) = true := h
    obtain ⟨h1, h2⟩ := Bool.and_eq_true_iff.mp h0
    obtain ⟨h3, h4⟩ := Bool.and_eq_true_iff.mp h2
    cases ek : e.key with
    | str x t =>
      rw [ek] at h1
      have ex : x = kd.1 := of_decide_eq_true h1
      by_cases hz : kd.1 = z
      · refine .inl ⟨kd.2, e, ?_, ?_, h3⟩
        · unfold lookT
          rw [List.find?_cons_of_pos (by simpa using hz)]
          rfl
        · rw [List.find?_cons_of_pos]
          rw [ek, ex, hz]
          show (z == z) = true
          exact beq_self_eq_true z
      · have ih := keys_find (z := z) h4
        have a1 : lookT (kd :: tb) z = lookT tb z := by
          unfold lookT
          rw [List.find?_cons_of_neg (by simpa using hz)]
        have a2 : (e :: es).find? (·.key.isStr z) = es.find? (·.key.isStr z) := by
          rw [List.find?_cons_of_neg]
          rw [ek, ex]
          show ¬ ((kd.1 == z) = true)
          intro q
          exact hz (eq_of_beq q)
        rw [a1, a2]
        exact ih
    | _ => rw [ek] at h1; cases h1
theorem keys_plain : ∀ {es : List DictEntry} {tb : List (Str × D)}, keysOk K es tb = true → es.any (·.refKey) = false
  | [], _, _ => rfl
  | _ :: _, [], h => by cases h
  | e :: es, kd :: tb, h => by
    have h0 : ((match e.key with
      | .str x _ => decide (x = kd.1)
      | _ => false) && (dOk K kd.2 e.val && keysOk K es tb)) = true := h
    obtain ⟨h1, h2⟩ := Bool.and_eq_true_iff.mp h0
    have ih := keys_plain (Bool.and_eq_true_iff.mp h2).2
    cases ek : e.key with
    | str x t =>
      rw [List.any_cons, ih]
      unfold DictEntry.refKey
      rw [ek]
      rfl
    | _ => rw [ek] at h1; cases h1
/-- what stands at a text -/
theorem kd_at {a : Addr} {tb : List (Str × D)} (h : kdOk K a tb = true) (z : Str) :
    (∃ d u v, lookT tb z = some d ∧ PySem.W.nsIn K a z = some (some u) ∧ RelV v u ∧ ∀ as H, Dx K as H v d) ∨ (lookT tb z = none ∧ PySem.W.nsIn K a z = some none) := by
  unfold kdOk at h
  unfold PySem.W.nsIn
  split at h
  · rename_i c o es n sl e
    rw [e]
    rcases keys_find (z := z) h with ⟨d, x, h1, h2, h3⟩ | ⟨h1, h2⟩
    · obtain ⟨v, r1, r2⟩ := dOk_is d _ h3
      refine .inl ⟨d, x.val, v, h1, ?_, r1, r2⟩
      dsimp only
      rw [h2]
    · refine .inr ⟨h1, ?_⟩
      dsimp only
      rw [h2, keys_plain h]
      rfl
  · cases h
def rKd (K : PySem.W.Frag) (a : Addr) : R2 := fun x y H Q => ∃ (z : Str) (u0 : Value) (v0 : V), x = .ref a ∧ y = .str z ∧ PySem.W.nsIn K a z = some (some u0) ∧ RelV v0 u0 ∧ Q v0 H
def rInKd (K : PySem.W.Frag) (a : Addr) : R2 := fun x y H Q => ∃ (z : Str) (r : Option Value), x = .str z ∧ y = .ref a ∧ PySem.W.nsIn K a z = some r ∧ Q (.bl r.isSome) H
def rNotInKd (K : PySem.W.Frag) (a : Addr) : R2 := fun x y H Q => ∃ (z : Str) (r : Option Value), x = .str z ∧ y = .ref a ∧ PySem.W.nsIn K a z = some r ∧ Q (.bl (!r.isSome)) H
section
variable {X : Xc} {S : Sa} {Q : Sv → Os → Prop} {te : TE} {a : Addr} {tb : List (Str × D)}
/-- T[e] -/
theorem ew_kd (hk : kdOk K a tb = true) (h : EW K X te S fun y os => ∃ z d, y = .d (.str z) ∧ lookT tb z = some d ∧ Q (.d d) os) : EW K X (tOp (rKd K a) (tC (.ref a)) te) S Q := fun as H σ Q' R x k =>
  h as H σ _ R x fun v H1 d os1 g1 R1 r1 ⟨z, e, ed, el, q⟩ => by
    subst ed
    cases r1
    rcases kd_at hk z with ⟨d', u, v, h1, h2, h3, h4⟩ | ⟨h1, _⟩
    · rw [el] at h1
      cases h1
      exact ⟨z, u, v, rfl, rfl, h2, h3, k v H1 (.d _) os1 g1 R1 (h4 as H1) q⟩
    · rw [el] at h1
      cases h1
/-- e in T -/
theorem ew_inKd (hk : kdOk K a tb = true) (h : EW K X te S fun y os => ∃ z, y = .d (.str z) ∧ Q (.d (.bl (lookT tb z).isSome)) os) : EW K X (tOp (rInKd K a) te (tC (.ref a))) S Q := fun as H σ Q' R x k =>
  h as H σ _ R x fun v H1 d os1 g1 R1 r1 ⟨z, ed, q⟩ => by
    subst ed
    cases r1
    rcases kd_at hk z with ⟨d', u, v, h1, h2, h3, h4⟩ | ⟨h1, h2⟩
    · rw [h1] at q
      exact ⟨z, some u, rfl, rfl, h2, k (.bl true) H1 (.d (.bl true)) os1 g1 R1 (Dx.bl true) q⟩
    · rw [h1] at q
      exact ⟨z, none, rfl, rfl, h2, k (.bl false) H1 (.d (.bl false)) os1 g1 R1 (Dx.bl false) q⟩
theorem ew_notInKd (hk : kdOk K a tb = true) (h : EW K X te S fun y os => ∃ z, y = .d (.str z) ∧ Q (.d (.bl (!(lookT tb z).isSome))) os) : EW K X (tOp (rNotInKd K a) te (tC (.ref a))) S Q := fun as H σ Q' R x k =>
  h as H σ _ R x fun v H1 d os1 g1 R1 r1 ⟨z, ed, q⟩ => by
    subst ed
    cases r1
    rcases kd_at hk z with ⟨d', u, v, h1, h2, h3, h4⟩ | ⟨h1, h2⟩
    · rw [h1] at q
      exact ⟨z, some u, rfl, rfl, h2, k (.bl false) H1 (.d (.bl false)) os1 g1 R1 (Dx.bl false) q⟩
    · rw [h1] at q
      exact ⟨z, none, rfl, rfl, h2, k (.bl true) H1 (.d (.bl true)) os1 g1 R1 (Dx.bl true) q⟩
end
section
variable {X : Cx} {a : Addr} {es : Array DictEntry} {n : Nat}
theorem op_kd (D : KDict X.K X.w a es n) : OpR X getItem (rKd X.K a) := op_item_kd D
theorem op_inKd (D : KDict X.K X.w a es n) : OpR X (compareOp .In) (rInKd X.K a) := op_in_kd D
theorem op_notInKd (D : KDict X.K X.w a es n) : OpR X (compareOp .NotIn) (rNotInKd X.K a) := op_notIn_kd D
end
end Br

/-! BrY: all, any, sum of data; tuples put together. -/
namespace Br
open PySem L2
section
variable {K : PySem.W.Frag} {X : Xc} {S : Sa} {os : Os} {Q : Sv → Os → Prop} {te : TE}
theorem cw_all {bs : List Bool} (q : Q (.d (.bl (bs.all id))) os) : CW K (rAll K) [.d (.lst (bs.map D.bl))] os Q :=
  cw_pure (fun as H vs Q' R r k => by
    cases r with
    | cons h t =>
      cases t
      cases h with
      | @lst a ws _ hl hr =>
        have e := DxA.of_bls hr
        subst e
        exact ⟨a, bs, rfl, hl.sq, k _ (.bl _)⟩) q
theorem cw_any {bs : List Bool} (q : Q (.d (.bl (bs.any id))) os) : CW K (rAny K) [.d (.lst (bs.map D.bl))] os Q :=
  cw_pure (fun as H vs Q' R r k => by
    cases r with
    | cons h t =>
      cases t
      cases h with
      | @lst a ws _ hl hr =>
        have e := DxA.of_bls hr
        subst e
        exact ⟨a, bs, rfl, hl.sq, k _ (.bl _)⟩) q
theorem cw_sum {ns : List Int} (q : Q (.d (.int ns.sum)) os) : CW K (rSum K) [.d (.lst (ns.map D.int))] os Q :=
  cw_pure (fun as H vs Q' R r k => by
    cases r with
    | cons h t =>
      cases t
      cases h with
      | @lst a ws _ hl hr =>
        have e := DxA.of_ints hr
        subst e
        exact ⟨a, ns, rfl, hl.sq, k _ (.int _)⟩) q
/-- t + u of tuples -/
theorem bw_catT {xs ys : List D} (hl : xs.length + ys.length ≤ sizeLine) (q : Q (.d (.tup (xs ++ ys))) os) : BW K (rCatA K) (.d (.tup xs)) (.d (.tup ys)) os Q :=
  bw_new (fun as H v u Q' R rx ry k1 k2 => by
    cases rx with
    | @tup a vs _ h1 h2 =>
      cases ry with
      | @tup b us _ h3 h4 =>
        refine ⟨a, b, vs, us, rfl, rfl, h1.sq, h3.sq, by rw [h2.length, h4.length]; exact hl, fun e => ?_, fun e1 e2 => ?_, fun _ _ p hp => k1 p _ hp (dx_newT R hp (h2.app h4))⟩
        · subst e
          have z : xs = [] := by
            have := h2.length
            exact List.length_eq_zero_iff.mp this.symm
          subst z
          exact k2 _ (.tup h3 h4)
        · subst e2
          have z : ys = [] := by
            have := h4.length
            exact List.length_eq_zero_iff.mp this.symm
          subst z
          rw [List.append_nil] at k2
          exact k2 _ (.tup h1 h2)) q
end
end Br

/-! BrZ: zip of a text and a tuple. -/
namespace BrZip
open PySem PySem.Spec PyProof.Rows Builtin Builtin.SmallTypes
abbrev mz1 (h : Heap) (x : Str) (t : Tok) : Heap := h.push { cls := .type (strIterType x), data := .fields #[.str x t, .int 0 0] }
abbrev mz2 (h : Heap) (x : Str) (t : Tok) (b : Addr) : Heap := (mz1 h x t).push { cls := .type "tuple_iterator", data := .fields #[.ref b, .int 0 0] }
abbrev mz3 (h : Heap) (x : Str) (t : Tok) (b : Addr) : Heap := (mz2 h x t b).push { cls := .type "tuple", data := .seq #[.ref h.objs.size, .ref (mz1 h x t).objs.size] }
abbrev mz4 (h : Heap) (x : Str) (t : Tok) (b : Addr) : Heap := (mz3 h x t b).push { cls := .type "tuple", data := .seq #[.none, .none] }
abbrev mz5 (h : Heap) (x : Str) (t : Tok) (b : Addr) : Heap := (mz4 h x t b).push { cls := .type "zip", data := .fields #[.none, .bool false, .bool false, .ref (mz2 h x t b).objs.size, .ref (mz3 h x t b).objs.size] }
theorem meets_new (x : Str) (t : Tok) (b : Addr) (ys : Array Value) :
    Meets (Builtin.«zip.__new__» ⟨[.type "zip", .str x t, .ref b], []⟩) (fun _ R s => s.heap.IsTuple b ys ∧ R (.ok (.ret (.ref (mz4 s.heap x t b).objs.size))) { s with heap := mz5 s.heap x t b }) :=
  .of_wp fun prog w A R s h => by
    obtain ⟨hp, g, d, tk, os⟩ := s
    obtain ⟨hl2, h⟩ := h
    have hsub := sub_zip
    have hL2 : Heap.IsTuple (Shared.heap ⟨mz1 hp x t, g, d, tk, os⟩) b ys := Heap.IsTuple.push hl2 _
    wp_walk using wpAny_pyIter_strU, wpAny_pyIter_tuple hL2
    exact ⟨_, rfl, h⟩
section
variable {prog : Program} {w : World} {A : Around} {E : Value → Shared → Prop} {s : Shared}
theorem call_mz {x : Str} {t : Tok} {b : Addr} {ys : Array Value} {Q : Value → Shared → Prop} (hb : s.heap.IsTuple b ys)
    (h : ∀ h', IsZip h' (s.heap.objs.size + 4) (s.heap.objs.size + 2) (s.heap.objs.size + 3) .none → IsPair h' (s.heap.objs.size + 2) (.ref s.heap.objs.size) (.ref (s.heap.objs.size + 1)) →
      IsPair h' (s.heap.objs.size + 3) .none .none → h'.IsStrIter s.heap.objs.size (strIterType x) x t 0 → h'.IsTupleIter (s.heap.objs.size + 1) b 0 →
      (∀ c o, s.heap.get? c = some o → h'.get? c = some o) → Q (.ref (s.heap.objs.size + 4)) { s with heap := h' }) :
    wpAny (model prog w) A (call (.type "zip") [.str x t, .ref b]) Q E s := by
  refine callType_new F.called_zip (by decide) (F.typeCall_zip_2 _ _) (F.newCall_zip_2 _ _) (fun obj => F.args_object_init_3 obj _ _) F.entry_zip_new (meets_new x t b ys) ⟨hb, ?_⟩
  have n1 : (mz1 s.heap x t).objs.size = s.heap.objs.size + 1 := Heap.size_push ..
  have n2 : (mz2 s.heap x t b).objs.size = s.heap.objs.size + 2 := by rw [Heap.size_push, n1]
  have n3 : (mz3 s.heap x t b).objs.size = s.heap.objs.size + 3 := by rw [Heap.size_push, n2]
  have n4 : (mz4 s.heap x t b).objs.size = s.heap.objs.size + 4 := by rw [Heap.size_push, n3]
  have q5 : (mz5 s.heap x t b).get? (mz4 s.heap x t b).objs.size = some _ := Heap.get?_push_size _ rfl
  have q4 : (mz5 s.heap x t b).get? (mz3 s.heap x t b).objs.size = some _ := Heap.get?_push_of_some _ (Heap.get?_push_size _ rfl)
  have q3 : (mz5 s.heap x t b).get? (mz2 s.heap x t b).objs.size = some _ := Heap.get?_push_of_some _ (Heap.get?_push_of_some _ (Heap.get?_push_size _ rfl))
  have q2 : (mz5 s.heap x t b).get? (mz1 s.heap x t).objs.size = some _ := Heap.get?_push_of_some _ (Heap.get?_push_of_some _ (Heap.get?_push_of_some _ (Heap.get?_push_size _ rfl)))
  have q1 : (mz5 s.heap x t b).get? s.heap.objs.size = some _ := Heap.get?_push_of_some _ (Heap.get?_push_of_some _ (Heap.get?_push_of_some _ (Heap.get?_push_of_some _ (Heap.get?_push_size _ rfl))))
  show _ ∧ _
  rw [n2, n3, n4] at q5
  rw [n1, n2] at q3
  rw [n3] at q4
  rw [n1] at q2
  rw [n4]
  exact ⟨⟨_, q5, rfl⟩, h _ q5 q3 q4 ⟨_, q1, rfl, rfl⟩ ⟨_, q2, rfl, rfl⟩ fun c o e =>
    Heap.get?_push_of_some _ (Heap.get?_push_of_some _ (Heap.get?_push_of_some _ (Heap.get?_push_of_some _ (Heap.get?_push_of_some _ e))))⟩
end
end BrZip
namespace Br
open PySem PySem.Spec PyProof.Rows L2 BrZip
/-- the signs of x beside the tuple at b -/
def Itm (K : PySem.W.Frag) (x : Str) (b : Addr) (m : Nat) : It :=
  ⟨fun i H => i < x.cps.size ∧ ∃ (ys : List V) (y : V), SqT K H b ys ∧ ys.length = m ∧ ys[i]? = some y,
    fun i H v H' => ∃ T c y, v = .ref T ∧ H T = none ∧ x.cps[i]? = some c ∧ H' = upd H T (.tup [.str ⟨#[c]⟩, y]) ∧ ∀ ys, SqT K H b ys → ys[i]? = some y,
    fun i H => (x.cps.size ≤ i ∨ m ≤ i) ∧ ∃ ys : List V, SqT K H b ys ∧ ys.length = m⟩
theorem turn_mz {P : Program} {w : World} {K : PySem.W.Frag} {elts : List Expr} {kk : Nat} {tpos : Pos} {x : Str} {t : Tok} {m : Nat} {b z TI TO i1 i2 : Addr} (S : PySem.ZipSep2 z TI TO i1 i2 [i1] [i2, b]) (hb2 : b ≠ i2) :
    Turn P w K (.Tuple elts kk tpos) (Itm K x b m) [z, TI, TO, i1, i2] z (fun i h => (i ≤ x.cps.size ∧ i ≤ m) ∧ IsZip h z TI TO .none ∧ IsPair h TI (.ref i1) (.ref i2) ∧ (∃ x y, IsPair h TO x y) ∧ h.IsStrIter i1 (strIterType x) x t i ∧ h.IsTupleIter i2 b i) where
  mem := by simp
  obj := fun i h st c hc => by
    obtain ⟨_, hz, hTI, ⟨x, y, hTO⟩, ⟨o1, e1, _, d1⟩, ⟨o2, e2, _, d2⟩⟩ := st
    simp only [List.mem_cons, List.not_mem_nil, or_false] at hc
    rcases hc with q | q | q | q | q <;> subst q
    · exact ⟨_, hz, fun v q => nomatch q⟩
    · exact ⟨_, hTI, fun v q => nomatch q⟩
    · exact ⟨_, hTO, fun v q => nomatch q⟩
    · exact ⟨o1, e1, fun v q => by rw [d1] at q; cases q⟩
    · exact ⟨o2, e2, fun v q => by rw [d2] at q; cases q⟩
  keep := fun i h h' st k => by
    obtain ⟨hi, hz, hTI, ⟨x, y, hTO⟩, ⟨o1, e1, r1⟩, h2⟩ := st
    exact ⟨hi, k z (by simp) _ hz, k TI (by simp) _ hTI, ⟨x, y, k TO (by simp) _ hTO⟩, ⟨o1, k i1 (by simp) _ e1, r1⟩, h2.at fun o q => k i2 (by simp) o q⟩
  item := by
    intro X hP hw hK hc i pins s σ H E I hf st hg
    subst hP hw hK
    obtain ⟨hi, hz, hTI, ⟨x0, y0, hTO⟩, h1, h2⟩ := st
    obtain ⟨hlt, ys, y, hqy, hm, hy⟩ := hg
    obtain ⟨its, rv, p, _⟩ := I.tuple hqy
    obtain ⟨u2, hu2, ru2⟩ := rv.get hy
    have hzl : z < s.heap.objs.size := Heap.lt_size hz
    have D1 := Draws.text (prog := X.prog) (w := X.w) (A := X.A.in1) (I.ok.hd hc) i1 x t
    have D2 := Draws.tuple (prog := X.prog) (w := X.w) (A := X.A.in1) (I.ok.hd hc) i2 b hb2 its.toArray
    have hl2 : i < its.toArray.size := by
      rw [List.size_toArray]
      exact (List.getElem?_eq_some_iff.mp hu2).1
    refine wpAny_pyNext_zipD2_item S D1 D2 hz hTI hTO h1 ⟨h2, p⟩ hlt hl2 fun v1 v2 h' tk y1 y2 hz' hTO' st1 st2 hT hsz hk => ?_
    obtain ⟨c, u1, hcx, rfl⟩ := y1
    have ev : v2 = u2 := by
      have y3 : its[i]? = some v2 := by simpa using y2
      rw [hu2] at y3
      exact (Option.some.inj y3).symm
    subst ev
    refine ⟨_, rfl, wpAny_letOwnedTupleGo_zip (s := { s with heap := h', toks := tk }) hz' fun h'' hz'' sb => ?_⟩
    have hT2 : h''.get? s.heap.objs.size = some { cls := .type "tuple", data := .seq #[.str ⟨#[c]⟩ u1, v2] } := (sb.2 _ (Nat.ne_of_gt hzl)).trans hT
    have new : ObjOk X.prog X.w (upd H s.heap.objs.size (.tup [.str ⟨#[c]⟩, y])) h'' s.heap.objs.size (.tup [.str ⟨#[c]⟩, y]) :=
      ⟨by show 2 ≤ sizeLine; decide, [.str ⟨#[c]⟩ u1, v2], .cons ⟨u1, rfl⟩ (.cons ru2 .nil), ⟨_, hT2, rfl, _, rfl⟩⟩
    have I1 : Inv X pins σ (upd H s.heap.objs.size (.tup [.str ⟨#[c]⟩, y])) { s with heap := h'', toks := tk } :=
      I.turnedNew (t' := tk) (ch := [z, TI, TO, i1, i2]) (fun c o hb q => (sb.2 c (fun q' => hb (by simp [q']))).trans (hk c o (fun q' => hb (by simp [q'])) (fun q' => hb (by simp [q'])) (fun q' => hb (by simp [q'])) (fun q' => hb (by simp [q'])) q)) hf (Nat.le_refl _) new
    have i1z : i1 ≠ z := fun q => S.zf1 (by rw [q]; simp)
    have i2z : i2 ≠ z := fun q => S.zf2 (by rw [q]; simp)
    refine ⟨.ref s.heap.objs.size, _, I1, rfl, ⟨_, c, y, rfl, I.hok.fresh (Nat.le_refl _), hcx, rfl, fun l hl => by rw [I.tuple_inj hl hqy]; exact hy⟩, ⟨⟨hlt, by rw [← hm]; exact (List.getElem?_eq_some_iff.mp hy).1⟩, hz'', ?_, ⟨.str ⟨#[c]⟩ u1, v2, ?_⟩, ?_, ?_⟩, fun c hcm => ?_⟩
    · exact (sb.2 _ S.TIz).trans (hk _ _ S.TIz S.TITO S.TIi1 S.TIi2 hTI)
    · exact (sb.2 _ S.TOz).trans hTO'
    · obtain ⟨o1, e1, r1⟩ := st1
      exact ⟨o1, (sb.2 _ i1z).trans e1, r1⟩
    · exact st2.1.at fun o q => (sb.2 _ i2z).trans q
    · have hlt : c < s.heap.objs.size := by
        simp only [List.mem_cons, List.not_mem_nil, or_false] at hcm
        rcases hcm with q | q | q | q | q
        · rw [q]; exact hzl
        · rw [q]; exact Heap.lt_size hTI
        · rw [q]; exact Heap.lt_size hTO
        · rw [q]; obtain ⟨_, e1, _⟩ := h1; exact Heap.lt_size e1
        · rw [q]; obtain ⟨_, e2, _⟩ := h2; exact Heap.lt_size e2
      rw [upd_ne (Nat.ne_of_lt hlt)]
      exact (hf c hcm).1
  done := by
    intro X hP hw hK hc i pins s σ H E I hf st hg
    subst hP hw hK
    obtain ⟨hi, hz, hTI, ⟨x0, y0, hTO⟩, h1, h2⟩ := st
    obtain ⟨hend, ys, hqy, hm⟩ := hg
    obtain ⟨its, rv, p, _⟩ := I.tuple hqy
    have l2 := rv.length
    have D1 := Draws.text (prog := X.prog) (w := X.w) (A := X.A.in1) (I.ok.hd hc) i1 x t
    have D2 := Draws.tuple (prog := X.prog) (w := X.w) (A := X.A.in1) (I.ok.hd hc) i2 b hb2 its.toArray
    have hle := hi.1
    have he : i = x.cps.size ∨ i = its.toArray.size := by
      have e2 : its.toArray.size = its.length := List.size_toArray ..
      rw [e2]
      rcases hend with z | z
      · exact .inl (Nat.le_antisymm hle z)
      · exact .inr (by omega)
    exact wpAny_pyNext_zipD2_end S D1 D2 hz hTI hTO h1 ⟨h2, p⟩ hle (by rw [List.size_toArray]; omega) he fun h' tk hk => ⟨rfl, I.turnedL (t' := tk) (ch := [z, TI, TO, i1, i2]) (fun c o hb q =>
      hk c o (fun q' => hb (by simp [q'])) (fun q' => hb (by simp [q'])) (fun q' => hb (by simp [q'])) (fun q' => hb (by simp [q'])) q) hf⟩
  self := fun A i s Q E st h => wpAny_pyIter_zip st.2.1 h
def iZipM (K : PySem.W.Frag) (ta : TA) : TI := fun σ H R => ta σ H fun vs H1 => ∃ x b ys, vs = [.str x, .ref b] ∧ SqT K H1 b ys ∧ R (Itm K x b ys.length) H1
theorem pi_zipM {X : Cx} {e e2 : Expr} {ta : TA} {p pos tpos : Pos} {elts : List Expr} {kk : Nat} (hg : Gl X "zip") (hm : X.mg "zip" = none) (ha : PA X [e, e2] ta)
    (hs : starEach [e, e2] X.env = (false, eval e X.env) :: starEach [e2] X.env := by rfl) (hpl : (backTo pos (starEach [e2] X.env)).any (·.1) = false := by rfl) :
    PI X (.Tuple elts kk tpos) (.Call (.Name "zip" p) [e, e2] [] pos) (iZipM X.K ta) := by
  refine ⟨fun pins s σ H R I h => ?_⟩
  refine Call_ (ld_blt I hg hm PyProof.Rows.boot_zip (PyProof.Rows.callWith_type1 (thn (ha.run pos pins s σ H _ I h) fun us s1 ⟨vs, H1, I1, r1, q1⟩ => ?_) hs hpl))
  obtain ⟨x, b, ys, ev, hq, q⟩ := q1
  subst ev
  obtain ⟨u1, u2, rfl, ru1, ru2⟩ := vals2 r1
  obtain ⟨t, rfl⟩ := ru1
  cases (show u2 = Value.ref b from ru2)
  obtain ⟨its, rv, pt, _⟩ := I1.tuple hq
  obtain ⟨ob, hob, _⟩ := id pt
  have hlt : b < s1.heap.objs.size := Heap.lt_size hob
  have fresh : ∀ c, c ∈ [s1.heap.objs.size + 4, s1.heap.objs.size + 2, s1.heap.objs.size + 3, s1.heap.objs.size, s1.heap.objs.size + 1] → FpOk X pins H1 c := fun c hc => by
    have hle : s1.heap.objs.size ≤ c := by
      simp only [List.mem_cons, List.not_mem_nil, or_false] at hc
      rcases hc with z | z | z | z | z <;> (rw [z]; first | exact Nat.le_add_right _ _ | exact Nat.le_refl _)
    exact I1.fpOk hle (I1.hok.fresh hle)
  refine call_mz (show s1.heap.IsTuple b its.toArray from pt) fun h' hz hTI hTO h1 h2 hk => wpAny_pyIter_zip hz ?_
  have I2 : Inv X pins σ H1 { s1 with heap := h' } := I1.kept (t' := s1.toks) hk
  refine ⟨s1.heap.objs.size + 4, _, _, _, H1, rfl, I2, turn_mz (TI := s1.heap.objs.size + 2) (TO := s1.heap.objs.size + 3) (i1 := s1.heap.objs.size) (i2 := s1.heap.objs.size + 1) (t := t) ?_ ?_, ⟨⟨Nat.zero_le _, Nat.zero_le _⟩, hz, hTI, ⟨_, _, hTO⟩, h1, h2⟩, fresh, q⟩
  · have q0 : b ≠ s1.heap.objs.size + 4 := Nat.ne_of_lt (Nat.lt_of_lt_of_le hlt (Nat.le_add_right _ _))
    have q1 : b ≠ s1.heap.objs.size + 3 := Nat.ne_of_lt (Nat.lt_of_lt_of_le hlt (Nat.le_add_right _ _))
    have q2 : b ≠ s1.heap.objs.size := Nat.ne_of_lt hlt
    have aux : ∀ (n k m : Nat), k ≠ m → n + k ≠ n + m := fun n k m h => by omega
    constructor <;> first
      | exact aux _ _ _ (by decide)
      | exact aux _ _ 0 (by decide)
      | (simp; done)
      | (simp only [List.mem_cons, List.not_mem_nil, or_false]; exact aux _ _ 0 (by decide))
      | (simp only [List.mem_cons, List.not_mem_nil, or_false]; rintro (z | z); exact absurd z (aux _ _ _ (by decide)); exact absurd z.symm (by assumption))
      | (simp only [List.mem_cons, List.not_mem_nil, or_false]; rintro (z | z); exact absurd z.symm (aux _ _ 0 (by decide)); exact absurd z.symm (by assumption))
      | (simp only [List.mem_cons, List.not_mem_nil, or_false]; exact aux _ _ 0 (by decide))
  · exact Nat.ne_of_lt (Nat.lt_succ_of_lt hlt)
/-- signs beside data -/
def zipM (z : Str) (ys : List D) : List D := (z.cps.toList.zip ys).map fun p => D.tup [.str ⟨#[p.1]⟩, p.2]
section
variable {K : PySem.W.Frag} {X : Xc} {S : Sa} {Q : List D → Os → Prop} {ta : TA}
theorem iw_zipM (h : AW K X ta S fun xs os => ∃ (z : Str) (ys : List D), xs = [.d (.str z), .d (.tup ys)] ∧ Q (zipM z ys) os) : IW K X (iZipM K ta) S Q := fun as H σ R' R x k =>
  h as H σ _ R x fun vs H1 ds os1 g1 R1 r1 ⟨z, ys, e, q⟩ => by
    subst e
    cases r1 with
    | cons r1 rn =>
      cases rn with
      | cons r2 rn =>
        cases rn
        cases r1
        cases r2 with
        | @tup b ws _ hl hr =>
          refine ⟨z, b, ws, rfl, hl.sq, k _ H1 (zipM z ys) os1 g1 R1 (fun bs H2 os s R2 i => ?_) q⟩
          have hl2 := s.way.t _ _ hl
          have hr2 := hr.way s.way
          have hlen : (zipM z ys).length = min z.cps.size ys.length := by
            unfold zipM
            rw [List.length_map, List.length_zip, Array.length_toList]
          refine ⟨fun d hd => ?_, fun hn => ⟨?_, ws, hl2.sq, rfl⟩⟩
          · have hi := (List.getElem?_eq_some_iff.mp hd).1
            rw [hlen] at hi
            have hi1 : i < z.cps.size := by omega
            have hi2 : i < ys.length := by omega
            obtain ⟨w, e1, e2⟩ := hr2.get (List.getElem?_eq_getElem hi2)
            refine ⟨⟨hi1, ws, w, hl2.sq, rfl, e1⟩, ?_⟩
            rintro y H3 ⟨T, c, y2, rfl, hT, hc, rfl, hy⟩
            have ey := hy ws hl2.sq
            rw [e1] at ey
            cases ey
            refine ⟨Go.new hT, R2.new hT, ?_⟩
            have ed : d = D.tup [.str ⟨#[c]⟩, ys[i]] := by
              unfold zipM at hd
              rw [List.getElem?_map] at hd
              obtain ⟨p, h1, h2⟩ := Option.map_eq_some_iff.mp hd
              rw [List.getElem?_zip_eq_some] at h1
              obtain ⟨h3, h4⟩ := h1
              have h5 : z.cps[i]? = some p.1 := by rw [← Array.getElem?_toList]; exact h3
              rw [hc] at h5
              rw [List.getElem?_eq_getElem hi2] at h4
              rw [← h2, ← Option.some.inj h5, ← Option.some.inj h4]
            rw [ed]
            exact dx_newT R2 hT (.cons (.str _) (.cons e2 .nil))
          · rw [hlen] at hn
            rw [hr.length]
            omega
end
end Br

/-! BrN: a written dict whose keys are None and texts. -/
namespace Br
open PySem PySem.Spec PyProof.Rows L2
def KeysN (P : Params) : List DictEntry → Prop
  | [] => True
  | e :: r => ((e.key = .none ∧ e.hash = reduceHash 0xFCA86420) ∨ ∃ x t, e.key = .str x t ∧ e.hash = PyData.keyHash P x) ∧ KeysN P r
theorem KeysN.all {P : Params} : ∀ {l : List DictEntry}, KeysN P l → ∀ e ∈ l, (e.key = .none ∧ e.hash = reduceHash 0xFCA86420) ∨ ∃ x t, e.key = .str x t ∧ e.hash = PyData.keyHash P x
  | _ :: _, ⟨h, _⟩, _, .head _ => h
  | _ :: _, ⟨_, r⟩, _, .tail _ m => r.all _ m
def keyN : Option Str → Option Key := fun k => k.map .inr
theorem mapN {K : PySem.W.Frag} {h : Heap} {prog : Program} {w : World} {a : Addr} {es : Array DictEntry} {n : Nat} (X : K.In h) (hl : K.lookup a = some ⟨.type "dict", none, .dict es n, #[]⟩) (hk : KeysN w.params es.toList) :
    h.MapOf (noneKind prog w) a (fun k => findBy nkIs es k) :=
  ⟨_, es, n, X _ _ hl, ⟨rfl, rfl, rfl⟩, rfl, fun e he => by
    rcases hk.all e (Array.mem_toList_iff.mpr he) with ⟨e1, e2⟩ | ⟨x, t, e1, e2⟩
    · exact ⟨none, by rw [e1]; rfl, e2⟩
    · exact ⟨some (.inr x), by rw [e1]; exact keyIs_str x t, e2⟩, fun _ => rfl⟩
/-- looked over: just these keys, in this order -/
def keysOkN (K : PySem.W.Frag) : List DictEntry → List (Option Str × D) → Bool
  | [], tb => tb.isEmpty
  | e :: es, tb => match tb with
    | kd :: tb => (match e.key with
      | .none => decide (kd.1 = none)
      | .str x _ => decide (kd.1 = some x)
      | _ => false) && (dOk K kd.2 e.val && keysOkN K es tb)
    | [] => false
def lookN (tb : List (Option Str × D)) (z : Option Str) : Option D := (tb.find? fun kd => decide (kd.1 = z)).map (·.2)
variable {K : PySem.W.Frag}
theorem key_is {e : DictEntry} {k z : Option Str} (h : (match e.key with
      | .none => decide (k = none)
      | .str x _ => decide (k = some x)
      | _ => false) = true) : nkIs (keyN z) e.key = decide (k = z) := by
  cases ek : e.key with
  | none =>
    rw [ek] at h
    have e1 : k = none := of_decide_eq_true h
    subst e1
    cases z with
    | none => rfl
    | some z =>
      rw [decide_eq_false (fun q => nomatch q)]
      rfl
  | str x t =>
    rw [ek] at h
    have e1 : k = some x := of_decide_eq_true h
    subst e1
    cases z with
    | none =>
      rw [decide_eq_false (fun q => nomatch q)]
      rfl
    | some z =>
      show (x == z) = _
      by_cases c : x = z
      · subst c
        simp
      · rw [decide_eq_false (fun q => c (Option.some.inj q))]
        exact beq_eq_false_iff_ne.mpr c
  | _ => rw [ek] at h; cases h
theorem keysN_find {z : Option Str} : ∀ {es : List DictEntry} {tb : List (Option Str × D)} {d : D}, keysOkN K es tb = true → lookN tb z = some d → ∃ e, es.find? (fun e => nkIs (keyN z) e.key) = some e ∧ dOk K d e.val = true
  | [], [], _, _, h => by cases h
  | [], _ :: _, _, h, _ => by cases h
  | _ :: _, [], _, h, _ => by cases h
  | e :: es, kd :: tb, d, h, hl => by
    have h0 : ((match e.key with
      | .none => decide (kd.1 = none)
      | .str x _ => decide (kd.1 = some x)
      | _ => false) && (dOk K kd.2 e.val && keysOkN K es tb)) = true := h
    obtain ⟨h1, h2⟩ := Bool.and_eq_true_iff.mp h0
    obtain ⟨h3, h4⟩ := Bool.and_eq_true_iff.mp h2
    have ki := key_is (z := z) h1
    by_cases hz : kd.1 = z
    · have a1 : lookN (kd :: tb) z = some kd.2 := by
        unfold lookN
        rw [List.find?_cons_of_pos (by simpa using hz)]
        rfl
      rw [a1] at hl
      cases hl
      exact ⟨e, List.find?_cons_of_pos (by rw [ki]; exact decide_eq_true hz), h3⟩
    · have a1 : lookN (kd :: tb) z = lookN tb z := by
        unfold lookN
        rw [List.find?_cons_of_neg (by simpa using hz)]
      rw [a1] at hl
      obtain ⟨e2, q1, q2⟩ := keysN_find h4 hl
      exact ⟨e2, by rw [List.find?_cons_of_neg (by rw [ki, decide_eq_false hz]; exact Bool.false_ne_true)]; exact q1, q2⟩
/-- such a dict at a -/
structure NDict (K : PySem.W.Frag) (w : World) (a : Addr) (tb : List (Option Str × D)) : Prop where
  ex : ∃ es n, K.lookup a = some ⟨.type "dict", none, .dict es n, #[]⟩ ∧ KeysN w.params es.toList ∧ keysOkN K es.toList tb = true
def keyD2 : Option Str → D
  | none => .non
  | some x => .str x
def rNd (K : PySem.W.Frag) (w : World) (a : Addr) (tb : List (Option Str × D)) : R2 := fun x y H Q => ∃ (k : Option Str) (d : D), x = .ref a ∧ (k = none → y = .non) ∧ (∀ z, k = some z → y = .str z) ∧ lookN tb k = some d ∧ ∀ v, (∀ as H', Dx K as H' v d) → Q v H
theorem op_nd {X : Cx} {a : Addr} {tb : List (Option Str × D)} (N : NDict X.K X.w a tb) : OpR X getItem (rNd X.K X.w a tb) := by
  intro pins s σ H x y v u Q I rx ry h
  obtain ⟨es, n, hl, hk, ho⟩ := N.ex
  obtain ⟨k, d, rfl, y0, y1, el, q⟩ := h
  cases (show v = Value.ref a from rx)
  obtain ⟨e, f1, f2⟩ := keysN_find ho el
  obtain ⟨v0, r1, r2⟩ := dOk_is d _ f2
  have hm := mapN (prog := X.prog) (w := X.w) I.kIn hl hk
  have hf : findBy nkIs es (keyN k) = some e.val := by
    obtain ⟨l⟩ := es
    unfold findBy
    rw [List.find?_toArray, f1]
    rfl
  have hkey : (noneKind X.prog X.w).is (keyN k) u = true := by
    cases k with
    | none =>
      have ey := y0 rfl
      subst ey
      cases (show u = Value.none from ry)
      rfl
    | some z =>
      have ey := y1 z rfl
      subst ey
      obtain ⟨t, rfl⟩ := (show ∃ t, u = Value.str z t from ry)
      exact keyIs_str z t
  exact wpAny_getItem_of hkey hm hf ⟨v0, H, I.tok _, r1, q v0 r2⟩
section
variable {X : Xc} {S : Sa} {Q : Sv → Os → Prop} {te : TE} {w : World} {a : Addr} {tb : List (Option Str × D)}
/-- T[e], T with None and texts as keys -/
theorem ew_nd (h : EW K X te S fun y os => ∃ k d, y = .d (keyD2 k) ∧ lookN tb k = some d ∧ Q (.d d) os) : EW K X (tOp (rNd K w a tb) (tC (.ref a)) te) S Q := fun as H σ Q' R x k =>
  h as H σ _ R x fun v H1 d os1 g1 R1 r1 ⟨z, e, ed, el, q⟩ => by
    subst ed
    refine ⟨z, e, rfl, fun e0 => ?_, fun y e0 => ?_, el, fun u hu => k u H1 (.d e) os1 g1 R1 (hu as H1) q⟩
    · subst e0
      cases r1
      rfl
    · subst e0
      cases r1
      rfl
end
end Br

/-! BrP: more of the interpreter's own: lists put together, compared with empty ones, truths reckoned with, dict.update, t[::-1], repr of any data. -/
namespace Br
open PySem PySem.Spec PyProof.Rows L2
section
variable {X : Cx}
/-! ### list + list -/
def rCatL (K : PySem.W.Frag) : R2 := fun x y H Q => ∃ l b xs zs, x = .ref l ∧ y = .ref b ∧ SqL K H l xs ∧ SqL K H b zs ∧ xs.length + zs.length ≤ sizeLine ∧ ∀ p, H p = none → Q (.ref p) (upd H p (.lst (xs ++ zs)))
theorem isl_of {h : Heap} {l : Addr} {its : Array Value} (p : h.IsList l its) : ∃ o n, h.get? l = some o ∧ o.cls = .type "list" ∧ o.data = .seq its n := by
  obtain ⟨o, e, c, n, d⟩ := p
  exact ⟨o, n, e, c, d⟩
theorem op_catL : OpR X (binaryOp .Add) (rCatL X.K) := by
  intro pins s σ H x y v u Q I rx ry h
  obtain ⟨l, b, xs, zs, rfl, rfl, hl, hb, hz, q⟩ := h
  cases rx
  cases ry
  obtain ⟨its, r, p1, z1⟩ := I.list hl
  obtain ⟨its2, r2, p2, z2⟩ := I.list hb
  have l1 := r.length
  have l2 := r2.length
  obtain ⟨⟨cls, dd, data, sl⟩, ho, hc, n, hd⟩ := id p1.isList
  obtain ⟨⟨cls2, dd2, data2, sl2⟩, ho2, hc2, n2, hd2⟩ := id p2.isList
  simp only at hc hd hc2 hd2
  subst hc hd hc2 hd2
  have e : its.toArray ++ its2.toArray = (its ++ its2).toArray := by simp
  refine concat_meets ⟨_, ho, rfl⟩ ⟨_, ho2, rfl⟩ noFill_list_add seq_list_add PySem.F.slot_list_add PySem.F.entry_list_add (PySem.F.args_list_add_2 _ _) (list_addW l b its.toArray its2.toArray n n2 dd dd2 sl sl2 (by rw [List.size_toArray, List.size_toArray]; omega)) ⟨ho, ho2, ?_⟩
  rw [e]
  exact ⟨.ref _, _, I.lnew (t' := s.toks) (r.append r2) (by rw [List.length_append]; omega), rfl, q _ I.fresh⟩
/-! ### [..] == [], (..) != () -/
def rEqNilL (K : PySem.W.Frag) : R2 := fun x y H Q => ∃ l b xs, x = .ref l ∧ y = .ref b ∧ SqL K H l xs ∧ SqL K H b [] ∧ Q (.bl xs.isEmpty) H
theorem op_eqNilL (hu : X.A.units + 64 < cLine) : OpR X (compareOp .Eq) (rEqNilL X.K) := by
  intro pins s σ H x y v u Q I rx ry h
  obtain ⟨l, b, xs, rfl, rfl, hl, hb, q⟩ := h
  cases rx
  cases ry
  obtain ⟨its, r, p1, z1⟩ := I.list hl
  obtain ⟨its2, r2, p2, z2⟩ := I.list hb
  have e2 : its2 = [] := by cases r2; rfl
  subst e2
  cases xs with
  | nil =>
    have e1 : its = [] := by cases r; rfl
    subst e1
    exact PySem.EqBoolInt.of_rc (SeqAt.RcAt.lists (e := fun _ => true) p1.isList p2.isList rfl (by omega) fun j h1 h2 => absurd h1 (by simp)) ⟨.bl true, H, I, rfl, q⟩
  | cons x xs =>
    have hl1 := r.length
    exact PySem.EqBoolInt.of_rc (SeqAt.RcAt.lists_lengths p1.isList p2.isList (by rw [List.size_toArray, ← hl1]; rfl) (by omega)) ⟨.bl false, H, I, rfl, q⟩
def rNeNilT (K : PySem.W.Frag) : R2 := fun x y H Q => ∃ l b xs, x = .ref l ∧ y = .ref b ∧ SqT K H l xs ∧ SqT K H b [] ∧ Q (.bl (!xs.isEmpty)) H
theorem op_neNilT (hu : X.A.units + 64 < cLine) : OpR X (compareOp .NotEq) (rNeNilT X.K) := by
  intro pins s σ H x y v u Q I rx ry h
  obtain ⟨l, b, xs, rfl, rfl, hl, hb, q⟩ := h
  cases rx
  cases ry
  obtain ⟨its, r, p1, z1⟩ := I.tuple hl
  obtain ⟨its2, r2, p2, z2⟩ := I.tuple hb
  have e2 : its2 = [] := by cases r2; rfl
  subst e2
  have hl1 := r.length
  refine PySem.EqBoolInt.of_rcne (k := !xs.isEmpty) ?_ ⟨.bl _, H, I, rfl, q⟩
  have z := SeqAt.RcNeAt.tuples (A := X.A) (e := fun _ => true) p1 p2 (by omega) fun j h1 h2 => absurd h2 (by simp)
  have e : (!((List.range (min its.toArray.size ([] : List Value).toArray.size)).all (fun _ => true) && its.toArray.size == ([] : List Value).toArray.size)) = !xs.isEmpty := by
    rw [List.size_toArray, ← hl1]
    cases xs <;> simp
  rw [e] at z
  exact z
/-! ### truths among numbers -/
def b2I (b : Bool) : Int := if b = true then 1 else 0
theorem op_add_bi : OpR X (binaryOp .Add) (fun x y H Q => ∃ b j, x = .bl b ∧ y = .int j ∧ Q (.int (b2I b + j)) H) := by
  intro pins s σ H x y v u Q I rx ry h
  obtain ⟨b, j, rfl, rfl, q⟩ := h
  cases rx
  obtain ⟨t, rfl⟩ := ry
  exact PySem.IntBool.add_bool_int ⟨.int _, H, I.tok _, ⟨_, rfl⟩, q⟩
theorem op_sub_bi : OpR X (binaryOp .Sub) (fun x y H Q => ∃ b j, x = .bl b ∧ y = .int j ∧ Q (.int (b2I b - j)) H) := by
  intro pins s σ H x y v u Q I rx ry h
  obtain ⟨b, j, rfl, rfl, q⟩ := h
  cases rx
  obtain ⟨t, rfl⟩ := ry
  exact PySem.IntBool.sub_bool_int ⟨.int _, H, I.tok _, ⟨_, rfl⟩, q⟩
theorem op_sub_ib : OpR X (binaryOp .Sub) (fun x y H Q => ∃ i b, x = .int i ∧ y = .bl b ∧ Q (.int (i - b2I b)) H) := by
  intro pins s σ H x y v u Q I rx ry h
  obtain ⟨i, b, rfl, rfl, q⟩ := h
  obtain ⟨t, rfl⟩ := rx
  cases ry
  exact PySem.IntBool.sub_int_bool ⟨.int _, H, I.tok _, ⟨_, rfl⟩, q⟩
theorem op_eq_bi : OpR X (compareOp .Eq) (fun x y H Q => ∃ b j, x = .bl b ∧ y = .int j ∧ Q (.bl (b2I b == j)) H) := by
  intro pins s σ H x y v u Q I rx ry h
  obtain ⟨b, j, rfl, rfl, q⟩ := h
  cases rx
  obtain ⟨t, rfl⟩ := ry
  exact PySem.EqBoolInt.eq_bool_int ⟨.bl _, H, I, rfl, q⟩
theorem call_str_bool : CallR X (.type "str") (fun xs H Q => ∃ b : Bool, xs = [.bl b] ∧ Q (.str (if b then "True" else "False")) H) := by
  intro pins s σ H xs us Q I r h
  obtain ⟨b, rfl, q⟩ := h
  obtain ⟨u, rfl, rx⟩ := vals1 r
  cases rx
  exact PySem.P.str_of_bool ⟨.str _, H, I.tok _, ⟨_, rfl⟩, q⟩
/-! ### dict.update -/
def rUpd : V → List V → Hp → VK → Prop := fun x vs H Q => ∃ (a b : Addr) (kvs more : List (Key × V)), x = .ref a ∧ vs = [.ref b] ∧ a ≠ b ∧ H a = some (.dK kvs) ∧ Rd H b (.dK more) ∧ kvs.length + more.length ≤ sizeLine ∧ Q .non (upd H a (.dK (mergeK kvs more)))
theorem mt_update : MtR X "dict.update" rUpd := by
  intro pins s σ H x vs v us Q I rx rv h
  obtain ⟨a, b, kvs, more, rfl, rfl, hne, e, eb, hl, q⟩ := h
  obtain rfl : v = Value.ref a := rx
  obtain ⟨u, rfl, ru⟩ := vals1 rv
  cases (show u = Value.ref b from ru)
  obtain ⟨z, hd, vs, rel, dd⟩ := dk_of I.hok e
  obtain ⟨z2, hd2, ws, rel2, dd2⟩ := dk_rd I.hok eb
  refine call_meetsIn PySem.F.slot_dict_update dd.typeIs PySem.F.entry_dict_update (PySem.F.args_dict_update_2 _ _) (meets_dict_update (mixKind X.prog X.w) a b hne hd2) ⟨vs, ws, dd, dd2, by rw [← rel.length, ← rel2.length]; exact hl, fun h' dd' _ hs => ?_⟩
  have he : ∃ q, h'.get? a = some q := let ⟨q, _, _, hq, _⟩ := dd'; ⟨q, hq⟩
  have hlen : (mergeK kvs more).length ≤ sizeLine := Nat.le_trans (length_mergeK more kvs) hl
  exact ⟨.non, _, d_write (t' := s.toks) I (by rw [e]; exact True.intro) hs he (dk_new hlen hd (KV.merge rel2 rel) dd'), rfl, q⟩
/-! ### T[e], T a written dict -/
theorem pe_opD {o i : Expr} {v : V} {ty : TE} {r : R2} {pos : Pos} (hr : OpR X getItem r) (hty : ∀ (pins : List (Addr × Obj)) (σ : L2.St) (H : Hp) (s : Shared) (u : Value), Inv X pins σ H s → RelV v u → s.TypeIs u "dict") (ho : PE X o (tC v)) (hi : PE X i ty) (hs : NoSl i) : PE X (.Subscript o i pos) (tOp r (tC v) ty) := by
  refine ⟨fun pins s σ H Q I h => ?_⟩
  refine subD_of PySem.F.slot_dict_getitem.lookup hs (thn (ho.run pins s σ H (fun x H1 => x = v ∧ H1 = H) I ⟨rfl, rfl⟩) fun u s1 ⟨x, H1, I1, rx, e1, e2⟩ => ?_)
  subst e1
  subst e2
  exact thn (hi.run pins s1 σ H1 _ I1 h) fun iv s2 ⟨y, H2, I2, ry, q2⟩ => ⟨hty pins σ H2 s2 u I2 rx, hr pins s2 σ H2 x y u iv Q I2 rx ry q2⟩
theorem ty_kd {d : Addr} {es : Array DictEntry} {n : Nat} (D : KDict X.K X.w d es n) : ∀ (pins : List (Addr × Obj)) (σ : L2.St) (H : Hp) (s : Shared) (u : Value), Inv X pins σ H s → RelV (.ref d) u → s.TypeIs u "dict" := fun pins σ H s u I r => by
  cases (show u = Value.ref d from r)
  exact kd_type D I
theorem ty_nd {d : Addr} {tb : List (Option Str × D)} (N : NDict X.K X.w d tb) : ∀ (pins : List (Addr × Obj)) (σ : L2.St) (H : Hp) (s : Shared) (u : Value), Inv X pins σ H s → RelV (.ref d) u → s.TypeIs u "dict" := fun pins σ H s u I r => by
  cases (show u = Value.ref d from r)
  obtain ⟨es, n, hl, hk, ho⟩ := N.ex
  exact (mapN (prog := X.prog) (w := X.w) I.kIn hl hk).typeIs
/-! ### zip, K told -/
theorem pi_zipMK {K : PySem.W.Frag} (hK : X.K = K) {e e2 : Expr} {ta : TA} {p pos tpos : Pos} {elts : List Expr} {kk : Nat} (h : PI X (.Tuple elts kk tpos) (.Call (.Name "zip" p) [e, e2] [] pos) (iZipM X.K ta)) : PI X (.Tuple elts kk tpos) (.Call (.Name "zip" p) [e, e2] [] pos) (iZipM K ta) := hK ▸ h
end
/-! ### t[::-1] of a tuple -/
section
variable {prog : Program} {w : World} {A : Around} {E : Value → Shared → Prop} {s : Shared}
theorem places_rev (n : Nat) : Builtin.Slice.slicePlaces ((n : Int) - 1) (-1) (-1) = n := by
  unfold Builtin.Slice.slicePlaces
  by_cases h : n = 0
  · subst h
    decide
  · have h1 : ¬ ((-1 : Int) > 0) := by decide
    have h2 : (n : Int) - 1 > -1 := by omega
    rw [if_neg h1, if_pos h2]
    have h3 : ((n : Int) - 1 - -1 - 1) / (- -1) + 1 = (n : Int) := by
      have : (- -1 : Int) = 1 := by decide
      rw [this, Int.ediv_one]
      omega
    rw [h3]
    rfl
theorem sliceApplied_rev {sl : Addr} {vs : Value} {n : Nat} {Q : Int × Int × Nat → Shared → Prop} (hs : s.heap.IsSliceOf sl .none .none vs) (ps : IsPart vs (some (-1)))
    (h : Q ((n : Int) - 1, -1, n) s) : wpAny (model prog w) A (Builtin.Slice.sliceApplied (.ref sl) (pure (n : Int))) Q E s := by
  obtain ⟨os, hos, hcs, hds⟩ := id hs
  unfold Builtin.Slice.sliceApplied Builtin.Slice.sliceFields
  refine wpAny_bind (wpAny_bind (wpAny_field hos hds (x := .none) rfl (wpAny_bind (wpAny_field hos hds (x := .none) rfl (wpAny_bind (wpAny_field hos hds (x := vs) rfl (wpAny_pure ?_)))))))
  refine wpAny_bind (HT.slicePart_ ps ?_)
  show wpAny _ _ (if ((-1 : Int) == 0) = true then _ else _) _ _ s
  rw [if_neg (by decide)]
  refine wpAny_bind (HT.slicePart_ .none (wpAny_bind (HT.slicePart_ .none (wpAny_bind (wpAny_pure ?_)))))
  show wpAny _ _ (match Builtin.Slice.sliceAdjust none none (-1) (n : Int) with | (lo, hi) => pure (lo, (-1 : Int), Builtin.Slice.slicePlaces lo hi (-1))) _ _ s
  show wpAny _ _ (pure ((n : Int) - 1, (-1 : Int), Builtin.Slice.slicePlaces ((n : Int) - 1) (-1) (-1))) _ _ s
  rw [places_rev]
  exact wpAny_pure h
theorem range_all {α : Type} (l : List α) : (List.range l.length).filterMap (l[·]?) = l := by
  induction l with
  | nil => rfl
  | cons x l ih =>
    rw [List.length_cons, List.range_succ_eq_map, List.filterMap_cons]
    simp only [List.getElem?_cons_zero]
    rw [List.filterMap_map]
    congr 1
theorem fm_congr {α β : Type} {f g : α → Option β} : ∀ {l : List α}, (∀ a ∈ l, f a = g a) → l.filterMap f = l.filterMap g
  | [], _ => rfl
  | a :: l, h => by
    rw [List.filterMap_cons, List.filterMap_cons, h a List.mem_cons_self, fm_congr fun b hb => h b (List.mem_cons_of_mem _ hb)]
theorem pick_rev (xs : Array Value) : ((List.range xs.size).filterMap fun (m : Nat) => xs[(((xs.size : Int) - 1) + (m : Int) * -1).toNat]?).toArray = xs.toList.reverse.toArray := by
  congr 1
  have h : ∀ m ∈ List.range xs.size, xs[(((xs.size : Int) - 1) + (m : Int) * -1).toNat]? = xs.toList.reverse[m]? := fun m hm => by
    have hm' : m < xs.size := List.mem_range.mp hm
    rw [List.getElem?_reverse (by simpa using hm'), Array.getElem?_toList]
    congr 1
    rw [Array.length_toList]
    omega
  rw [fm_congr h]
  have e : xs.size = xs.toList.reverse.length := by simp
  rw [e]
  exact range_all _
theorem getItem_tuple_rev {t sl : Addr} {items : Array Value} {vs : Value} {Q : Value → Shared → Prop} (ht : IsTup s.heap t items) (hs : s.heap.IsSliceOf sl .none .none vs) (ps : IsPart vs (some (-1)))
    (h : Q (.ref s.heap.objs.size) { s with heap := s.heap.push { cls := .type "tuple", data := .seq items.toList.reverse.toArray } })
    (hsz : items.size ≤ sizeLine) : wpAny (model prog w) A (getItem (.ref t) (.ref sl)) Q E s := by
  have htake : sizeOk (.seq items.toList.reverse.toArray) := by
    show items.toList.reverse.toArray.size ≤ sizeLine
    rw [List.size_toArray, List.length_reverse, Array.length_toList]
    exact hsz
  obtain ⟨os, hos, hcs, hds⟩ := id hs
  have hTs : s.TypeIs (.ref sl) "slice" := ⟨os, hos, hcs⟩
  unfold getItem
  try with_reducible refine wpAny_holding ?_
  first | refine wpAny_bind (wpAny_pure ?_) | skip
  refine wpAny_bind (wpAny_sequenceKey ht.typeIs (by decide) ?_)
  refine wpAny_bind (wpAny_callSpecial?_slot (name := Str.ofString "__getitem__") ht.typeIs PyProof.Rows.slot_tuple_getitem
    (wpAny_call_entry PyProof.Rows.slot_tuple_getitem ht.typeIs entry_tuple_getitem ?_ (args_tuple_getitem _ _)))
  show wpAny _ _ (Builtin.Tuple.tupleItemsOf (.ref t) >>= _) _ _ s
  refine wpAny_bind (tupleItemsOf_ ht ?_)
  refine wpAny_bind (wpAny_typeOf hTs ?_)
  rw [if_pos (by decide)]
  refine wpAny_bind (sliceApplied_rev hs ps ?_)
  have hno : ¬ ((((items.size : Int) - 1) == 0 && (-1 : Int) == 1 && items.size == items.size) = true) := by
    intro q
    rw [Bool.and_eq_true, Bool.and_eq_true] at q
    exact absurd q.1.2 (by decide)
  show wpAny _ _ (if (((items.size : Int) - 1) == 0 && (-1 : Int) == 1 && items.size == items.size) = true then _ else _) _ _ s
  rw [if_neg hno, pick_rev]
  first
    | exact wpAny_bind (m := Builtin.Tuple.tupleExact _) (wpAny_newObj_type (wpAny_pure ⟨_, rfl, wpAny_pure h⟩) htake)
    | exact wpAny_bind (m := Builtin.Tuple.tupleExact _) (wpAny_newObj_type (wpAny_bind (wpAny_pure (wpAny_pure ⟨_, rfl, wpAny_pure h⟩))) htake)
    | exact wpAny_bind (wpAny_bind (m := Builtin.Tuple.tupleExact _) (wpAny_newObj_type (wpAny_pure (wpAny_pure ⟨_, rfl, wpAny_pure h⟩)) htake))
    | exact wpAny_bind (wpAny_bind (m := Builtin.Tuple.tupleExact _) (wpAny_newObj_type (wpAny_pure ⟨_, rfl, wpAny_pure h⟩) htake))
end
def tRevT (K : PySem.W.Frag) (te : TE) : TE := fun σ H Q => te σ H fun x H1 => ∃ a xs, x = .ref a ∧ SqT K H1 a xs ∧ ∀ p, H1 p = none → Q (.ref p) (upd H1 p (.tup xs.reverse))
theorem pe_revT {X : Cx} {e : Expr} {te : TE} {k : Nat} {p1 p2 p3 pos : Pos} (he : PE X e te) : PE X (.Subscript e (.Slice none none (some (.UnaryOp .USub (.Constant (.int 1) k p1) p2)) p3) pos) (tRevT X.K te) := by
  refine ⟨fun pins s σ H Q I h => ?_⟩
  refine Subscript_ (thn (he.run pins s σ H _ I h) fun v s1 ⟨x, H1, I1, r1, q1⟩ => ?_)
  obtain ⟨a, xs, ex, hx, q⟩ := q1
  subst ex
  cases r1
  have hst : PO X (some (.UnaryOp .USub (.Constant (.int 1) k p1) p2)) (tPart (tUn (rU fun i => .int (-i)) (tC (.int 1)))) := po_some (pe_un un_neg pe_int)
  refine wpAny_Slice (thn (po_none.run pins s1 σ H1 (fun o H2 => o = none ∧ H2 = H1) I1 ⟨rfl, rfl⟩) fun vl s2 ⟨l, H2, I2, pl, el, e2⟩ => ?_)
  subst el e2
  refine thn (po_none.run pins s2 σ H2 (fun o H3 => o = none ∧ H3 = H2) I2 ⟨rfl, rfl⟩) fun vu s3 ⟨u, H3, I3, pu, eu, e3⟩ => ?_
  subst eu e3
  refine thn (hst.run pins s3 σ H3 (fun o H4 => o = some (-1) ∧ H4 = H3) I3 ⟨1, rfl, -1, rfl, rfl, rfl⟩) fun vs s4 ⟨o, H4, I4, ps, eo, e4⟩ => ?_
  subst eo e4
  cases pl
  cases pu
  have I5 : Inv X pins σ H4 { s4 with heap := s4.heap.push { cls := .type "slice", data := .fields #[.none, .none, vs] } } := I4.kept (t' := s4.toks) fun b ob q => Heap.get?_push_of_some _ q
  obtain ⟨its, r, ht, hz⟩ := I5.tuple hx
  have hlen := r.length
  show wpAny (model X.prog X.w) X.A (subscriptTail e (.Slice none none (some (.UnaryOp .USub (.Constant (.int 1) k p1) p2)) p3) (.ref a) (.ref s4.heap.objs.size)) (EP X pins σ Q) X.xe { s4 with heap := s4.heap.push { cls := .type "slice", data := .fields #[.none, .none, vs] } }
  refine tail_any (ops := [.ref a, .ref s4.heap.objs.size]) ht.typeIs (PyProof.Rows.slot_tuple_getitem.lookup) ?_ (by with_unfolding_all rfl)
  refine getItem_tuple_rev ht (Heap.IsSliceOf.new _ _ _ vs) ps ?_ (by rw [List.size_toArray]; omega)
  refine ⟨.ref _, _, I5.laid (t' := s4.toks) (o := .tup xs.reverse) (fun b ob q => Heap.get?_push_of_some _ q) (Nat.le_refl _) ?_, rfl, q _ (I5.hok.fresh (Nat.le_refl _))⟩
  exact ⟨by rw [List.length_reverse]; exact hz, _, r.reverse, IsTup.new _ _⟩
/-! ### a text turned about: its signs are its own -/
def tRevS2 (te : TE) : TE := fun σ H Q => te σ H fun x H1 => ∃ z : Str, x = .str z ∧ z.length ≤ sizeLine ∧ ∀ y : Str, y.length ≤ z.length → (∀ c ∈ y.cps.toList, c ∈ z.cps.toList) → Q (.str y) H1
theorem pe_revs2 {X : Cx} {e : Expr} {te : TE} {k : Nat} {p1 p2 p3 pos : Pos} (he : PE X e te) : PE X (.Subscript e (.Slice none none (some (.UnaryOp .USub (.Constant (.int 1) k p1) p2)) p3) pos) (tRevS2 te) := by
  refine ⟨fun pins s σ H Q I h => ?_⟩
  refine Subscript_ (thn (he.run pins s σ H _ I h) fun v s1 ⟨x, H1, I1, r1, q1⟩ => ?_)
  obtain ⟨z, ex, hz, q⟩ := q1
  subst ex
  obtain ⟨t, rfl⟩ := r1
  have hst : PO X (some (.UnaryOp .USub (.Constant (.int 1) k p1) p2)) (tPart (tUn (rU fun i => .int (-i)) (tC (.int 1)))) := po_some (pe_un un_neg pe_int)
  refine wpAny_Slice (thn (po_none.run pins s1 σ H1 (fun o H2 => o = none ∧ H2 = H1) I1 ⟨rfl, rfl⟩) fun vl s2 ⟨l, H2, I2, pl, el, e2⟩ => ?_)
  subst el e2
  refine thn (po_none.run pins s2 σ H2 (fun o H3 => o = none ∧ H3 = H2) I2 ⟨rfl, rfl⟩) fun vu s3 ⟨u, H3, I3, pu, eu, e3⟩ => ?_
  subst eu e3
  refine thn (hst.run pins s3 σ H3 (fun o H4 => o = some (-1) ∧ H4 = H3) I3 ⟨1, rfl, -1, rfl, rfl, rfl⟩) fun vs s4 ⟨o, H4, I4, ps, eo, e4⟩ => ?_
  subst eo e4
  obtain ⟨l, rfl, el⟩ := IsPart.raw pl
  obtain ⟨u, rfl, eu⟩ := IsPart.raw pu
  obtain ⟨st, rfl, es⟩ := IsPart.raw ps
  have I5 : Inv X pins σ H4 { s4 with heap := s4.heap.push { cls := .type "slice", data := .fields #[partValue l, partValue u, partValue st] } } := I4.kept (t' := s4.toks) fun b ob q => Heap.get?_push_of_some _ q
  show wpAny (model X.prog X.w) X.A (subscriptTail e (.Slice none none (some (.UnaryOp .USub (.Constant (.int 1) k p1) p2)) p3) (.str z t) (.ref s4.heap.objs.size)) (EP X pins σ Q) X.xe { s4 with heap := s4.heap.push { cls := .type "slice", data := .fields #[partValue l, partValue u, partValue st] } }
  refine tail_any (ops := [.ref s4.heap.objs.size, .str z t]) (typeIs_str _ _ _) PySem.F.slot_str_getitem.lookup ?_ (by with_unfolding_all rfl)
  refine wpAny_getItem_str_slice (l := l) (u := u) (st := st) (Heap.IsSliceOf.new _ _ _ _) (by rw [es]; rfl) ?_
  cases l with
  | some l => cases el
  | none =>
    cases u with
    | some u => cases eu
    | none =>
      cases st with
      | none => cases es
      | some st =>
        obtain ⟨n, tk⟩ := st
        have en : n = -1 := by
          have e : some n = some (-1) := es
          injection e
        subst en
        have hlen := step_rev_len z tk
        have hn : ¬ (((((some ((-1 : Int), tk)).map (·.1)).getD 1 == 1) && ((slicePicked z none none (some ((-1 : Int), tk))).length == z.length)) = true) := by
          have : ((((some ((-1 : Int), tk)).map (·.1)).getD 1 == 1)) = false := rfl
          rw [this]
          simp
        have e1 : Txt.sliceBy z none none (-1, tk) = ⟨((slicePicked z none none (some (-1, tk))).filterMap (z.cps[·]?)).toArray⟩ := by
          unfold Txt.sliceBy
          rw [if_neg hn]
        have e2 : sliceMade z t none none (some (-1, tk)) = Made.str (Txt.sliceBy z none none (-1, tk)) := by
          rw [e1]
          unfold sliceMade
          rw [if_neg hn]
        rw [e2]
        refine ⟨by rw [hlen]; exact hz, .str _, _, I5.tok _, ⟨_, rfl⟩, q _ (Nat.le_of_eq hlen) fun c hc => ?_⟩
        rw [e1] at hc
        obtain ⟨i, _, h2⟩ := List.mem_filterMap.mp (by simpa using hc)
        exact Array.mem_toList_iff.mpr (Array.mem_of_getElem? h2)
/-! ### repr of any data, {} within it too -/
mutual
def D.pyE : D → Option PyData
  | .non => some .none
  | .bl b => some (.bool b)
  | .int i => some (.int i)
  | .str x => some (.str x)
  | .lst xs => (D.pysE xs).map .list
  | .tup xs => (D.pysE xs).map .tuple
  | .dk kvs => match kvs with
    | [] => some (.dict [])
    | _ :: _ => none
  | .ob _ _ => none
  | .xo _ _ => none
def D.pysE : List D → Option (List PyData)
  | [] => some []
  | x :: r => (D.pyE x).bind fun p => (D.pysE r).map fun ps => p :: ps
end
section
variable {X : Cx} {pins : List (Addr × Obj)} {σ : L2.St} {H : Hp} {s : Shared} {as : List Addr}
/-- the module table is written, and no list -/
def SysOk (K : PySem.W.Frag) : Prop := ∃ o, K.lookup sysModules = some o ∧ o.cls ≠ .type "list"
theorem sys_ne {a : Addr} {o : Obj} (hS : SysOk X.K) (I : Inv X pins σ H s) (h : s.heap.get? a = some o) (c : o.cls = .type "list") : sysModules ≠ a := fun e => by
  obtain ⟨u, h1, h2⟩ := hS
  have z := I.kIn _ _ h1
  rw [e, h] at z
  cases z
  exact h2 c
mutual
theorem Dx.reads (hS : SysOk X.K) (I : Inv X pins σ H s) : ∀ (d : D) (v : V) (u : Value) (p : PyData), Dx X.K as H v d → RelV v u → d.pyE = some p → ∃ bs, Reads s.heap u p bs ∧ sysModules ∉ bs
  | .non, _, _, p, h, r, e => by
    cases h
    cases r
    cases (show some PyData.none = some p from e)
    exact ⟨_, Reads.none, fun z => nomatch z⟩
  | .bl b, _, _, p, h, r, e => by
    cases h
    cases r
    cases (show some (PyData.bool b) = some p from e)
    exact ⟨_, Reads.bool b, fun z => nomatch z⟩
  | .int i, _, _, p, h, r, e => by
    cases h
    obtain ⟨t, rfl⟩ := r
    cases (show some (PyData.int i) = some p from e)
    exact ⟨_, Reads.int i t, fun z => nomatch z⟩
  | .str x, _, _, p, h, r, e => by
    cases h
    obtain ⟨t, rfl⟩ := r
    cases (show some (PyData.str x) = some p from e)
    exact ⟨_, Reads.str x t, fun z => nomatch z⟩
  | .lst ds, _, _, p, h, r, e => by
    cases h with
    | lst hs ha =>
      cases r
      obtain ⟨ps, e1, rfl⟩ := Option.map_eq_some_iff.mp (show (D.pysE ds).map PyData.list = some p from e)
      obtain ⟨its, rv, ⟨o, n, ho, hc, _, hd⟩, _⟩ := I.list hs.sq
      obtain ⟨bs, hr, hn⟩ := Dx.readsAll hS I ds _ its ps ha rv e1
      refine ⟨_, Reads.list ho hc hd hr, fun z => ?_⟩
      rcases List.mem_cons.mp z with z | z
      · exact sys_ne hS I ho hc z
      · exact hn z
  | .tup ds, _, _, p, h, r, e => by
    cases h with
    | tup hs ha =>
      cases r
      obtain ⟨ps, e1, rfl⟩ := Option.map_eq_some_iff.mp (show (D.pysE ds).map PyData.tuple = some p from e)
      obtain ⟨its, rv, ⟨o, ho, hc, n, hd⟩, _⟩ := I.tuple hs.sq
      obtain ⟨bs, hr, hn⟩ := Dx.readsAll hS I ds _ its ps ha rv e1
      exact ⟨_, Reads.tuple ho hc hd hr, hn⟩
  | .dk [], _, _, p, h, r, e => by
    cases (show some (PyData.dict []) = some p from e)
    cases h with
    | @dk a _ _ na hrd hp =>
      cases hp
      cases r
      obtain ⟨z, lo, vs, rel, o, es, ep, h1, h2, h3, h4, h5, h6⟩ := dk_rd I.hok hrd
      cases rel
      have h0 : es.toList = [] := by
        cases q : es.toList with
        | nil => rfl
        | cons a l => rw [q] at h5; cases h5
      have he : es = #[] := Array.toList_inj.mp h0
      subst he
      refine ⟨_, Reads.dict (kvs := []) h1 h2.1 h3 .nil .nil, fun z => ?_⟩
      have e : sysModules = a := by simpa using z
      rw [← e] at lo
      exact absurd lo (by decide)
  | .dk (_ :: _), _, _, p, _, _, e => by cases (show (none : Option PyData) = some p from e)
  | .ob _ _, _, _, p, _, _, e => by cases (show (none : Option PyData) = some p from e)
  | .xo _ _, _, _, p, _, _, e => by cases (show (none : Option PyData) = some p from e)
theorem Dx.readsAll (hS : SysOk X.K) (I : Inv X pins σ H s) : ∀ (ds : List D) (vs : List V) (us : List Value) (ps : List PyData), DxA X.K as H vs ds → Vals vs us → D.pysE ds = some ps → ∃ bs, ReadsAll s.heap us ps bs ∧ sysModules ∉ bs
  | [], _, _, ps, h, r, e => by
    cases h
    cases r
    cases (show some [] = some ps from e)
    exact ⟨_, ReadsAll.nil, fun z => nomatch z⟩
  | d :: ds, _, _, ps, h, r, e => by
    cases h with
    | cons h1 h2 =>
      cases r with
      | cons r1 r2 =>
        obtain ⟨p, e1, e2⟩ := Option.bind_eq_some_iff.mp (show ((D.pyE d).bind fun p => (D.pysE ds).map fun ps => p :: ps) = some ps from e)
        obtain ⟨qs, e3, rfl⟩ := Option.map_eq_some_iff.mp e2
        obtain ⟨as1, q1, n1⟩ := Dx.reads hS I d _ _ p h1 r1 e1
        obtain ⟨bs1, q2, n2⟩ := Dx.readsAll hS I ds _ _ qs h2 r2 e3
        exact ⟨_, ReadsAll.cons q1 q2, fun z => (List.mem_append.mp z).elim n1 n2⟩
end
end
def rReprA (K : PySem.W.Frag) : List V → Hp → VK → Prop := fun xs H Q => ∃ (as : List Addr) (v : V) (d : D) (p : PyData), xs = [v] ∧ Dx K as H v d ∧ d.pyE = some p ∧ p.showable = true ∧ p.depth ≤ 60 ∧ p.shown.length ≤ sizeLine ∧ Q (.str p.shown) H
theorem call_reprA {X : Cx} (hS : SysOk X.K) (hg : X.A.guards = some []) (hu : X.A.units + 64 < cLine) : CallR X (.builtin "repr") (rReprA X.K) := by
  intro pins s σ H xs us Q I r h
  obtain ⟨as, v, d, p, rfl, hd, e, h1, h3, h4, q⟩ := h
  obtain ⟨u, rfl, rx⟩ := vals1 r
  obtain ⟨bs, rd, nin⟩ := Dx.reads hS I d v u p hd rx e
  cases d with
  | non =>
    cases hd
    cases rx
    cases (show some PyData.none = some p from e)
    exact PySem.P.repr_of_none ⟨.str _, H, I.tok _, ⟨_, rfl⟩, q⟩
  | bl b =>
    cases hd
    cases rx
    cases (show some (PyData.bool b) = some p from e)
    exact PySem.P.repr_of_bool ⟨.str _, H, I.tok _, ⟨_, rfl⟩, q⟩
  | int i =>
    cases hd
    obtain ⟨t, rfl⟩ := rx
    cases (show some (PyData.int i) = some p from e)
    exact PySem.P.repr_of_int (of_decide_eq_true h1) ⟨.str _, H, I.tok _, ⟨_, rfl⟩, q⟩
  | str x =>
    cases hd
    obtain ⟨t, rfl⟩ := rx
    cases (show some (PyData.str x) = some p from e)
    exact PySem.P.repr_of_str ⟨.str _, H, I.tok _, ⟨_, rfl⟩, q⟩ h4
  | lst ds =>
    cases hd
    cases rx
    exact repr_of_reads' rd h1 (fun _ => nin) hg (by omega) (fun _ _ e => e) (fun h' t tk keep => ⟨.str p.shown, H, I.kept (t' := tk) keep, ⟨t, rfl⟩, q⟩) h4
  | tup ds =>
    cases hd
    cases rx
    exact repr_of_reads' rd h1 (fun _ => nin) hg (by omega) (fun _ _ e => e) (fun h' t tk keep => ⟨.str p.shown, H, I.kept (t' := tk) keep, ⟨t, rfl⟩, q⟩) h4
  | dk kvs =>
    cases hd
    cases rx
    exact repr_of_reads' rd h1 (fun _ => nin) hg (by omega) (fun _ _ e => e) (fun h' t tk keep => ⟨.str p.shown, H, I.kept (t' := tk) keep, ⟨t, rfl⟩, q⟩) h4
  | ob C fs => cases (show (none : Option PyData) = some p from e)
  | xo C fs => cases (show (none : Option PyData) = some p from e)
end Br

/-! BrQ: more rules over data. -/
namespace Br
open PySem PySem.Spec PyProof.Rows L2
section
variable {K : PySem.W.Frag} {X : Xc} {S : Sa} {os : Os} {Q : Sv → Os → Prop} {ta tb tc te to : TE}
/-- a < b < c -/
theorem ew_chain {r r' : R2} (h : EW K X ta S fun x os1 => EW K X tb ⟨S.s, os1⟩ fun y os2 => BW K r x y os2 fun z os3 => ∃ b, z = .d (.bl b) ∧ if b = true then EW K X tc ⟨S.s, os3⟩ fun u os4 => BW K r' y u os4 Q else Q (.d (.bl false)) os3) : EW K X (tChain r r' ta tb tc) S Q := fun as H σ Q' R x k =>
  h as H σ _ R x fun v H1 d os1 g1 R1 r1 q1 => q1 as H1 σ _ (R.go g1 R1) (x.go g1 R1) fun u H2 e os2 g2 R2 r2 q2 => q2 as H2 v u _ R2 (r1.go g2) r2 fun z H3 f os3 g3 R3 r3 ⟨b, eb, q3⟩ => by
    subst eb
    cases r3
    refine ⟨b, rfl, ?_⟩
    have g := (g1.trans g2).trans g3
    cases b with
    | true =>
      show tc σ H3 _
      exact (show EW K X tc ⟨S.s, os3⟩ (fun u os4 => BW K r' e u os4 Q) from q3) as H3 σ _ (R.go g R3) (x.go g R3) fun w H4 e4 os4 g4 R4 r4 q4 => q4 as H4 u w Q' R4 ((r2.go g3).go g4) r4 fun z H5 d5 os5 g5 R5 r5 q5 => k z H5 d5 os5 ((g.trans g4).trans g5) R5 r5 q5
    | false =>
      show Q' (.bl false) H3
      exact k _ H3 (.d (.bl false)) os3 g R3 (Dx.bl false) q3
theorem bw_catL {xs ys : List D} (hl : xs.length + ys.length ≤ sizeLine) (q : Q (.d (.lst (xs ++ ys))) os) : BW K (rCatL K) (.d (.lst xs)) (.d (.lst ys)) os Q :=
  bw_new (fun as H v u Q' R rx ry k1 k2 => by
    cases rx with
    | lst h1 h2 =>
      cases ry with
      | lst h3 h4 => exact ⟨_, _, _, _, rfl, rfl, h1.sq, h3.sq, by rw [h2.length, h4.length]; exact hl, fun p hp => k1 p _ hp (dx_newL R hp (h2.app h4))⟩) q
theorem bw_eqNilL {xs : List D} (q : Q (.d (.bl xs.isEmpty)) os) : BW K (rEqNilL K) (.d (.lst xs)) (.d (.lst [])) os Q :=
  bw_pure (fun as H v u Q' R rx ry k => by
    cases rx with
    | @lst a ws _ h1 h2 =>
      cases ry with
      | lst h3 h4 =>
        cases h4
        refine ⟨_, _, _, rfl, rfl, h1.sq, h3.sq, ?_⟩
        have e : ws.isEmpty = xs.isEmpty := by cases h2 <;> rfl
        rw [e]
        exact k _ (.bl _)) q
theorem bw_neNilT {xs : List D} (q : Q (.d (.bl (!xs.isEmpty))) os) : BW K (rNeNilT K) (.d (.tup xs)) (.d (.tup [])) os Q :=
  bw_pure (fun as H v u Q' R rx ry k => by
    cases rx with
    | @tup a ws _ h1 h2 =>
      cases ry with
      | tup h3 h4 =>
        cases h4
        refine ⟨_, _, _, rfl, rfl, h1.sq, h3.sq, ?_⟩
        have e : ws.isEmpty = xs.isEmpty := by cases h2 <;> rfl
        rw [e]
        exact k _ (.bl _)) q
theorem bw_addBI {b : Bool} {j : Int} (q : Q (.d (.int (b2I b + j))) os) : BW K (fun x y H Q => ∃ b j, x = .bl b ∧ y = .int j ∧ Q (.int (b2I b + j)) H) (.d (.bl b)) (.d (.int j)) os Q :=
  bw_pure (fun as H v u Q' R rx ry k => by
    cases rx
    cases ry
    exact ⟨b, j, rfl, rfl, k _ (.int _)⟩) q
theorem bw_subBI {b : Bool} {j : Int} (q : Q (.d (.int (b2I b - j))) os) : BW K (fun x y H Q => ∃ b j, x = .bl b ∧ y = .int j ∧ Q (.int (b2I b - j)) H) (.d (.bl b)) (.d (.int j)) os Q :=
  bw_pure (fun as H v u Q' R rx ry k => by
    cases rx
    cases ry
    exact ⟨b, j, rfl, rfl, k _ (.int _)⟩) q
theorem bw_subIB {b : Bool} {i : Int} (q : Q (.d (.int (i - b2I b))) os) : BW K (fun x y H Q => ∃ i b, x = .int i ∧ y = .bl b ∧ Q (.int (i - b2I b)) H) (.d (.int i)) (.d (.bl b)) os Q :=
  bw_pure (fun as H v u Q' R rx ry k => by
    cases rx
    cases ry
    exact ⟨i, b, rfl, rfl, k _ (.int _)⟩) q
theorem bw_eqBI {b : Bool} {j : Int} (q : Q (.d (.bl (b2I b == j))) os) : BW K (fun x y H Q => ∃ b j, x = .bl b ∧ y = .int j ∧ Q (.bl (b2I b == j)) H) (.d (.bl b)) (.d (.int j)) os Q :=
  bw_pure (fun as H v u Q' R rx ry k => by
    cases rx
    cases ry
    exact ⟨b, j, rfl, rfl, k _ (.bl _)⟩) q
theorem cw_strB {b : Bool} (q : Q (.d (.str (if b then "True" else "False"))) os) : CW K (fun xs H Q => ∃ b : Bool, xs = [.bl b] ∧ Q (.str (if b then "True" else "False")) H) [.d (.bl b)] os Q :=
  cw_pure (fun as H vs Q' R r k => by
    cases r with
    | cons h t =>
      cases t
      cases h
      exact ⟨b, rfl, k _ (.str _)⟩) q
theorem cw_strI {i : Int} (hi : i.natAbs.log2 < 1920) (q : Q (.d (.str (toString i))) os) : CW K (fun xs H Q => ∃ i, xs = [.int i] ∧ i.natAbs.log2 < 1920 ∧ Q (.str (toString i)) H) [.d (.int i)] os Q :=
  cw_pure (fun as H vs Q' R r k => by
    cases r with
    | cons h t =>
      cases t
      cases h
      exact ⟨i, rfl, hi, k _ (.str _)⟩) q
theorem bw_isB {a b : Bool} (q : Q (.d (.bl (decide (a = b)))) os) : BW K rIsB (.d (.bl a)) (.d (.bl b)) os Q :=
  bw_pure (fun as H v u Q' R rx ry k => by
    cases rx
    cases ry
    exact ⟨a, b, rfl, rfl, k _ (.bl _)⟩) q
theorem bw_notB {a b : Bool} (q : Q (.d (.bl (!decide (a = b)))) os) : BW K rNotB (.d (.bl a)) (.d (.bl b)) os Q :=
  bw_pure (fun as H v u Q' R rx ry k => by
    cases rx
    cases ry
    exact ⟨a, b, rfl, rfl, k _ (.bl _)⟩) q
theorem bw_eqB {a b : Bool} (q : Q (.d (.bl (decide (a = b)))) os) : BW K rEq (.d (.bl a)) (.d (.bl b)) os Q :=
  bw_pure (fun as H v u Q' R rx ry k => by
    cases rx
    cases ry
    have e : decide (V.bl a = V.bl b) = decide (a = b) := by simp
    exact ⟨rfl, by rw [e]; exact k _ (.bl _)⟩) q
/-- a text among written texts -/
theorem inV_strs {z : Str} : ∀ {ns : List Str}, inV (.str z) (ns.map V.str) = decide (z ∈ ns)
  | [] => rfl
  | n :: ns => by
    have ih := inV_strs (z := z) (ns := ns)
    unfold inV at ih ⊢
    rw [List.map_cons, List.any_cons, ih]
    have e : eqV (.str n) (.str z) = decide (z = n) := by
      show decide (n = z) = decide (z = n)
      by_cases h : n = z
      · simp [h]
      · rw [decide_eq_false h, decide_eq_false fun q : z = n => h q.symm]
    rw [e]
    by_cases h : z = n <;> simp [h]
theorem bw_inT {z : Str} {ns : List Str} (q : Q (.d (.bl (decide (z ∈ ns)))) os) : BW K (rIn K false) (.d (.str z)) (.d (.tup (ns.map D.str))) os Q :=
  bw_pure (fun as H v u Q' R rx ry k => by
    cases rx
    cases ry with
    | tup h1 h2 =>
      have ev := DxA.of_strs h2
      subst ev
      refine ⟨_, _, rfl, .inr h1.sq, rfl, by rw [List.all_map]; exact List.all_eq_true.mpr fun _ _ => rfl, ?_⟩
      show Q' (.bl (inV (.str z) (ns.map V.str))) H
      rw [inV_strs]
      exact k _ (.bl _)) q
/-- t.upper() -/
theorem ew_upper (h : EW K X to S fun x os => ∃ z : Str, x = .d (.str z) ∧ z.length ≤ 5592405 ∧ Q (.d (.str (Txt.upper z))) os) : EW K X (tM0 (fun x xs H Q => ∃ a, x = .str a ∧ xs = [] ∧ a.length ≤ 5592405 ∧ Q (.str (Txt.upper a)) H) to) S Q := fun as H σ Q' R x k =>
  h as H σ _ R x fun v H1 d os1 g1 R1 r1 ⟨z, ed, hz, q⟩ => by
    subst ed
    cases r1
    exact ⟨⟨z, rfl⟩, z, rfl, rfl, hz, k _ H1 (.d (.str _)) os1 g1 R1 (Dx.str _) q⟩
end

/-! ### dicts that stay -/
section
variable {K : PySem.W.Frag} {X : Xc} {S : Sa} {os : Os} {Q : Sv → Os → Prop} {ta tb td ty te to : TE} {E : Ea}
theorem DxP.isSome {as : List Addr} {H : Hp} {k : Key} : ∀ {vs : List (Key × V)} {ds : List (Key × D)}, DxP K as H vs ds → (valV vs k).isSome = (lookD ds k).isSome
  | _, _, .nil => rfl
  | _, _, .cons (k := k2) (v := v) (d := d) (vs := vs) (ds := ds) h r => by
    have ih := DxP.isSome (k := k) r
    unfold valV lookD at ih ⊢
    by_cases e : k2 = k
    · simp [List.find?_cons, e]
    · simpa [List.find?_cons, e] using ih
theorem DxP.keys {as : List Addr} {H : Hp} : ∀ {vs : List (Key × V)} {ds : List (Key × D)}, DxP K as H vs ds → vs.map (·.1) = ds.map (·.1)
  | _, _, .nil => rfl
  | _, _, .cons h r => by rw [List.map_cons, List.map_cons, DxP.keys r]
theorem DxA.strs {as : List Addr} {H : Hp} : ∀ (ns : List Str), DxA K as H (ns.map V.str) (ns.map D.str)
  | [] => .nil
  | n :: r => .cons (.str n) (DxA.strs r)
theorem ew_dgetD (h : EW K X td S fun x os1 => EW K X ty ⟨S.s, os1⟩ fun y os2 => ∃ kds key z, x = .d (.dk kds) ∧ y = .d (keyD key) ∧ lookD kds key = some z ∧ Q (.d z) os2) : EW K X (tDGet td ty) S Q := fun as H σ Q' R x k =>
  h as H σ _ R x fun v H1 d os1 g1 R1 r1 q1 => q1 as H1 σ _ (R.go g1 R1) (x.go g1 R1) fun u H2 e os2 g2 R2 r2 ⟨kds, key, z, ex, ey, el, q2⟩ => by
    subst ex
    subst ey
    have r1' : Dx K as H2 v (.dk kds) := r1.go g2
    cases r1' with
    | dk na hrd hp =>
      obtain ⟨w, h3, h4⟩ := hp.look el
      have hk := key_v (show Dx K as H2 u (keyD key) from r2)
      subst hk
      exact ⟨_, w, rfl, .inl ⟨_, key, hrd, rfl, h3.symm⟩, k w H2 (.d z) os2 (g1.trans g2) R2 h4 q2⟩
theorem ew_notInD (h : EW K X ty S fun y os1 => EW K X td ⟨S.s, os1⟩ fun x os2 => ∃ kds key, x = .d (.dk kds) ∧ y = .d (keyD key) ∧ Q (.d (.bl (!(lookD kds key).isSome))) os2) : EW K X (tDNotIn ty td) S Q := fun as H σ Q' R x k =>
  h as H σ _ R x fun u H1 d os1 g1 R1 r1 q1 => q1 as H1 σ _ (R.go g1 R1) (x.go g1 R1) fun v H2 e os2 g2 R2 r2 ⟨kds, key, ex, ey, q2⟩ => by
    subst ex
    subst ey
    have r1' : Dx K as H2 u (keyD key) := r1.go g2
    have hk := key_v r1'
    subst hk
    cases (show Dx K as H2 v (.dk kds) from r2) with
    | dk na hrd hp =>
      refine ⟨_, _, rfl, .inl ⟨_, key, hrd, rfl, rfl⟩, ?_⟩
      rw [hp.isSome]
      exact k _ H2 (.d (.bl _)) os2 (g1.trans g2) R2 (Dx.bl _) q2
theorem cw_sortedD {kds : List (Key × D)} {ks : List Str} (hk : kds.map (·.1) = ks.map Sum.inr) (h64 : ks.length < 64) (q : ∀ ys : List Str, ys.Perm ks → Q (.d (.lst (ys.map D.str))) os) :
    CW K (fun xs H Q => ∃ (a : Addr) (kvs : List (Key × V)) (ks : List Str), xs = [.ref a] ∧ Rd H a (.dK kvs) ∧ kvs.map (·.1) = ks.map Sum.inr ∧ ks.length < 64 ∧ ∀ ys p, ys.Perm ks → sortedS ys = true → H p = none → Q (.ref p) (upd H p (.lst (ys.map V.str)))) [.d (.dk kds)] os Q := fun as H vs Q' R r k => by
  cases r with
  | cons h t =>
    cases t
    cases (show Dx K as H _ (.dk kds) from h) with
    | dk na hrd hp => exact ⟨_, _, ks, rfl, hrd, hp.keys.trans hk, h64, fun ys p hperm _ hp0 => k (.ref p) _ (.d (.lst (ys.map D.str))) os (Go.new hp0) (R.new hp0) (dx_newL R hp0 (DxA.strs ys)) (q ys hperm)⟩
theorem disp_in {as : List Addr} {H2 : Hp} {p : Addr} {os4 : Os} {kvs : List (Key × V)} {kds : List (Key × D)} (R2 : Ro K (as ++ [p]) H2 (os4 ++ [.md []])) (rk : DxP K (as ++ [p]) H2 kvs kds) :
    H2 p = some (.dK []) ∧ Ro K (as ++ [p]) (upd H2 p (.dK (mergeK [] kvs))) (os4 ++ [.md (mergeD [] kds)]) := by
  have hlen : as.length = os4.length := by
    have := R2.len
    simpa using this
  have hpos : (as ++ [p])[as.length]? = some p := by simp
  obtain ⟨ws, e1, e2⟩ := R2.own as.length p (.md []) hpos (by rw [hlen]; simp)
  cases e2
  have g3 : Go (as ++ [p]) H2 (upd H2 p (.dK (mergeK [] kvs))) := Go.at (by simp)
  have z := ro_set (ob := .md (mergeD [] kds)) R2 hpos ⟨mergeK [] kvs, upd_same, DxP.way (Way.of_go g3) (merge_dx rk .nil)⟩
  rw [hlen, List.set_append_right _ _ (Nat.le_refl _)] at z
  exact ⟨e1, by simpa using z⟩
theorem re_disp {as : List Addr} {H : Hp} {σ : L2.St} {p : Addr} (R : Re K as H σ S) (hp : H p = none) : Re K (as ++ [p]) (upd H p (.dK [])) σ ⟨S.s, S.os ++ [.md []]⟩ :=
  ⟨ro_addD R.o hp, R.slen, fun j d hd => by
    obtain ⟨u, e, z⟩ := R.slot j d hd
    exact ⟨u, e, z.stp (stp_add hp)⟩⟩
/-- {k: v, ..}, data -/
theorem ew_disp {trs : List (TE × TE)} (h : DW K X0 trs ⟨S.s, S.os ++ [.md []]⟩ fun ds os3 => ∃ os4 kds, os3 = os4 ++ [.md []] ∧ ds = kds.map (fun kv => (keyD kv.1, kv.2)) ∧ kds.length ≤ 15 ∧ Q (.d (.dk (mergeD [] kds))) os4) : EW K X (tDisp trs) S Q := fun as H σ Q' R x k p hp => by
  refine h _ _ σ _ (re_disp R hp) XH.x0 fun ps H2 ds os3 g2 R2 r2 ⟨os4, kds, e3, ed, hl, q⟩ => ?_
  subst e3
  subst ed
  obtain ⟨kvs, ek, rk⟩ := pr_keys r2
  obtain ⟨e1, R3⟩ := disp_in R2 rk
  obtain ⟨Rf, ⟨ws, e5, e6⟩, nin⟩ := ro_drop R3
  have sN : Stp as H (as ++ [p]) (upd H2 p (.dK (mergeK [] kvs))) := ((stp_add hp).trans (Stp.of_go g2 R2)).trans (Stp.of_go (Go.at (by simp)) R3)
  exact ⟨e1, kvs, ek, by rw [rk.length]; exact hl, k (.ref p) _ (.d (.dk (mergeD [] kds))) os4 sN.go Rf (Dx.dk nin (.inl e5) e6) q⟩
/-- x = {k: v, ..}, a dict that changes -/
theorem w_asgDisp {trs : List (TE × TE)} {i : Nat} (h : DW K X0 trs ⟨S.s, S.os ++ [.md []]⟩ fun ds os3 => ∃ os4 kds, os3 = os4 ++ [.md []] ∧ ds = kds.map (fun kv => (keyD kv.1, kv.2)) ∧ kds.length ≤ 15 ∧ E.nx ⟨S.s.set i (some (.o S.os.length)), os4 ++ [.md (mergeD [] kds)]⟩) :
    W K X (tAsg (tDisp trs) (gName i)) E S := fun as H σ D R x n r b c p hp => by
  refine h _ _ σ _ (re_disp R hp) XH.x0 fun ps H2 ds os3 g2 R2 r2 ⟨os4, kds, e3, ed, hl, q⟩ => ?_
  subst e3
  subst ed
  obtain ⟨kvs, ek, rk⟩ := pr_keys r2
  obtain ⟨e1, R3⟩ := disp_in R2 rk
  have sN : Stp as H (as ++ [p]) (upd H2 p (.dK (mergeK [] kvs))) := ((stp_add hp).trans (Stp.of_go g2 R2)).trans (Stp.of_go (Go.at (by simp)) R3)
  have RR : Re K (as ++ [p]) (upd H2 p (.dK (mergeK [] kvs))) σ ⟨S.s, os4 ++ [.md (mergeD [] kds)]⟩ := ⟨R3, R.slen, fun j d hd => by
    obtain ⟨u, e, z⟩ := R.slot j d hd
    exact ⟨u, e, z.stp sN⟩⟩
  exact ⟨e1, kvs, ek, by rw [rk.length]; exact hl, n _ _ _ _ sN (RR.set i (v := .ref p) (d := .o S.os.length) ⟨p, by rw [← R.o.len]; simp, rfl⟩) q⟩
/-- d.update(e) -/
theorem ew_upd (h : EW K X to S fun x os1 => ∃ j k1, x = .o j ∧ os1[j]? = some (.md k1) ∧ EW K X te ⟨S.s, os1⟩ fun y os2 => ∃ k2 more, y = .d (.dk more) ∧ os2[j]? = some (.md k2) ∧ k2.length + more.length ≤ sizeLine ∧ Q (.d .non) (os2.set j (.md (mergeD k2 more)))) :
    EW K X (tBM K "dict" rUpd to (tCons te tNil)) S Q := fun as H σ Q' R x k =>
  h as H σ _ R x fun v H1 d os1 g1 R1 r1 ⟨j, k1, ed, eo1, h2⟩ => by
    subst ed
    obtain ⟨a, ea, rfl⟩ := r1
    refine ⟨?_, h2 as H1 σ _ (R.go g1 R1) (x.go g1 R1) fun u H2 e os2 g2 R2 r2 ⟨k2, more, ey, eo, hl, q⟩ => ?_⟩
    · obtain ⟨ws, q1, _⟩ := R1.own j a _ ea eo1
      exact .inr (.inr (.inl ⟨rfl, .inl ⟨ws, q1⟩⟩))
    · subst ey
      obtain ⟨ws, h1, h3⟩ := R2.own j a _ ea eo
      have hm : a ∈ as := List.mem_of_getElem? ea
      cases (show Dx K as H2 u (.dk more) from r2) with
      | @dk b kvs _ na hrd hp =>
        have g3 : Go as H2 (upd H2 a (.dK (mergeK ws kvs))) := Go.at hm
        have R3 : Ro K as (upd H2 a (.dK (mergeK ws kvs))) (os2.set j (.md (mergeD k2 more))) := ro_set R2 ea ⟨_, upd_same, DxP.way (Way.of_go g3) (merge_dx hp h3)⟩
        exact ⟨a, b, ws, kvs, rfl, rfl, fun z => na (z ▸ hm), h1, hrd, by rw [h3.length, hp.length]; exact hl, k .non _ (.d .non) _ ((g1.trans g2).trans g3) R3 Dx.non q⟩
/-- a new list of the store -/
theorem ro_addL {as : List Addr} {H : Hp} {p : Addr} {vs : List V} {xs : List D} (R : Ro K as H os) (hp : H p = none) (r : DxA K as H vs xs) : Ro K (as ++ [p]) (upd H p (.lst vs)) (os ++ [.ml xs]) := by
  have R0 := ro_add R hp
  have hpos : (as ++ [p])[as.length]? = some p := by simp
  have w1 : Way K as (as ++ [p]) H H := Way.of_add hp
  have w2 : Way K (as ++ [p]) (as ++ [p]) H (upd H p (.lst vs)) := Way.of_go (Go.at (by simp))
  have z := ro_set (o := .lst vs) (ob := .ml xs) R0 hpos ⟨vs, by rw [upd_upd]; exact upd_same, by rw [upd_upd]; exact (r.way w1).way w2⟩
  rw [upd_upd, R.len, List.set_append_right _ _ (Nat.le_refl _)] at z
  simpa using z
/-- x = xs + ys, a list that changes -/
theorem w_asgCat {i : Nat} (h : EW K X ta S fun x os1 => EW K X tb ⟨S.s, os1⟩ fun y os2 => ∃ xs ys, x = .d (.lst xs) ∧ y = .d (.lst ys) ∧ xs.length + ys.length ≤ sizeLine ∧ E.nx ⟨S.s.set i (some (.o os2.length)), os2 ++ [.ml (xs ++ ys)]⟩) :
    W K X (tAsg (tOp (rCatL K) ta tb) (gName i)) E S := fun as H σ D R x n r b c =>
  h as H σ _ R (x.h R) fun v H1 d os1 g1 R1 r1 q1 => q1 as H1 σ _ (R.go g1 R1) ((x.h R).go g1 R1) fun u H2 e os2 g2 R2 r2 ⟨xs, ys, ex, ey, hl, q⟩ => by
    subst ex
    subst ey
    have r1' : Dx K as H2 v (.lst xs) := r1.go g2
    cases r1' with
    | @lst a1 us _ h1 h2 =>
      cases (show Dx K as H2 u (.lst ys) from r2) with
      | @lst a2 ws _ h3 h4 =>
        refine ⟨_, _, _, _, rfl, rfl, h1.sq, h3.sq, by rw [h2.length, h4.length]; exact hl, fun p hp => ?_⟩
        have R3 := ro_addL R2 hp (h2.app h4)
        have s3 : Stp as H2 (as ++ [p]) (upd H2 p (.lst (us ++ ws))) := stp_add hp
        have sN := (Stp.of_go (g1.trans g2) R2).trans s3
        have RR : Re K (as ++ [p]) _ σ ⟨S.s, os2 ++ [.ml (xs ++ ys)]⟩ := ⟨R3, R.slen, fun j d hd => by
          obtain ⟨u, e, z⟩ := R.slot j d hd
          exact ⟨u, e, z.stp sN⟩⟩
        exact n _ _ _ _ sN (RR.set i (v := .ref p) (d := .o os2.length) ⟨p, by rw [← R2.len]; simp, rfl⟩) q
/-- a return that hands out a dict of the store -/
def RetM (n : Nat) (QA : D → Os → Prop) : Sv → Os → Prop := fun x os' => match x with
  | .d d => QA d (os'.take n)
  | .o k => n ≤ k ∧ ∃ kvs, os'[k]? = some (.md kvs) ∧ QA (.dk kvs) (os'.take n)
theorem retM_back {as bs : List Addr} {H H' : Hp} {os' : Os} {QA : D → Os → Prop} {v : V} {x : Sv} {Q : VK} (s : Stp as H bs H') (n : as.length = os.length) (R : Ro K bs H' os') (r : SvR K bs H' v x) (q : RetM os.length QA x os')
    (k : ∀ v H' d os', Go as H H' → Ro K as H' os' → Dx K as H' v d → QA d os' → Q v H') : Q v H' := by
  cases x with
  | d d => exact k v H' d _ s.go (R.back s n) (Dx.way (Way.of_sub s.sub) r) q
  | o j =>
    obtain ⟨hj, xs, e, q⟩ := q
    obtain ⟨a, ea, rfl⟩ := r
    obtain ⟨vs, h1, h2⟩ := R.own j a _ ea e
    obtain ⟨nw, eb, hf⟩ := s.pre
    have ha : a ∉ as := fun z => by
      obtain ⟨i, hi, ei⟩ := List.mem_iff_getElem.mp z
      have h3 : bs[i]? = some a := by rw [eb, List.getElem?_append_left hi, List.getElem?_eq_getElem hi, ei]
      have h4 : i = j := by
        obtain ⟨l1, m1⟩ := List.getElem?_eq_some_iff.mp h3
        obtain ⟨l2, m2⟩ := List.getElem?_eq_some_iff.mp ea
        exact (List.getElem_inj R.nd).mp (m1.trans m2.symm)
      omega
    exact k _ H' _ _ s.go (R.back s n) (.dk ha (.inl h1) (h2.way (Way.of_sub s.sub))) q
theorem readM_of {N : List Str} {f : FD} {t : TS} {vs : List V} {H : Hp} {Q : VK} {E : XK} (h : spD K f vs H Q E)
    (w : ∀ ds os QA EA, f ds os QA EA → W K ⟨fun cls d _ H => E cls d H, fun C fds S => EA C fds (S.os.take os.length)⟩ t { nx := fun S => RetM os.length QA (.d .non) S.os, rt := RetM os.length QA } ⟨startS N ds, os⟩) : t { nx := fun _ H' => Q .non H', rt := Q } (L2.start N vs) H := by
  obtain ⟨as, os, ds, QA, EA, R, r, hf, kq, ke⟩ := h
  refine w ds os QA EA hf as H _ _ (re_start R r) (fun bs H' σ' S' C dd fs fds s R' n e r' z => ?_) (fun bs H' σ' S' s R' q => ?_) (fun bs H' v d os' s R' r' q => ?_) (fun _ _ _ _ _ _ q => q.elim) fun _ _ _ _ _ _ q => q.elim
  · exact ke C dd H' fs fds _ s.go (R'.o.back s R.len) n e (DxF.way (Way.of_sub s.sub) r') z
  · exact retM_back s R.len R'.o (v := .non) (x := .d .non) Dx.non q kq
  · exact retM_back s R.len R' r' q kq
end
end Br

/-! BrV: the head read by a Hook: defs, written tables with text keys, written tables with None among the keys. -/
namespace Br
open PySem PySem.Spec PyProof.Rows L2
theorem fun_D {K : PySem.W.Frag} {x qual : Str} {st : Stmt} {f : Addr} {fd : FuncData} (F : FunD K x qual (defArgs st) (defBody st) (defScope st) [] [] f fd) : Fun K x qual st f fd := by
  obtain ⟨oc, od, dV, kV, doc, pm, an, cdv, ct, osl, rfl, lk, hcd, hD, _⟩ := F.ex
  rcases hD with ⟨_, rfl⟩ | ⟨e, _⟩
  · exact fun_mk lk hcd F.kp
  · exact absurd rfl e
theorem walkGE {l : PySem.W.OpenLaw} {n k : Nat} {q : Program} {loose : List Str} {XP : (Str → Option Value) → Heap → Prop} {YP : World → Heap → Prop} {d : DefRec} {x : Str}
    (hn : l.most = some n) (hn2 : n ≤ sizeLine) (hdf : d.params.defaults = []) (room : Room k callerA)
    (F : ∀ (w : World) (mg : Str → Option Value) (fa : Addr) (h : Heap), YP w h → h.Ns mainGlobals mg → mg d.name = some (.ref fa) →
      ∃ (K : PySem.W.Frag) (fd : FuncData) (sp : Sp), K.In h ∧ (∀ (s : Shared) (u : Value), BindsTo s fd ⟨[u], []⟩ [(x, u)]) ∧
        (∀ (H : Hp) (a : Addr) (ns : List Int), ns.length ≤ n → SqL K H a (ns.map V.int) → sp [.ref a] H (fun v _ => v = .bl true) fun _ _ _ => False) ∧
        ∀ base : Heap, K.In base → base.Ns mainGlobals mg → FnG l.prog w K mg base k fa fd [x] sp) :
    PySem.W.WalkO q loose XP YP l.row.toRowW d [] (fun f vs => PySem.call f vs) := by
  refine Att.attach_call hn hdf ?_
  intro w s₀ s₁ mg mb fa o pm cd doc a vs ns G Y _ _ _ named obj nums len gens
  obtain ⟨K, fd, sp, inK, binds, promise, hF⟩ := F w mg fa _ Y G.T.g named
  exact called inK G.T.g G.T.b G.T.builtins G.T.nolimit gens obj nums (Nat.le_trans len hn2) room hF binds fun H seq => promise H a ns len seq
/-! ### a written dict with None among its keys -/
def keyOfN (e : DictEntry) : Option (Option Str × Int) := match e.key with
  | .none => some (none, e.hash)
  | .str x _ => some (some x, e.hash)
  | _ => none
def keyInN (P : Params) : Option Str → Option (Option Str × Int)
  | none => some (none, reduceHash 0xFCA86420)
  | some x => some (some x, PyData.keyHash P x)
def dicN (K : PySem.W.Frag) (a : Addr) : Option (List (Option (Option Str × Int))) := match K.lookup a with
  | some ⟨.type c, none, .dict es _, sl⟩ => (match decide (c = "dict") && sl.isEmpty with
    | true => some (es.toList.map keyOfN)
    | false => none)
  | _ => none
def ndOk (K : PySem.W.Frag) (a : Addr) (tb : List (Option Str × D)) : Bool := match K.lookup a with
  | some ⟨_, _, .dict es _, _⟩ => keysOkN K es.toList tb
  | _ => false
theorem keysN_of {P : Params} : ∀ {l : List DictEntry} {ks : List (Option Str)}, l.map keyOfN = ks.map (keyInN P) → KeysN P l
  | [], _, _ => trivial
  | _ :: _, [], h => by cases h
  | e :: r, k :: ks, h => by
    have h1 : keyOfN e :: r.map keyOfN = keyInN P k :: ks.map (keyInN P) := h
    injection h1 with h2 h3
    refine ⟨?_, keysN_of h3⟩
    unfold keyOfN at h2
    cases ek : e.key with
    | none =>
      rw [ek] at h2
      cases k with
      | none => exact .inl ⟨rfl, (Prod.mk.inj (Option.some.inj h2)).2⟩
      | some x => exact nomatch (Prod.mk.inj (Option.some.inj h2)).1
    | str y t =>
      rw [ek] at h2
      cases k with
      | none => exact nomatch (Prod.mk.inj (Option.some.inj h2)).1
      | some x =>
        obtain ⟨h5, h6⟩ := Prod.mk.inj (Option.some.inj h2)
        cases h5
        exact .inr ⟨_, t, rfl, h6⟩
    | _ =>
      rw [ek] at h2
      cases k <;> cases h2
theorem dicN_ok {K : PySem.W.Frag} {w : World} {a : Addr} {tb : List (Option Str × D)} (h : dicN K a = some ((tb.map (·.1)).map (keyInN w.params))) (c : ndOk K a tb = true) : NDict K w a tb := by
  unfold dicN at h
  unfold ndOk at c
  cases q : K.lookup a with
  | none =>
    rw [q] at h
    cases h
  | some o =>
    obtain ⟨oc, od, dt, osl⟩ := o
    rw [q] at h c
    cases oc with
    | type y =>
      cases od with
      | none =>
        cases dt with
        | dict es n =>
          have h1 : (match decide (y = "dict") && osl.isEmpty with
            | true => some (es.toList.map keyOfN)
            | false => none) = some ((tb.map (·.1)).map (keyInN w.params)) := h
          cases z : decide (y = "dict") && osl.isEmpty with
          | false =>
            rw [z] at h1
            cases h1
          | true =>
            rw [z] at h1
            obtain ⟨z1, z2⟩ := He.ba z
            have e1 : y = "dict" := of_decide_eq_true z1
            have e2 : osl = #[] := Array.isEmpty_iff.mp z2
            subst e1 e2
            exact ⟨⟨es, n, q, keysN_of (Option.some.inj h1), c⟩⟩
        | _ => cases h
      | some b => cases dt <;> cases h
    | _ => cases od <;> cases dt <;> cases h
/-! ### the Hook -/
abbrev TabD : Type := Str × List (Str × D)
abbrev TabN : Type := Str × List (Option Str × D)
def tabT (t : TabD) : He.Tab := (fun K => He.ga K t.1, t.2.map (·.1))
def sysB (K : PySem.W.Frag) : Bool := match K.lookup sysModules with
  | some ⟨.type c, _, _, _⟩ => !decide (c = "list")
  | _ => false
theorem sysB_ok {K : PySem.W.Frag} (h : sysB K = true) : SysOk K := by
  unfold sysB at h
  cases q : K.lookup sysModules with
  | none =>
    rw [q] at h
    cases h
  | some o =>
    obtain ⟨oc, od, dt, osl⟩ := o
    rw [q] at h
    cases oc with
    | type c =>
      have h1 : (!decide (c = "list")) = true := h
      refine ⟨_, q, fun e => ?_⟩
      have e2 : c = "list" := Value.type.inj e
      rw [e2] at h1
      exact absurd h1 (by decide)
    | _ => cases h
abbrev AlM : Type := He.AlT × (Bool × List (Option (List (Option (Option Str × Int)))))
def obsM (fa : List He.Fa) (fn : List He.DefD) (ts : List TabD) (ns : List TabN) (K : PySem.W.Frag) : AlM :=
  (He.obsT fa fn (ts.map tabT) K, (sysB K && ((ts.all fun t => kdOk K (He.ga K t.1) t.2) && ns.all fun t => ndOk K (He.ga K t.1) t.2), ns.map fun t => dicN K (He.ga K t.1)))
def valM (fn : List He.DefD) (ts : List TabD) (ns : List TabN) (w : World) : AlM := (He.valT fn (ts.map tabT) w, (true, ns.map fun t => some ((t.2.map (·.1)).map (keyInN w.params))))
def frM (n : Nat) (g : Addr → Option Obj) : PySem.W.Frag := He.frG g (sysModules :: He.asD g n)
def obsMG (n : Nat) (fa : List He.Fa) (fn : List He.DefD) (ts : List TabD) (ns : List TabN) (g : Addr → Option Obj) : AlM := obsM fa fn ts ns (frM n g)
def SaysM (fa : List He.Fa) (fn : List He.DefD) (ts : List TabD) (ns : List TabN) (w : World) (K : PySem.W.Frag) : Prop := obsM fa fn ts ns K = valM fn ts ns w
def hookM (n : Nat) (fa : List He.Fa) (fn : List He.DefD) (ts : List TabD) (ns : List TabN) : PySem.W.Hook where
  α := AlM
  obs := fun s => obsMG n fa fn ts ns s.heap.get?
  val := fun w => valM fn ts ns w
  says := fun w h => ∃ K : PySem.W.Frag, K.In h ∧ SaysM fa fn ts ns w K
  of := fun _ _ e => ⟨_, He.frG_in, e⟩
  keeps := fun _ _ _ ⟨K, hK, c⟩ k => ⟨K, PySem.W.Frag.In.keeps hK k, c⟩
theorem obsMG_eq {n : Nat} {fa : List He.Fa} {fn : List He.DefD} {ts : List TabD} {ns : List TabN} {g : Addr → Option Obj} {s : Shared} (h : ∀ a, g a = s.heap.get? a) : obsMG n fa fn ts ns g = (hookM n fa fn ts ns).obs s := by
  have e : g = s.heap.get? := funext h
  rw [e] <;> rfl
section
variable {fa : List He.Fa} {fn : List He.DefD} {ts : List TabD} {ns : List TabN} {w : World} {K : PySem.W.Frag}
theorem SaysM.t (c : SaysM fa fn ts ns w K) : He.SaysT fa fn (ts.map tabT) w K := congrArg (fun z : AlM => z.1) c
theorem SaysM.d (c : SaysM fa fn ts ns w K) : He.SaysD fa fn K := c.t.d
theorem SaysM.b (c : SaysM fa fn ts ns w K) : (sysB K && ((ts.all fun t => kdOk K (He.ga K t.1) t.2) && ns.all fun t => ndOk K (He.ga K t.1) t.2)) = true := congrArg (fun z : AlM => z.2.1) c
theorem SaysM.sys (c : SaysM fa fn ts ns w K) : SysOk K := sysB_ok (He.ba c.b).1
theorem SaysM.tab (c : SaysM fa fn ts ns w K) (i : Nat) {t : TabD} (h : ts[i]? = some t := by rfl) : ∃ es n, KDict K w (He.ga K t.1) es n :=
  He.SaysT.tab c.t i (t := tabT t) (by rw [List.getElem?_map, h]; rfl)
theorem SaysM.kd (c : SaysM fa fn ts ns w K) (i : Nat) {t : TabD} (h : ts[i]? = some t := by rfl) : kdOk K (He.ga K t.1) t.2 = true :=
  List.all_eq_true.mp (He.ba (He.ba c.b).2).1 t (List.mem_of_getElem? h)
theorem SaysM.nd (c : SaysM fa fn ts ns w K) (i : Nat) {t : TabN} (h : ns[i]? = some t := by rfl) : NDict K w (He.ga K t.1) t.2 := by
  have e : ns.map (fun t => dicN K (He.ga K t.1)) = ns.map fun t => some ((t.2.map (·.1)).map (keyInN w.params)) := congrArg (fun z : AlM => z.2.2) c
  have e2 : (ns.map fun t => dicN K (He.ga K t.1))[i]? = (ns.map fun t => some ((t.2.map (·.1)).map (keyInN w.params)))[i]? := by rw [e]
  rw [List.getElem?_map, List.getElem?_map, h] at e2
  exact dicN_ok (Option.some.inj e2) (List.all_eq_true.mp (He.ba (He.ba c.b).2).2 t (List.mem_of_getElem? h))
end
end Br

namespace Br
def D.isI : D → Bool
  | .int _ => true
  | _ => false
def D.isB (lo hi : Int) : D → Bool
  | .int i => decide (lo ≤ i) && decide (i ≤ hi)
  | _ => false
def D.isN : D → Bool
  | .non => true
  | _ => false
def D.isT (n : Int) : D → Bool
  | .tup xs => decide ((xs.length : Int) = n)
  | _ => false
mutual
def D.fit (M : Nat) : D → Bool
  | .non => true
  | .bl _ => true
  | .int i => decide (i.natAbs ≤ M)
  | .str z => z.cps.toList.all fun c => decide (c < 128)
  | .lst xs => D.fits M xs
  | .tup xs => D.fits M xs
  | .dk kvs => kvs.isEmpty
  | .ob _ _ => false
  | .xo _ _ => false
def D.fits (M : Nat) : List D → Bool
  | [] => true
  | x :: r => D.fit M x && D.fits M r
end
mutual
def D.ln : D → Nat
  | .non => 4
  | .bl _ => 5
  | .int _ => 1921
  | .str z => 10 * z.length + 2
  | .lst xs => D.lns xs + 3
  | .tup xs => D.lns xs + 3
  | .dk _ => 3
  | .ob _ _ => 0
  | .xo _ _ => 0
def D.lns : List D → Nat
  | [] => 0
  | x :: r => D.ln x + 2 + D.lns r
end
mutual
def D.dpt : D → Nat
  | .lst xs => D.dpts xs + 1
  | .tup xs => D.dpts xs + 1
  | .dk _ => 1
  | _ => 0
def D.dpts : List D → Nat
  | [] => 0
  | x :: r => max (D.dpt x) (D.dpts r)
end
end Br
namespace Ma
open PySem PySem.Spec PyProof.Rows L2 Br
def topS (i : Nat) : Stmt := PySem.Challenge.pw_byteround_k03_what_is_a_row_or_a_word.main.body.getD i (.Pass ⟨0, 0, 0, 0⟩)
def pen (cells : List Int) (nth left : Int) : List (Key × D) := [(.inr "cells", .lst (cells.map D.int)), (.inr "nth", .int nth), (.inr "left", .int left)]
theorem pen_cells {c : List Int} {n l : Int} : lookD (pen c n l) (.inr "cells") = some (.lst (c.map D.int)) := rfl
theorem pen_nth {c : List Int} {n l : Int} : lookD (pen c n l) (.inr "nth") = some (.int n) := rfl
theorem pen_left {c : List Int} {n l : Int} : lookD (pen c n l) (.inr "left") = some (.int l) := rfl
theorem put_nth {c : List Int} {n l m : Int} : putD (pen c n l) (.inr "nth") (.int m) = pen c m l := rfl
theorem put_left {c : List Int} {n l m : Int} : putD (pen c n l) (.inr "left") (.int m) = pen c n m := rfl
/-- the store o, a pen of the cells at k, of at most b draws -/
def Pn (k : Nat) (cells : List Int) (b : Int) (o os : Os) : Prop := ∃ nth left, os = o.set k (.md (pen cells nth left)) ∧ k < o.length ∧ (0 ≤ nth ∧ nth ≤ b) ∧ 0 ≤ left
theorem Pn.mono {k : Nat} {cells : List Int} {b c : Int} {o os : Os} (h : Pn k cells b o os) (hb : b ≤ c) : Pn k cells c o os := by
  obtain ⟨n, l, e, hk, hn, hl⟩ := h
  exact ⟨n, l, e, hk, ⟨hn.1, by omega⟩, hl⟩
theorem Pn.len {k : Nat} {cells : List Int} {b : Int} {o os : Os} (h : Pn k cells b o os) : os.length = o.length := by
  obtain ⟨n, l, e, _⟩ := h
  rw [e, List.length_set]
theorem Pn.ret {k : Nat} {cells : List Int} {b c : Int} {o os os2 : Os} {d : D} {QA : D → Os → Prop} (h : Pn k cells b o os) (h2 : Pn k cells c o os2) (q : QA d os2) : RetOk os.length QA (.d d) os2 := by
  show QA d (os2.take os.length)
  rw [List.take_of_length_le (by rw [h.len, h2.len]; exact Nat.le_refl _)]
  exact q
theorem Pn.push {k : Nat} {cells : List Int} {b : Int} {o os : Os} (x : Ob) (h : Pn k cells b o os) : Pn k cells b (o ++ [x]) (os ++ [x]) := by
  obtain ⟨n, l, e, hk, hn, hl⟩ := h
  exact ⟨n, l, by rw [e, List.set_append_left _ _ hk], by rw [List.length_append]; omega, hn, hl⟩
theorem Pn.pop {k : Nat} {cells : List Int} {b : Int} {o os2 : Os} {x : Ob} (hk : k < o.length) (h : Pn k cells b (o ++ [x]) os2) : ∃ os3, os2 = os3 ++ [x] ∧ Pn k cells b o os3 := by
  obtain ⟨n, l, e, _, hn, hl⟩ := h
  exact ⟨o.set k _, by rw [e, List.set_append_left _ _ hk], n, l, rfl, hk, hn, hl⟩
def fDraw : FD := fun ds os QA _ => ∃ (k : Nat) (span : Int) (cells : List Int) (b : Int) (o : Os), ds = [.o k, .d (.int span)] ∧ Pn k cells b o os ∧ (0 < span ∧ span < 2 ^ 64) ∧ b < 2 ^ 39 ∧
  ∀ d os', 0 ≤ d → d < span → Pn k cells (b + 1) o os' → QA (.int d) os'
theorem draw_raw {ds : List Sv} {os : Os} {QA : D → Os → Prop} {EA : Xa} (h : fDraw ds os QA EA) : ∃ (k : Nat) (span : Int) (cells : List Int) (nth left : Int), ds = [.o k, .d (.int span)] ∧ os[k]? = some (.md (pen cells nth left)) ∧ (0 < span ∧ span < 2 ^ 64) ∧ (0 ≤ nth ∧ nth < 2 ^ 40) ∧ 0 ≤ left ∧
  ∀ d nth' left', 0 ≤ d → d < span → nth ≤ nth' → nth' ≤ nth + 1 → 0 ≤ left' → QA (.int d) (os.set k (.md (pen cells nth' left'))) := by
  obtain ⟨k, span, cells, b, o, e, ⟨nth, left, eo, hk, hn, hl⟩, hs, hb, q⟩ := h
  subst eo
  exact ⟨k, span, cells, nth, left, e, List.getElem?_set_self hk, hs, ⟨hn.1, by omega⟩, hl, fun d n2 l2 h0 h1 h2 h3 h4 => q d _ h0 h1 ⟨n2, l2, List.set_set .., hk, ⟨by omega, by omega⟩, h4⟩⟩
local macro_rules | `(tactic| walk_at "side") => `(tactic| first
  | exact c_divS (by omega) (by omega)
  | exact c_mulS (by omega) (by omega)
  | omega
  | (dsimp only; omega)
  | decide
  | exact ⟨by decide, by decide, by decide⟩)
local macro_rules | `(tactic| walk_at "b") => `(tactic| first
  | with_reducible refine w_seq ?_
  | with_reducible refine w_next ?_
  | with_reducible refine w_ret ?_
  | with_reducible refine w_if ?_
  | ((with_reducible refine w_asg ?_); (try dsimp only [List.set_cons_zero, List.set_cons_succ]))
  | ((with_reducible refine w_dputS ?_); (try dsimp only [List.set_cons_zero, List.set_cons_succ]))
  | with_reducible refine br_T ?_
  | with_reducible refine br_F ?_
  | with_reducible refine tw_test ?_
  | with_reducible refine tw_and ?_
  | with_reducible refine tw_or ?_
  | with_reducible refine tw_not ?_
  | with_reducible refine tw_B ?_
  | with_reducible refine ew_int ?_
  | with_reducible refine ew_str ?_
  | with_reducible refine ew_bl ?_
  | with_reducible refine ew_non ?_
  | ((with_reducible refine ew_var (d := ?hd) ?hv ?_); (case hv => exact rfl))
  | ((with_reducible refine ew_op ?_); (try dsimp only))
  | with_reducible refine ew_cb ?_
  | with_reducible refine ew_dgetS ?_
  | with_reducible refine ew_lst2 ?_
  | with_reducible refine ew_tup2 ?_
  | ((with_reducible refine aw_cons ?_); (try dsimp only))
  | with_reducible refine aw_nil ?_
  | with_reducible refine bw_i0 ?_
  | with_reducible refine bw_ib ?_
  | with_reducible refine bw_neNil ?_
  | ((with_reducible refine bw_i ?hc ?_); (case hc => walk_at "side"))
  | with_reducible refine cw_abs ?_
  | with_reducible refine cw_lenL ?_
  | ((with_reducible refine Exists.intro _ (And.intro rfl ?_)); (try dsimp only))
  | ((with_reducible refine And.intro (small_len (Nat.le_of_ble_eq_true rfl)) ?_); (try dsimp only))
  | ((with_reducible refine ⟨_, ?kv, ?dd, rfl, ?ho, ?lk, ?_⟩); (case ho => first | assumption | exact get_set (by assumption)); (case lk => rfl); (try dsimp only))
  | ((with_reducible refine ⟨_, ?kv, _, ?k2, ?o3, rfl, rfl, ?ho, ?lk, ?e1, ?e2, ?_⟩); (case ho => first | assumption | exact get_set (by assumption)); (case lk => exact Nat.le_of_ble_eq_true rfl); (case e1 => first | exact put_nth | exact put_left); (case e2 => first | exact List.set_set .. | rfl); (try dsimp only)))
section
variable {P : Program} {w : World} {K : PySem.W.Frag} {mg : Str → Option Value} {base : Heap}
/- _law_draw: top 16; used ['abs', 'len', 'range']; calls []; const [] -/
abbrev s_l_draw : Stmt := topS 18
abbrev N_l_draw : List Str := ["_law_pen", "_law_span", "_law_digit", "_law_nth", "_law_cell", "_law_mixed", "_law_turn"]
theorem sc_l_draw : FnScope N_l_draw ["_law_pen", "_law_span"] (defScope s_l_draw) := ⟨rfl, rfl, rfl, by decide +kernel, rfl, by decide +kernel, by decide +kernel⟩
theorem ok_l_draw {f : Addr} {fd : FuncData} (F : Fun K "_law_draw" "_law_draw" s_l_draw f fd) (z_len : mg "len" = none) (z_abs : mg "abs" = none) (z_range : mg "range" = none) : FnOk P w K mg base CX0 1 f fd ["_law_pen", "_law_span"] (spD K fDraw) := by
  refine F.ok sc_l_draw (fun vs H Q E h => ?_) (fun cdv A outer s H vs Q E hr h => ?_)
  · obtain ⟨as, os, ds, QA, EA, R, r, ⟨k, span, cells, b, o, rfl, _⟩, _⟩ := h
    rw [r.length]
    rfl
  · have hu := hu_of hr
    have hu64 : (A.deeper (envOfC "_law_draw" (defScope s_l_draw) s.heap.objs.size f cdv)).units + 64 < cLine := by
      have := hr.un
      omega
    have passOwn := @PassesOwn.never
    refine ⟨_, (pss_cons (ps_if (pt_cmpR op_gt (pe_dget hu (pv 0) pe_str (fun _ _ => rfl)) pe_int (nomark _)) (pss_cons (ps_set (i := 2) sc_l_draw.nd rfl (Or.inl rfl) (pe_op op_mod (pe_dget hu (pv 0) pe_str (fun _ _ => rfl)) (pv 1)))
    (pss_cons (ps_dput hu (pv 0) pe_str (pe_op op_fdivW (pe_dget hu (pv 0) pe_str (fun _ _ => rfl)) (pv 1)) rfl)
    (pss_one (ps_ret (pv 2))))) pss_nil)
  (pss_cons (ps_set (i := 3) sc_l_draw.nd rfl (Or.inl rfl) (pe_dget hu (pv 0) pe_str (fun _ _ => rfl)))
  (pss_cons (ps_dput hu (pv 0) pe_str (pe_op op_add (pv 3) pe_int) rfl)
  (pss_cons (ps_set (i := 4) sc_l_draw.nd rfl (Or.inl rfl) (pe_op op_add (pe_op op_mulW (pv 3) (pv 3)) pe_int))
  (pss_cons (ps_if (pt_cmpR (op_neD hu64) (pe_dget hu (pv 0) pe_str (fun _ _ => rfl)) (pe_lst pa_nil) (nomark _)) (pss_one (ps_set (i := 4) sc_l_draw.nd rfl (Or.inl rfl) (pe_ix ix_list (pe_dget hu (pv 0) pe_str (fun _ _ => rfl)) (pe_op op_mod (pv 3) (pe_callB call_lenA (by rfl) z_len PySem.boot_len (pa_cons (pe_dget hu (pv 0) pe_str (fun _ _ => rfl)) pa_nil))) (fun _ _ => rfl)))) pss_nil)
  (pss_cons (ps_if (PW.pt (pw_and (pt_cmpR op_lt (pv 3) (pe_callB call_lenA (by rfl) z_len PySem.boot_len (pa_cons (pe_dget hu (pv 0) pe_str (fun _ _ => rfl)) pa_nil)) (nomark _)) (pw_and1 (pt_cmpR op_ge (pe_callB (call_absA rfl) (by rfl) z_abs (by decide +kernel) (pa_cons (pv 4) pa_nil)) (pe_op op_pow pe_int pe_int) (nomark _))))) (pss_cons (ps_dput hu (pv 0) pe_str (pe_op op_fdivW (pe_callB (call_absA rfl) (by rfl) z_abs (by decide +kernel) (pa_cons (pv 4) pa_nil)) (pv 1)) rfl)
    (pss_one (ps_ret (pe_op op_mod (pe_callB (call_absA rfl) (by rfl) z_abs (by decide +kernel) (pa_cons (pv 4) pa_nil)) (pv 1))))) pss_nil)
  (pss_cons (ps_set (i := 5) sc_l_draw.nd rfl (Or.inl rfl) (pe_op op_mod (pe_op op_mulW (pe_op op_add (pe_op op_add (pe_op op_mod (pv 4) pe_int) (pe_op op_mulW pe_int (pv 3))) pe_int) pe_int) pe_int))
  (pss_cons (ps_for PassesOwn.never rfl (pi_range1 (by rfl) z_range (pa_cons pe_int pa_nil)) (pg_name (i := 6) sc_l_draw.nd rfl (Or.inl rfl))
    (pss_cons (ps_set (i := 5) sc_l_draw.nd rfl (Or.inl rfl) (pe_op op_add (pe_op op_add (pe_op op_add (pe_op op_mulW (pv 5) (pv 5)) (pe_op op_mulW pe_int (pv 5))) (pv 3)) (pv 6)))
    (pss_one (ps_set (i := 5) sc_l_draw.nd rfl (Or.inl rfl) (pe_op op_mod (pv 5) pe_int)))))
  (pss_one (ps_ret (pe_op op_mod (pe_op op_fdivW (pv 5) pe_int) (pv 1)))))))))))), read_of h fun ds os QA EA hf => ?_⟩
    obtain ⟨k, span, cells, nth, left, rfl, ho, hs, hn, hl, q⟩ := draw_raw hf
    dsimp only [cxOf, Cx.nox, Cx.wish]
    show W K _ _ _ ⟨[some (.o k), some (.d (.int span)), none, none, none, none, none], os⟩
    repeat (walk_at "b")
    refine br_ite (fun hl0 => ?_) (fun hl0 => ?_)
    · repeat (walk_at "b")
      exact ret_set (q _ _ _ (Int.emod_nonneg _ (by omega)) (Int.emod_lt_of_pos _ (by omega)) (by omega) (by omega) (Int.ediv_nonneg (by omega) (by omega)))
    · repeat (walk_at "b")
      refine w_join (fun S' => ∃ c : Int, S' = ⟨[some (.o k), some (.d (.int span)), none, some (.d (.int nth)), some (.d (.int c)), none, none], os.set k (.md (pen cells (nth + 1) left))⟩) ?_ ?_
      · refine br_iteB (fun hb => ?_) (fun hb => ?_)
        · repeat (walk_at "b")
          obtain ⟨c, hc⟩ := at_mod (n := nth) (ns := cells) (fun z => by subst z; cases hb)
          have hlen : 0 < ((cells.map D.int).length : Int) := by
            cases cells with
            | nil => cases hb
            | cons a r => simp
          refine bw_i hlen ?_
          refine bw_ixL hc ?_
          exact ⟨c, rfl⟩
        · repeat (walk_at "b")
          exact ⟨_, rfl⟩
      · rintro S' ⟨c, rfl⟩
        refine w_cut (fun S' => S' = ⟨[some (.o k), some (.d (.int span)), none, some (.d (.int nth)), some (.d (.int c)), none, none], os.set k (.md (pen cells (nth + 1) left))⟩) ?_ ?_
        · repeat (walk_at "b")
          refine br_ite (fun h1 => ?_) (fun h1 => ?_)
          · repeat (walk_at "b")
            refine br_ite (fun h2 => ?_) (fun h2 => ?_)
            · repeat (walk_at "b")
              refine ret_set (q _ _ _ (Int.emod_nonneg _ (by omega)) (Int.emod_lt_of_pos _ (by omega)) (by omega) (by omega) (Int.ediv_nonneg ?_ (by omega)))
              split <;> omega
            · repeat (walk_at "b")
              rfl
          · repeat (walk_at "b")
            rfl
        · rintro S' rfl
          repeat (walk_at "b")
          dsimp only
          refine w_for (iw_rng1 (aw_cons (ew_int (aw_nil ⟨3, rfl, by decide, by decide, fun _ S' => ∃ (m : Int) (o : Option Sv), (0 ≤ m ∧ m < 4294967311) ∧ S' = ⟨[some (.o k), some (.d (.int span)), none, some (.d (.int nth)), some (.d (.int c)), some (.d (.int m)), o], os.set k (.md (pen cells (nth + 1) left))⟩, ⟨_, none, ⟨Int.emod_nonneg _ (by decide), Int.emod_lt_of_pos _ (by decide)⟩, rfl⟩, ?_, ?_⟩))))
          · rintro i d S' hd ⟨m, o, hm, rfl⟩
            obtain ⟨hi, rfl⟩ := rngD_get hd
            refine gw_name ?_
            dsimp only [List.set_cons_zero, List.set_cons_succ]
            repeat (walk_at "b")
            refine ⟨_, _, ⟨Int.emod_nonneg _ (by decide), Int.emod_lt_of_pos _ (by decide)⟩, rfl⟩
          · rintro S' ⟨m, o, hm, rfl⟩
            repeat (walk_at "b")
            exact ret_set (q _ _ _ (Int.emod_nonneg _ (by omega)) (Int.emod_lt_of_pos _ (by omega)) (by omega) (by omega) hl)
end

/-- how a def of the text is called -/
structure Cal (K : PySem.W.Frag) (mg : Str → Option Value) (x : Str) (f : Addr) (fd : FuncData) (ps : List Str) : Prop where
  m : mg x = some (.ref f)
  k : PySem.W.keepIn K (.ref f) = true
  b : Binds K fd ps []
local macro_rules | `(tactic| walk_at "dr") => `(tactic| ((with_reducible refine ew_call ?_); repeat (walk_at "b")))
def fPick : FD := fun ds os QA _ => ∃ (k : Nat) (xs : List D) (cells : List Int) (b : Int) (o : Os), ds = [.o k, .d (.lst xs)] ∧ Pn k cells b o os ∧ (0 < xs.length ∧ xs.length ≤ 1000) ∧ b < 2 ^ 38 ∧
  ∀ d os', d ∈ xs → Pn k cells (b + 1) o os' → QA d os'
def fByte : FD := fun ds os QA _ => ∃ (k : Nat) (cells : List Int) (b : Int) (o : Os), ds = [.o k] ∧ Pn k cells b o os ∧ b < 2 ^ 38 ∧
  ∀ d os', 0 ≤ d → d < 256 → Pn k cells (b + 2) o os' → QA (.int d) os'
theorem at_mem {α : Type} {xs : List α} {i : Int} (h0 : 0 ≤ i) (h1 : i < (xs.length : Int)) : ∃ d, L2.atI xs i = some d ∧ d ∈ xs := by
  obtain ⟨j, rfl⟩ : ∃ j : Nat, i = (j : Int) := ⟨i.toNat, by omega⟩
  have hj : j < xs.length := by omega
  exact ⟨xs[j], atI_nat (List.getElem?_eq_getElem hj), List.getElem_mem hj⟩
section
variable {P : Program} {w : World} {K : PySem.W.Frag} {mg : Str → Option Value} {base : Heap}
abbrev s_l_pick : Stmt := topS 19
abbrev N_l_pick : List Str := ["_law_pen", "_law_some"]
theorem sc_l_pick : FnScope N_l_pick ["_law_pen", "_law_some"] (defScope s_l_pick) := ⟨rfl, rfl, rfl, by decide +kernel, rfl, by decide +kernel, by decide +kernel⟩
theorem ok_l_pick {f f_draw : Addr} {fd fd_draw : FuncData} (F : Fun K "_law_pick" "_law_pick" s_l_pick f fd) (z_len : mg "len" = none)
    (G_l_draw : FnOk P w K mg base CX0 1 f_draw fd_draw ["_law_pen", "_law_span"] (spD K fDraw)) (C_l_draw : Cal K mg "_law_draw" f_draw fd_draw ["_law_pen", "_law_span"]) : FnOk P w K mg base CX0 2 f fd ["_law_pen", "_law_some"] (spD K fPick) := by
  refine F.ok sc_l_pick (fun vs H Q E h => ?_) (fun cdv A outer s H vs Q E hr h => ?_)
  · obtain ⟨as, os, ds, QA, EA, R, r, ⟨k, xs, cells, b, o, rfl, _⟩, _⟩ := h
    rw [r.length]
    rfl
  · refine ⟨_, (pss_one (ps_ret (pe_ix ix_list (pv 1) (pe_call G_l_draw (hr.mono (by decide)) rfl C_l_draw.m C_l_draw.k C_l_draw.b .nil pass0 (pa_cons (pv 0) (pa_cons (pe_callB call_lenA (by rfl) z_len PySem.boot_len (pa_cons (pv 1) pa_nil)) pa_nil))) (fun _ _ => rfl)))), read_of h fun ds os QA EA hf => ?_⟩
    obtain ⟨k, xs, cells, b, o, rfl, ho, hs, hb, q⟩ := hf
    dsimp only [cxOf, Cx.nox, Cx.wish]
    show W K _ _ _ ⟨[some (.o k), some (.d (.lst xs))], os⟩
    repeat (walk_at "b")
    walk_at "dr"
    refine ⟨_, _, _, _, _, rfl, ho, by omega, by omega, fun d os' h0 h1 ho => ?_⟩
    obtain ⟨x, hx, hm⟩ := at_mem h0 h1
    exact bw_ixL hx (Pn.ret ‹Pn k cells b o os› ho (q x os' hm ho))
abbrev s_l_byte : Stmt := topS 22
abbrev N_l_byte : List Str := ["_law_pen"]
theorem sc_l_byte : FnScope N_l_byte ["_law_pen"] (defScope s_l_byte) := ⟨rfl, rfl, rfl, by decide +kernel, rfl, by decide +kernel, by decide +kernel⟩
theorem ok_l_byte {f f_draw : Addr} {fd fd_draw : FuncData} (F : Fun K "_law_byte" "_law_byte" s_l_byte f fd)
    (G_l_draw : FnOk P w K mg base CX0 1 f_draw fd_draw ["_law_pen", "_law_span"] (spD K fDraw)) (C_l_draw : Cal K mg "_law_draw" f_draw fd_draw ["_law_pen", "_law_span"]) : FnOk P w K mg base CX0 2 f fd ["_law_pen"] (spD K fByte) := by
  refine F.ok sc_l_byte (fun vs H Q E h => ?_) (fun cdv A outer s H vs Q E hr h => ?_)
  · obtain ⟨as, os, ds, QA, EA, R, r, ⟨k, cells, b, o, rfl, _⟩, _⟩ := h
    rw [r.length]
    rfl
  · refine ⟨_, (pss_one (ps_ret (pe_ix ix_list (pe_lst (pa_cons pe_int (pa_cons pe_int (pa_cons pe_int (pa_cons pe_int (pa_cons (pe_call G_l_draw (hr.mono (by decide)) rfl C_l_draw.m C_l_draw.k C_l_draw.b .nil pass0 (pa_cons (pv 0) (pa_cons pe_int pa_nil))) pa_nil)))))) (pe_call G_l_draw (hr.mono (by decide)) rfl C_l_draw.m C_l_draw.k C_l_draw.b .nil pass0 (pa_cons (pv 0) (pa_cons pe_int pa_nil))) (fun _ _ => rfl)))), read_of h fun ds os QA EA hf => ?_⟩
    obtain ⟨k, cells, b, o, rfl, ho, hb, q⟩ := hf
    dsimp only [cxOf, Cx.nox, Cx.wish]
    show W K _ _ _ ⟨[some (.o k)], os⟩
    repeat (walk_at "b")
    walk_at "dr"
    refine ⟨_, _, _, _, _, rfl, ho, by omega, by omega, fun d os1 h0 h1 ho1 => ?_⟩
    repeat (walk_at "b")
    walk_at "dr"
    refine ⟨_, _, _, _, _, rfl, ho1, by omega, by omega, fun e os2 h2 h3 ho2 => ?_⟩
    have ho3 : Pn k cells (b + 2) o os2 := ho2.mono (by omega)
    obtain ⟨x, hx, hm⟩ := at_mem (xs := [D.int 0, .int 15, .int 16, .int 255, .int d]) h2 h3
    refine bw_ixL hx (Pn.ret ho ho3 ?_)
    simp only [List.mem_cons, List.not_mem_nil, or_false] at hm
    rcases hm with rfl | rfl | rfl | rfl | rfl
    · exact q _ _ (by decide) (by decide) ho3
    · exact q _ _ (by decide) (by decide) ho3
    · exact q _ _ (by decide) (by decide) ho3
    · exact q _ _ (by decide) (by decide) ho3
    · exact q _ _ h0 h1 ho3
end
theorem ew_dnew {K : PySem.W.Frag} {X : Xc} {S : Sa} {Q : Sv → Os → Prop} (q : Q (.d (.dk [])) S.os) : EW K X tDNewK S Q := fun as H σ Q' R x k p hp =>
  k (.ref p) _ (.d (.dk [])) S.os (Go.new hp) (R.o.new hp) (Dx.dk (R.o.notin hp) (.inl upd_same) .nil) q
theorem br_nT {A B : Prop} (h : B) : if (!true) = true then A else B := h
theorem br_nF {A B : Prop} (h : A) : if (!false) = true then A else B := h
local macro_rules | `(tactic| walk_at "b") => `(tactic| first
  | with_reducible refine ew_isi ?_
  | with_reducible refine br_nT ?_
  | with_reducible refine br_nF ?_
  | with_reducible refine bw_eqI ?_
  | with_reducible refine bw_neI ?_
  | with_reducible refine ew_sl ?_
  | with_reducible refine ow_none ?_
  | with_reducible refine ow_some ?_
  | with_reducible refine ew_if ?_
  | with_reducible refine ew_join ?_
  | with_reducible refine ew_joinK ?_
  | with_reducible refine ew_dnew ?_
  | with_reducible refine ew_call ?_
  | with_reducible refine w_asgN ?_
  | with_reducible refine ew_andV ?_
  | with_reducible refine ew_orV ?_
  | with_reducible refine ew_notV ?_
  | with_reducible refine ew_chain ?_)

def fFeed : FN := fun ds os QN => ∃ ns : List Int, ds = [.d (.lst (ns.map D.int))] ∧ ns.length ≤ 63 ∧ QN (.md (pen ns 0 0)) os
section
variable {P : Program} {w : World} {K : PySem.W.Frag} {mg : Str → Option Value} {base : Heap}
abbrev s_l_feed : Stmt := topS 17
abbrev N_l_feed : List Str := ["_law_script", "_law_cell"]
theorem sc_l_feed : FnScope N_l_feed ["_law_script"] (defScope s_l_feed) := ⟨rfl, rfl, rfl, by decide +kernel, rfl, by decide +kernel, by decide +kernel⟩
theorem ok_l_feed {f : Addr} {fd : FuncData} (F : Fun K "_law_feed" "_law_feed" s_l_feed f fd) : FnOk P w K mg base CX0 1 f fd ["_law_script"] (spN K fFeed) := by
  refine F.ok sc_l_feed (fun vs H Q E h => ?_) (fun cdv A outer s H vs Q E hr h => ?_)
  · obtain ⟨as, os, ds, QN, R, r, ⟨ns, rfl, _⟩, _⟩ := h
    rw [r.length]
    rfl
  · refine ⟨_, (pss_one (ps_ret (pe_disp (pps_cons pe_str (pe_lc (own := [("_law_cell", 1)]) (g := (gName 1)) rfl sc_l_feed.nd (pi_list (pe_slice sl_list (pv 0) po_none (po_some pe_int))) (blkOk_by (own := [("_law_cell", 1)]) (N := N_l_feed) (sc := defScope s_l_feed) (by decide +kernel)) (fun _ _ _ _ _ => (pg_name (i := 1) sc_l_feed.nd rfl (Or.inl rfl))) (fun _ _ _ _ _ => pts_nil) (fun _ _ _ _ _ => (pv 1))) (pps_cons pe_str pe_int (pps_cons pe_str pe_int pps_nil))) (by rfl) (by rfl) (fun z => by cases z) (by decide)))), readN_of h fun ds os QN hf => ?_⟩
    obtain ⟨ns, rfl, hl, q⟩ := hf
    try dsimp only [cxOf, Cx.nox, Cx.wish]
    show W K _ _ _ ⟨[some (.d (.lst (ns.map D.int))), none], os⟩
    refine w_retDisp ?_
    refine dw_cons (ew_str ?_)
    refine ew_lc (wg_name (by decide)) mg_name ?_
    refine iw_list ?_
    repeat (walk_at "b")
    refine sw_L ?_
    have ec : Br.cutD (ns.map D.int) none (some 63) = ns.map D.int := by
      unfold Br.cutD
      have e : (some (63 : Int)) = some ((63 : Nat) : Int) := rfl
      rw [e, HT.sIx_nat, HT.sIx_none, List.length_map, Nat.min_eq_right (by omega), List.drop_zero, Nat.sub_zero, List.take_of_length_le (by rw [List.length_map]; exact Nat.le_refl _)]
    rw [ec]
    refine ⟨_, rfl, ?_⟩
    refine ⟨fun i acc os2 => os2 = os ++ [.md []] ∧ acc = (ns.take i).map D.int, ⟨rfl, rfl⟩, ?_, ?_⟩
    · rintro i d acc os2 hd ⟨rfl, rfl⟩
      have hn : i < ns.length := by
        have z := (List.getElem?_eq_some_iff.mp hd).1
        rw [List.length_map] at z
        exact z
      have ed : d = D.int ns[i] := by
        rw [List.getElem?_map, List.getElem?_eq_getElem hn] at hd
        cases hd
        rfl
      subst ed
      refine gw_name ?_
      refine tw_yes (br_T ?_)
      show EW K X0 _ ⟨[some (.d (.lst (ns.map D.int))), some (.d (.int ns[i]))], _⟩ _
      repeat (walk_at "b")
      refine ⟨_, _, rfl, rfl, by rw [List.length_map, List.length_take, sizeLine_eq]; omega, rfl, ?_⟩
      rw [← List.take_append_getElem hn, List.map_append]
      rfl
    · rintro acc os2 ⟨rfl, rfl⟩
      rw [List.length_map, List.take_length]
      refine ⟨_, _, rfl, rfl, ?_⟩
      refine dw_cons (ew_str (ew_int ⟨_, _, rfl, rfl, dw_cons (ew_str (ew_int ⟨_, _, rfl, rfl, dw_nil ?_⟩))⟩))
      refine ⟨os, pen ns 0 0, rfl, rfl, by show 3 ≤ 15; decide, rfl, by rw [List.length_append]; rfl, .md (pen ns 0 0), ?_, ?_⟩
      · show (os ++ [Ob.md (pen ns 0 0)])[os.length]? = _
        simp
      · show QN _ ((os ++ [Ob.md (pen ns 0 0)]).take os.length)
        rw [List.take_left' rfl]
        exact q
end

/-! ### the words -/
def mst : List (Str × Int × Str × Option Str) := [("halt", 0, "", none), ("back", 1, "", none), ("out", 4, "n", none), ("in", 8, "n", none), ("push", 12, "n", none), ("pop", 16, "n", none), ("set.short", 20, "n", some "byte"), ("set.long", 24, "n", some "two"), ("copy", 32, "nm", none), ("add", 48, "nm", none), ("less", 64, "nm", none), ("times", 80, "nm", none), ("go.short", 96, "", some "near"), ("go.long", 97, "", some "full"), ("call.short", 98, "", some "near"), ("call.long", 99, "", some "full"), ("if.short", 100, "n", some "near"), ("if.long", 104, "n", some "full"), ("point", 112, "x", some "full"), ("walk", 120, "xn", none), ("turn", 128, "xn", none), ("load", 136, "nx", none), ("store", 144, "nx", none), ("same", 152, "n", none), ("move", 160, "xy", none), ("take", 164, "xy", none), ("keep", 168, "xy", none), ("callat", 172, "x", none), ("goat", 174, "x", none), ("none", 176, "nx", none)]
def tbW : List (Str × D) := mst.map fun e => (e.1, .tup [.int e.2.1, .str e.2.2.1, keyD2 e.2.2.2])
def regT (l : Str) (n : Int) : D := .tup [.str l, .int n]
def tbR : List (Str × D) := [("", .tup []), ("n", .tup [regT "abcd" 1]), ("nm", .tup [regT "abcd" 4, regT "abcd" 1]), ("x", .tup [regT "pq" 1]), ("xn", .tup [regT "pq" 4, regT "abcd" 1]), ("nx", .tup [regT "abcd" 1, regT "pq" 4]), ("xy", .tup [regT "pq" 2, regT "pq" 1])]
def tbF : List (Option Str × D) := [(none, .tup [.int 0, .non, .non]), (some "byte", .tup [.int 1, .int 0, .int 255]), (some "two", .tup [.int 2, .int 0, .int 65535]), (some "near", .tup [.int 1, .int (-128), .int 127]), (some "full", .tup [.int 2, .int 0, .int 65535])]
def mfind (z : Str) : Option (Str × Int × Str × Option Str) := mst.find? fun e => decide (e.1 = z)
theorem lookT_W (z : Str) : lookT tbW z = (mfind z).map fun e => D.tup [.int e.2.1, .str e.2.2.1, keyD2 e.2.2.2] := by
  unfold lookT tbW mfind
  rw [List.find?_map, Option.map_map]
  rfl
theorem mfind_mem {z : Str} {e : Str × Int × Str × Option Str} (h : mfind z = some e) : e ∈ mst ∧ e.1 = z :=
  ⟨List.mem_of_find?_eq_some h, by simpa using List.find?_some h⟩
/-- the letters that a pattern lets stand -/
def ltr (p : Str) : List Str := p.cps.toList.map fun c => if c = 120 ∨ c = 121 then "pq" else "abcd"
def bnd (f : Option Str) : Option (Int × Int) := match f with
  | none => none
  | some f => if f = "byte" then some (0, 255) else if f = "near" then some (-128, 127) else some (0, 65535)
def pats : List Str := ["", "n", "nm", "x", "xn", "nx", "xy"]
def flds : List (Option Str) := [none, some "byte", some "two", some "near", some "full"]
theorem in_pats : ∀ e ∈ mst, e.2.2.1 ∈ pats ∧ e.2.2.2 ∈ flds := by decide +kernel
theorem regs_of {p : Str} (h : p ∈ pats) : ∃ ls : List (Str × Int), lookT tbR p = some (.tup (ls.map fun l => regT l.1 l.2)) ∧ ls.map (·.1) = ltr p := by
  simp only [pats, List.mem_cons, List.not_mem_nil, or_false] at h
  rcases h with rfl | rfl | rfl | rfl | rfl | rfl | rfl
  · exact ⟨[], rfl, rfl⟩
  · exact ⟨[("abcd", 1)], rfl, rfl⟩
  · exact ⟨[("abcd", 4), ("abcd", 1)], rfl, rfl⟩
  · exact ⟨[("pq", 1)], rfl, rfl⟩
  · exact ⟨[("pq", 4), ("abcd", 1)], rfl, rfl⟩
  · exact ⟨[("abcd", 1), ("pq", 4)], rfl, rfl⟩
  · exact ⟨[("pq", 2), ("pq", 1)], rfl, rfl⟩
theorem fld_of {f : Option Str} (h : f ∈ flds) : (bnd f = none ∧ lookN tbF f = some (.tup [.int 0, .non, .non])) ∨ ∃ m lo hi : Int, bnd f = some (lo, hi) ∧ m ≠ 0 ∧ lookN tbF f = some (.tup [.int m, .int lo, .int hi]) := by
  simp only [flds, List.mem_cons, List.not_mem_nil, or_false] at h
  rcases h with rfl | rfl | rfl | rfl | rfl
  · exact .inl ⟨rfl, rfl⟩
  · exact .inr ⟨1, 0, 255, rfl, by decide, rfl⟩
  · exact .inr ⟨2, 0, 65535, rfl, by decide, rfl⟩
  · exact .inr ⟨1, -128, 127, rfl, by decide, rfl⟩
  · exact .inr ⟨2, 0, 65535, rfl, by decide, rfl⟩
/-! ### what is asked of data -/
def rowB : D → Bool
  | .tup xs => xs.all (D.isB 0 255)
  | _ => false
def regB (ls : List Str) : D → Bool
  | .str s => decide (s.length = ls.length) && (s.cps.toList.zip ls).all fun p => decide (p.1 ∈ p.2.cps.toList)
  | _ => false
def numB (b : Option (Int × Int)) (x : D) : Bool := match b with
  | none => x.isN
  | some (lo, hi) => x.isB lo hi
def partsB (h r n : D) : Bool := match h with
  | .str z => (match mfind z with
    | none => false
    | some e => regB (ltr e.2.2.1) r && numB (bnd e.2.2.2) n)
  | _ => false
def wordB : D → Bool
  | .tup [h, r, n] => partsB h r n
  | _ => false
theorem fit_ty {M : Nat} {x : D} (h : x.fit M = true) : ∃ a, x.ty = some a := by
  cases x with
  | ob C fs => cases (show false = true from h)
  | xo C fs => cases (show false = true from h)
  | _ => exact ⟨_, rfl⟩
theorem fits_all {M : Nat} : ∀ {xs : List D}, D.fits M xs = true ↔ ∀ x ∈ xs, x.fit M = true
  | [] => ⟨fun _ _ h => (nomatch h), fun _ => rfl⟩
  | x :: r => by
    have e : D.fits M (x :: r) = (D.fit M x && D.fits M r) := rfl
    have ih := fits_all (M := M) (xs := r)
    rw [e, Bool.and_eq_true]
    constructor
    · intro h y hy
      rcases List.mem_cons.mp hy with z | z
      · exact z ▸ h.1
      · exact ih.mp h.2 y z
    · intro h
      exact ⟨h x List.mem_cons_self, ih.mpr fun y hy => h y (List.mem_cons_of_mem _ hy)⟩
theorem lns_mem : ∀ {xs : List D} {x : D}, x ∈ xs → x.ln + 2 ≤ D.lns xs
  | y :: r, x, h => by
    have e : D.lns (y :: r) = D.ln y + 2 + D.lns r := rfl
    rw [e]
    rcases List.mem_cons.mp h with z | z
    · subst z
      omega
    · have := lns_mem z
      omega
theorem lns_len : ∀ {xs : List D}, 2 * xs.length ≤ D.lns xs
  | [] => Nat.le_refl _
  | y :: r => by
    have e : D.lns (y :: r) = D.ln y + 2 + D.lns r := rfl
    have := lns_len (xs := r)
    rw [e, List.length_cons]
    omega
theorem lns_app : ∀ {xs ys : List D}, D.lns (xs ++ ys) = D.lns xs + D.lns ys
  | [], ys => by
    show D.lns ys = 0 + D.lns ys
    omega
  | y :: r, ys => by
    have e : D.lns (y :: r) = D.ln y + 2 + D.lns r := rfl
    have e2 : D.lns (y :: r ++ ys) = D.ln y + 2 + D.lns (r ++ ys) := rfl
    rw [e, e2, lns_app]
    omega
theorem dpts_mem : ∀ {xs : List D} {x : D}, x ∈ xs → x.dpt ≤ D.dpts xs
  | y :: r, x, h => by
    have e : D.dpts (y :: r) = max (D.dpt y) (D.dpts r) := rfl
    rw [e]
    rcases List.mem_cons.mp h with z | z
    · subst z
      omega
    · have := dpts_mem z
      omega
theorem dpts_le {n : Nat} : ∀ {xs : List D}, (∀ x ∈ xs, x.dpt ≤ n) → D.dpts xs ≤ n
  | [], _ => Nat.zero_le _
  | y :: r, h => by
    have e : D.dpts (y :: r) = max (D.dpt y) (D.dpts r) := rfl
    have h1 := h y List.mem_cons_self
    have h2 := dpts_le (xs := r) fun x hx => h x (List.mem_cons_of_mem _ hx)
    rw [e]
    omega
mutual
theorem fit_py {M : Nat} (hM : M ≤ 10 ^ 40) : ∀ d : D, d.fit M = true → ∃ p, d.pyE = some p ∧ p.showable = true ∧ p.depth ≤ d.dpt ∧ p.shown.length ≤ d.ln
  | .non, _ => ⟨_, rfl, rfl, Nat.le_refl _, by decide⟩
  | .bl b, _ => ⟨_, rfl, rfl, Nat.le_refl _, by cases b <;> decide⟩
  | .int i, h => by
    have h1 : i.natAbs ≤ M := of_decide_eq_true h
    have h2 : i.natAbs.log2 < 1920 := by
      by_cases h0 : i.natAbs = 0
      · rw [h0]
        decide
      · refine (Nat.log2_lt h0).mpr (Nat.lt_of_le_of_lt (Nat.le_trans h1 hM) (by decide))
    exact ⟨_, rfl, decide_eq_true h2, Nat.le_refl _, int_text_len_1921 h2⟩
  | .str z, h => ⟨_, rfl, rfl, Nat.le_refl _, PySem.StrLaws.reprText_len z fun c hc => by
      have h1 := of_decide_eq_true (List.all_eq_true.mp (show z.cps.toList.all (fun c => decide (c < 128)) = true from h) c hc)
      exact Nat.lt_trans h1 (by decide)⟩
  | .lst xs, h => by
    obtain ⟨ps, e, h1, h2, h3⟩ := fits_py hM xs h
    refine ⟨.list ps, by show (D.pysE xs).map PyData.list = _; rw [e]; rfl, h1, Nat.succ_le_succ h2, ?_⟩
    refine Nat.le_trans (listText_len_le (PyData.shownAll ps)) ?_
    show _ ≤ D.lns xs + 3
    omega
  | .tup xs, h => by
    obtain ⟨ps, e, h1, h2, h3⟩ := fits_py hM xs h
    refine ⟨.tuple ps, by show (D.pysE xs).map PyData.tuple = _; rw [e]; rfl, h1, Nat.succ_le_succ h2, ?_⟩
    refine Nat.le_trans (tupleText_len_le (PyData.shownAll ps)) ?_
    show _ ≤ D.lns xs + 3
    omega
  | .dk [], _ => ⟨.dict [], rfl, rfl, by decide, by decide⟩
  | .dk (_ :: _), h => by cases (show false = true from h)
  | .ob _ _, h => by cases (show false = true from h)
  | .xo _ _, h => by cases (show false = true from h)
theorem fits_py {M : Nat} (hM : M ≤ 10 ^ 40) : ∀ ds : List D, D.fits M ds = true → ∃ ps, D.pysE ds = some ps ∧ PyData.showableAll ps = true ∧ PyData.depthAll ps ≤ D.dpts ds ∧ ((PyData.shownAll ps).map (·.length)).sum + 2 * (PyData.shownAll ps).length ≤ D.lns ds
  | [], _ => ⟨[], rfl, rfl, Nat.le_refl _, Nat.le_refl _⟩
  | d :: ds, h => by
    have e : D.fits M (d :: ds) = (D.fit M d && D.fits M ds) := rfl
    rw [e, Bool.and_eq_true] at h
    obtain ⟨p, a1, a2, a3, a4⟩ := fit_py hM d h.1
    obtain ⟨ps, b1, b2, b3, b4⟩ := fits_py hM ds h.2
    refine ⟨p :: ps, ?_, ?_, ?_, ?_⟩
    · show ((D.pyE d).bind fun p => (D.pysE ds).map fun ps => p :: ps) = _
      rw [a1, b1]
      rfl
    · show (p.showable && PyData.showableAll ps) = true
      rw [a2, b2]
      rfl
    · show max p.depth (PyData.depthAll ps) ≤ max d.dpt (D.dpts ds)
      omega
    · show ((p.shown.length :: (PyData.shownAll ps).map (·.length)).sum + 2 * ((PyData.shownAll ps).length + 1)) ≤ d.ln + 2 + D.lns ds
      rw [List.sum_cons]
      omega
end
/-- what repr tells -/
def shownD (x : D) : Str := match x.pyE with
  | some p => p.shown
  | none => ""
theorem cw_reprF {K : PySem.W.Frag} {os : Os} {Q : Sv → Os → Prop} {M : Nat} {x : D} (hM : M ≤ 10 ^ 40) (h : x.fit M = true) (hl : x.ln ≤ 10000000) (hd : x.dpt ≤ 60) (q : Q (.d (.str (shownD x))) os) : CW K (rReprA K) [.d x] os Q := by
  obtain ⟨p, e, h1, h2, h3⟩ := fit_py hM x h
  have es : shownD x = p.shown := by
    unfold shownD
    rw [e]
  rw [es] at q
  exact cw_pure (fun as H vs Q' R r k => by
    cases r with
    | cons h t =>
      cases t
      exact ⟨as, _, x, p, rfl, h, e, h1, by omega, Nat.le_trans h3 (Nat.le_trans hl (by decide)), k _ (.str _)⟩) q

local macro_rules | `(tactic| walk_at "b") => `(tactic| first
  | with_reducible refine ew_kd (by assumption) ?_
  | with_reducible refine ew_notInKd (by assumption) ?_
  | with_reducible refine ew_nd ?_
  | with_reducible refine w_asgG ?_
  | with_reducible refine gs_nil ?_
  | with_reducible refine gs_cons ?_
  | ((with_reducible refine gw_name ?_); (try dsimp only [List.set_cons_zero, List.set_cons_succ]))
  | with_reducible refine bw_eqB ?_)
def fWhole : FD := fun ds os QA _ => ∃ x a, ds = [.d x] ∧ x.ty = some a ∧ QA (.bl x.isI) os
def fBetw : FD := fun ds os QA _ => ∃ x a lo hi, ds = [.d x, .d (.int lo), .d (.int hi)] ∧ x.ty = some a ∧ QA (.bl (x.isB lo hi)) os
def fTupOf : FD := fun ds os QA _ => ∃ x a n, ds = [.d x, .d (.int n)] ∧ x.ty = some a ∧ QA (.bl (x.isT n)) os
def fRow : FD := fun ds os QA _ => ∃ x M, ds = [.d x] ∧ x.fit M = true ∧ x.ln ≤ 10000000 ∧ QA (.bl (rowB x)) os
theorem isi_int {x : D} {a : String} (h : x.ty = some a) : ∃ r, kitB a "int" = some r ∧ ∃ r2, kitB a "bool" = some r2 ∧ (r && !r2) = x.isI := by
  cases x <;> cases h <;> exact ⟨_, rfl, _, rfl, rfl⟩
theorem isi_tup {x : D} {a : String} (h : x.ty = some a) : (∃ xs, x = .tup xs ∧ kitB a "tuple" = some true) ∨ ((∀ xs, x ≠ .tup xs) ∧ kitB a "tuple" = some false) := by
  cases x with
  | tup xs => cases h; exact .inl ⟨xs, rfl, rfl⟩
  | ob C fs => cases h
  | xo C fs => cases h
  | _ => cases h; exact .inr ⟨fun xs e => (nomatch e), rfl⟩
theorem isi_str {x : D} {a : String} (h : x.ty = some a) : (∃ z, x = .str z ∧ kitB a "str" = some true) ∨ ((∀ z, x ≠ .str z) ∧ kitB a "str" = some false) := by
  cases x with
  | str xs => cases h; exact .inl ⟨xs, rfl, rfl⟩
  | ob C fs => cases h
  | xo C fs => cases h
  | _ => cases h; exact .inr ⟨fun xs e => (nomatch e), rfl⟩
theorem isT_no {x : D} {n : Int} (h : ∀ xs, x ≠ .tup xs) : x.isT n = false := by
  cases x with
  | tup xs => exact absurd rfl (h xs)
  | _ => rfl
theorem isB_no {x : D} {lo hi : Int} (h : x.isI = false) : x.isB lo hi = false := by
  cases x with
  | int i => cases h
  | _ => rfl
theorem isI_is {x : D} (h : x.isI = true) : ∃ i, x = .int i := by
  cases x with
  | int i => exact ⟨i, rfl⟩
  | _ => cases h
section
variable {P : Program} {w : World} {K : PySem.W.Frag} {mg : Str → Option Value} {base : Heap}
abbrev s_is_whole : Stmt := topS 1
abbrev N_is_whole : List Str := ["thing"]
theorem sc_is_whole : FnScope N_is_whole ["thing"] (defScope s_is_whole) := ⟨rfl, rfl, rfl, by decide +kernel, rfl, by decide +kernel, by decide +kernel⟩
theorem ok_is_whole {f : Addr} {fd : FuncData} (F : Fun K "is_whole" "is_whole" s_is_whole f fd) (z_isinstance : mg "isinstance" = none) (z_int : mg "int" = none) (z_bool : mg "bool" = none) : FnOk P w K mg base CX0 1 f fd ["thing"] (spD K fWhole) := by
  refine F.ok sc_is_whole (fun vs H Q E h => ?_) (fun cdv A outer s H vs Q E hr h => ?_)
  · obtain ⟨as, os, ds, QA, EA, R, r, ⟨x, a, rfl, _⟩, _⟩ := h
    rw [r.length]
    rfl
  · refine ⟨_, (pss_one (ps_ret (pe_and (pe_callB call_isi (by rfl) z_isinstance (by decide +kernel) (pa_cons (pv 0) (pa_cons (pe_bltn (v := .ty "int") (by rfl) z_int boot_int rfl) pa_nil))) (pe_one (pe_not (pe_callB call_isi (by rfl) z_isinstance (by decide +kernel) (pa_cons (pv 0) (pa_cons (pe_bltn (v := .ty "bool") (by rfl) z_bool boot_bool rfl) pa_nil)))))))), read_of h fun ds os QA EA hf => ?_⟩
    obtain ⟨x, a, rfl, ha, q⟩ := hf
    try dsimp only [cxOf, Cx.nox, Cx.wish]
    show W K _ _ _ ⟨[some (.d x)], os⟩
    obtain ⟨r, h1, r2, h2, h3⟩ := isi_int ha
    repeat (walk_at "b")
    refine ⟨x, a, r, rfl, ha, h1, ?_⟩
    refine ⟨r, rfl, br_iteB (fun e => ?_) (fun e => ?_)⟩
    · repeat (walk_at "b")
      refine ⟨x, a, r2, rfl, ha, h2, ?_⟩
      refine ⟨r2, rfl, ret_same ?_⟩
      rw [e] at h3
      have e2 : (!r2) = x.isI := by rw [← h3]; rfl
      rw [e2]
      exact q
    · rw [e] at h3
      have e2 : x.isI = false := by rw [← h3]; rfl
      rw [e2] at q
      exact ret_same q
abbrev s_is_between : Stmt := topS 2
abbrev N_is_between : List Str := ["thing", "least", "most"]
theorem sc_is_between : FnScope N_is_between ["thing", "least", "most"] (defScope s_is_between) := ⟨rfl, rfl, rfl, by decide +kernel, rfl, by decide +kernel, by decide +kernel⟩
theorem ok_is_between {f a1 : Addr} {fd d1 : FuncData} (F : Fun K "is_between" "is_between" s_is_between f fd)
    (G_is_whole : FnOk P w K mg base CX0 1 a1 d1 ["thing"] (spD K fWhole)) (C_is_whole : Cal K mg "is_whole" a1 d1 ["thing"]) : FnOk P w K mg base CX0 2 f fd ["thing", "least", "most"] (spD K fBetw) := by
  refine F.ok sc_is_between (fun vs H Q E h => ?_) (fun cdv A outer s H vs Q E hr h => ?_)
  · obtain ⟨as, os, ds, QA, EA, R, r, ⟨x, a, lo, hi, rfl, _⟩, _⟩ := h
    rw [r.length]
    rfl
  · refine ⟨_, (pss_one (ps_ret (pe_and (pe_call G_is_whole (hr.mono (by decide)) rfl C_is_whole.m C_is_whole.k C_is_whole.b .nil pass0 (pa_cons (pv 0) pa_nil)) (pe_one (pe_chain op_le op_le (pv 1) (pv 0) (pv 2)))))), read_of h fun ds os QA EA hf => ?_⟩
    obtain ⟨x, a, lo, hi, rfl, ha, q⟩ := hf
    try dsimp only [cxOf, Cx.nox, Cx.wish]
    show W K _ _ _ ⟨[some (.d x), some (.d (.int lo)), some (.d (.int hi))], os⟩
    repeat (walk_at "b")
    refine ⟨x, a, rfl, ha, _, rfl, br_iteB (fun e => ?_) (fun e => ?_)⟩
    · obtain ⟨i, rfl⟩ := isI_is e
      repeat (walk_at "b")
      refine br_ite (fun h1 => ?_) (fun h1 => ?_)
      · repeat (walk_at "b")
        refine ret_same ?_
        have e2 : (D.int i).isB lo hi = decide (i ≤ hi) := by
          show (decide (lo ≤ i) && decide (i ≤ hi)) = _
          rw [decide_eq_true h1]
          rfl
        rw [← e2]
        exact q
      · have e2 : (D.int i).isB lo hi = false := by
          show (decide (lo ≤ i) && decide (i ≤ hi)) = _
          rw [decide_eq_false h1]
          rfl
        rw [e2] at q
        exact ret_same q
    · rw [isB_no e] at q
      exact ret_same q
abbrev s_is_tuple_of : Stmt := topS 3
abbrev N_is_tuple_of : List Str := ["thing", "many"]
theorem sc_is_tuple_of : FnScope N_is_tuple_of ["thing", "many"] (defScope s_is_tuple_of) := ⟨rfl, rfl, rfl, by decide +kernel, rfl, by decide +kernel, by decide +kernel⟩
theorem ok_is_tuple_of {f : Addr} {fd : FuncData} (F : Fun K "is_tuple_of" "is_tuple_of" s_is_tuple_of f fd) (z_isinstance : mg "isinstance" = none) (z_tuple : mg "tuple" = none) (z_len : mg "len" = none) : FnOk P w K mg base CX0 1 f fd ["thing", "many"] (spD K fTupOf) := by
  refine F.ok sc_is_tuple_of (fun vs H Q E h => ?_) (fun cdv A outer s H vs Q E hr h => ?_)
  · obtain ⟨as, os, ds, QA, EA, R, r, ⟨x, a, n, rfl, _⟩, _⟩ := h
    rw [r.length]
    rfl
  · refine ⟨_, (pss_one (ps_ret (pe_and (pe_callB call_isi (by rfl) z_isinstance (by decide +kernel) (pa_cons (pv 0) (pa_cons (pe_bltn (v := .ty "tuple") (by rfl) z_tuple boot_tuple rfl) pa_nil))) (pe_one (pe_cmpR op_eq (pe_callB call_lenA (by rfl) z_len PySem.boot_len (pa_cons (pv 0) pa_nil)) (pv 1) (nomark _)))))), read_of h fun ds os QA EA hf => ?_⟩
    obtain ⟨x, a, n, rfl, ha, q⟩ := hf
    try dsimp only [cxOf, Cx.nox, Cx.wish]
    show W K _ _ _ ⟨[some (.d x), some (.d (.int n))], os⟩
    repeat (walk_at "b")
    rcases isi_tup ha with ⟨xs, rfl, h1⟩ | ⟨h0, h1⟩
    · refine ⟨_, a, true, rfl, ha, h1, _, rfl, br_T ?_⟩
      repeat (walk_at "b")
      refine cw_lenU ?_
      repeat (walk_at "b")
      exact ret_same q
    · refine ⟨_, a, false, rfl, ha, h1, _, rfl, br_F ?_⟩
      rw [isT_no h0] at q
      exact ret_same q
abbrev s_is_row : Stmt := topS 5
abbrev N_is_row : List Str := ["thing", "byte"]
theorem sc_is_row : FnScope N_is_row ["thing"] (defScope s_is_row) := ⟨rfl, rfl, rfl, by decide +kernel, rfl, by decide +kernel, by decide +kernel⟩
theorem all_map {xs : List D} : ((xs.map fun y => y.isB 0 255).all id) = xs.all (D.isB 0 255) := by
  rw [List.all_map]
  rfl
theorem ok_is_row {f a1 : Addr} {fd d1 : FuncData} (F : Fun K "is_row" "is_row" s_is_row f fd) (z_isinstance : mg "isinstance" = none) (z_tuple : mg "tuple" = none) (z_all : mg "all" = none)
    (G_is_between : FnOk P w K mg base CX0 2 a1 d1 ["thing", "least", "most"] (spD K fBetw)) (C_is_between : Cal K mg "is_between" a1 d1 ["thing", "least", "most"]) : FnOk P w K mg base CX0 3 f fd ["thing"] (spD K fRow) := by
  refine F.ok sc_is_row (fun vs H Q E h => ?_) (fun cdv A outer s H vs Q E hr h => ?_)
  · obtain ⟨as, os, ds, QA, EA, R, r, ⟨x, M, rfl, _⟩, _⟩ := h
    rw [r.length]
    rfl
  · refine ⟨_, (pss_one (ps_ret (pe_and (pe_callB call_isi (by rfl) z_isinstance (by decide +kernel) (pa_cons (pv 0) (pa_cons (pe_bltn (v := .ty "tuple") (by rfl) z_tuple boot_tuple rfl) pa_nil))) (pe_one (pe_callB (cr_all rfl) (by rfl) z_all (by decide +kernel) (pa_cons (pe_lc (own := [("byte", 1)]) (g := (gName 1)) rfl sc_is_row.nd (pi_tup (pv 0)) (blkOk_by (own := [("byte", 1)]) (N := N_is_row) (sc := defScope s_is_row) (by decide +kernel)) (fun _ _ _ _ _ => (pg_name (i := 1) sc_is_row.nd rfl (Or.inl rfl))) (fun _ _ _ _ _ => pts_nil) (fun _ _ _ _ _ => (pe_call G_is_between (hr.mono (by decide)) rfl C_is_between.m C_is_between.k C_is_between.b .nil pass0 (pa_cons (pv 1) (pa_cons pe_int (pa_cons pe_int pa_nil)))))) pa_nil)))))), read_of h fun ds os QA EA hf => ?_⟩
    obtain ⟨x, M, rfl, hx, hl, q⟩ := hf
    obtain ⟨a, ha⟩ := fit_ty hx
    try dsimp only [cxOf, Cx.nox, Cx.wish]
    show W K _ _ _ ⟨[some (.d x), none], os⟩
    repeat (walk_at "b")
    rcases isi_tup ha with ⟨xs, rfl, h1⟩ | ⟨h0, h1⟩
    · refine ⟨_, a, true, rfl, ha, h1, _, rfl, br_T ?_⟩
      repeat (walk_at "b")
      have hxs := fits_all.mp (show D.fits M xs = true from hx)
      have hlen : xs.length ≤ 10000000 := by
        have := lns_len (xs := xs)
        have h2 : D.lns xs + 3 ≤ 10000000 := hl
        omega
      refine ew_lc (wg_name (by decide)) mg_name ?_
      refine iw_tup ?_
      repeat (walk_at "b")
      refine ⟨fun i acc os2 => os2 = os ∧ acc = (xs.take i).map fun y => D.bl (y.isB 0 255), ⟨rfl, rfl⟩, ?_, ?_⟩
      · rintro i d acc os2 hd ⟨rfl, rfl⟩
        have hi : i < xs.length := (List.getElem?_eq_some_iff.mp hd).1
        have ed : xs[i] = d := (List.getElem?_eq_some_iff.mp hd).2
        obtain ⟨b, hb⟩ := fit_ty (hxs d (List.mem_of_getElem? hd))
        refine gw_name ?_
        refine tw_yes (br_T ?_)
        show EW K X0 _ ⟨[some (.d (.tup xs)), some (.d d)], _⟩ _
        repeat (walk_at "b")
        refine ⟨_, _, _, _, rfl, hb, _, _, rfl, rfl, ?_, rfl, ?_⟩
        · rw [List.length_map, List.length_take, sizeLine_eq]
          omega
        · rw [← List.take_append_getElem hi, List.map_append, ed]
          rfl
      · rintro acc os2 ⟨rfl, rfl⟩
        rw [List.take_length]
        have e : (xs.map fun y => D.bl (y.isB 0 255)) = (xs.map fun y => y.isB 0 255).map D.bl := by rw [List.map_map]; rfl
        rw [e]
        refine aw_nil (cw_all (ret_same ?_))
        rw [all_map]
        exact q
    · refine ⟨_, a, false, rfl, ha, h1, _, rfl, br_F ?_⟩
      have e : rowB x = false := by
        cases x with
        | tup xs => exact absurd rfl (h0 xs)
        | _ => rfl
      rw [e] at q
      exact ret_same q
end

theorem bw_isNx {K : PySem.W.Frag} {os : Os} {Q : Sv → Os → Prop} {x : D} (q : Q (.d (.bl x.isN)) os) : BW K rIsN (.d x) (.d .non) os Q :=
  bw_pure (fun as H v u Q' R rx ry k => by
    cases ry
    refine ⟨rfl, ?_⟩
    have e : decide (v = V.non) = x.isN := by
      cases (show Dx K as H v x from rx) <;> first | rfl | simp [D.isN]
    rw [e]
    exact k _ (.bl _)) q
def fRegs : FD := fun ds os QA _ => ∃ z e, ds = [.d (.str z)] ∧ mfind z = some e ∧ ∀ ls : List (Str × Int), ls.map (·.1) = ltr e.2.2.1 → QA (.tup (ls.map fun l => regT l.1 l.2)) os
def fField : FD := fun ds os QA _ => ∃ z e, ds = [.d (.str z)] ∧ mfind z = some e ∧ ∀ d, lookN tbF e.2.2.2 = some d → QA d os
def fHasR : FD := fun ds os QA _ => ∃ z e r M, ds = [.d (.str z), .d r] ∧ mfind z = some e ∧ r.fit M = true ∧ r.ln ≤ 10000000 ∧ QA (.bl (regB (ltr e.2.2.1) r)) os
def fHasN : FD := fun ds os QA _ => ∃ z e x M, ds = [.d (.str z), .d x] ∧ mfind z = some e ∧ x.fit M = true ∧ QA (.bl (numB (bnd e.2.2.2) x)) os
def fWord : FD := fun ds os QA _ => ∃ x M, ds = [.d x] ∧ x.fit M = true ∧ x.ln ≤ 10000000 ∧ QA (.bl (wordB x)) os
section
variable {P : Program} {w : World} {K : PySem.W.Frag} {mg : Str → Option Value} {base : Heap} {aW aR aF : Addr} {eW eR : Array DictEntry} {nW nR : Nat}
abbrev s_registers_of : Stmt := topS 10
abbrev N_registers_of : List Str := ["name", "_", "pattern"]
theorem sc_registers_of : FnScope N_registers_of ["name"] (defScope s_registers_of) := ⟨rfl, rfl, rfl, by decide +kernel, rfl, by decide +kernel, by decide +kernel⟩
theorem ok_registers_of {f : Addr} {fd : FuncData} (F : Fun K "registers_of" "registers_of" s_registers_of f fd) (D_WORDS : KDict K w aW eW nW) (g_WORDS : mg "WORDS" = some (.ref aW)) (k_WORDS : kdOk K aW tbW = true)
    (D_REGISTERS : KDict K w aR eR nR) (g_REGISTERS : mg "REGISTERS" = some (.ref aR)) (k_REGISTERS : kdOk K aR tbR = true) : FnOk P w K mg base CX0 1 f fd ["name"] (spD K fRegs) := by
  refine F.ok sc_registers_of (fun vs H Q E h => ?_) (fun cdv A outer s H vs Q E hr h => ?_)
  · obtain ⟨as, os, ds, QA, EA, R, r, ⟨z, e, rfl, _⟩, _⟩ := h
    rw [r.length]
    rfl
  · refine ⟨_, (pss_cons (ps_asg (pe_opD (op_kd D_WORDS) (ty_kd D_WORDS) (pe_glob rfl g_WORDS rfl) (pv 0) (fun _ _ => rfl)) (pg_tup (by rfl) (pgs_cons (pg_name (i := 1) sc_registers_of.nd rfl (Or.inl rfl)) (pgs_cons (pg_name (i := 2) sc_registers_of.nd rfl (Or.inl rfl)) (pgs_cons (pg_name (i := 1) sc_registers_of.nd rfl (Or.inl rfl)) pgs_nil)))))
  (pss_one (ps_ret (pe_opD (op_kd D_REGISTERS) (ty_kd D_REGISTERS) (pe_glob rfl g_REGISTERS rfl) (pv 2) (fun _ _ => rfl))))), read_of h fun ds os QA EA hf => ?_⟩
    obtain ⟨z, e, rfl, he, q⟩ := hf
    try dsimp only [cxOf, Cx.nox, Cx.wish]
    show W K _ _ _ ⟨[some (.d (.str z)), none, none], os⟩
    obtain ⟨hp, _⟩ := in_pats e (mfind_mem he).1
    obtain ⟨ls, h1, h2⟩ := regs_of hp
    refine w_seq (w_asgG (ew_kd k_WORDS ?_))
    repeat (walk_at "b")
    refine ⟨z, _, rfl, by rw [lookT_W, he]; rfl, ?_⟩
    refine gw_tup rfl ?_
    repeat (walk_at "b")
    exact ⟨_, _, rfl, h1, ret_same (q ls h2)⟩
abbrev s_field_of : Stmt := topS 11
abbrev N_field_of : List Str := ["name", "_", "field"]
theorem sc_field_of : FnScope N_field_of ["name"] (defScope s_field_of) := ⟨rfl, rfl, rfl, by decide +kernel, rfl, by decide +kernel, by decide +kernel⟩
theorem ok_field_of {f : Addr} {fd : FuncData} (F : Fun K "field_of" "field_of" s_field_of f fd) (D_WORDS : KDict K w aW eW nW) (g_WORDS : mg "WORDS" = some (.ref aW)) (k_WORDS : kdOk K aW tbW = true)
    (N_FIELDS : NDict K w aF tbF) (g_FIELDS : mg "FIELDS" = some (.ref aF)) : FnOk P w K mg base CX0 1 f fd ["name"] (spD K fField) := by
  refine F.ok sc_field_of (fun vs H Q E h => ?_) (fun cdv A outer s H vs Q E hr h => ?_)
  · obtain ⟨as, os, ds, QA, EA, R, r, ⟨z, e, rfl, _⟩, _⟩ := h
    rw [r.length]
    rfl
  · refine ⟨_, (pss_cons (ps_asg (pe_opD (op_kd D_WORDS) (ty_kd D_WORDS) (pe_glob rfl g_WORDS rfl) (pv 0) (fun _ _ => rfl)) (pg_tup (by rfl) (pgs_cons (pg_name (i := 1) sc_field_of.nd rfl (Or.inl rfl)) (pgs_cons (pg_name (i := 1) sc_field_of.nd rfl (Or.inl rfl)) (pgs_cons (pg_name (i := 2) sc_field_of.nd rfl (Or.inl rfl)) pgs_nil)))))
  (pss_one (ps_ret (pe_opD (op_nd N_FIELDS) (ty_nd N_FIELDS) (pe_glob rfl g_FIELDS rfl) (pv 2) (fun _ _ => rfl))))), read_of h fun ds os QA EA hf => ?_⟩
    obtain ⟨z, e, rfl, he, q⟩ := hf
    try dsimp only [cxOf, Cx.nox, Cx.wish]
    show W K _ _ _ ⟨[some (.d (.str z)), none, none], os⟩
    obtain ⟨_, hp⟩ := in_pats e (mfind_mem he).1
    obtain ⟨d, hd⟩ : ∃ d, lookN tbF e.2.2.2 = some d := by
      rcases fld_of hp with ⟨_, h⟩ | ⟨_, _, _, _, _, h⟩
      · exact ⟨_, h⟩
      · exact ⟨_, h⟩
    refine w_seq (w_asgG (ew_kd k_WORDS ?_))
    repeat (walk_at "b")
    refine ⟨z, _, rfl, by rw [lookT_W, he]; rfl, ?_⟩
    refine gw_tup rfl ?_
    repeat (walk_at "b")
    exact ⟨e.2.2.2, d, rfl, hd, ret_same (q d hd)⟩
abbrev s_has_number : Stmt := topS 15
abbrev N_has_number : List Str := ["name", "number", "many", "least", "most"]
theorem sc_has_number : FnScope N_has_number ["name", "number"] (defScope s_has_number) := ⟨rfl, rfl, rfl, by decide +kernel, rfl, by decide +kernel, by decide +kernel⟩
theorem ok_has_number {f a1 a2 : Addr} {fd d1 d2 : FuncData} (F : Fun K "has_number" "has_number" s_has_number f fd)
    (G_field_of : FnOk P w K mg base CX0 1 a1 d1 ["name"] (spD K fField)) (C_field_of : Cal K mg "field_of" a1 d1 ["name"])
    (G_is_between : FnOk P w K mg base CX0 2 a2 d2 ["thing", "least", "most"] (spD K fBetw)) (C_is_between : Cal K mg "is_between" a2 d2 ["thing", "least", "most"]) : FnOk P w K mg base CX0 3 f fd ["name", "number"] (spD K fHasN) := by
  refine F.ok sc_has_number (fun vs H Q E h => ?_) (fun cdv A outer s H vs Q E hr h => ?_)
  · obtain ⟨as, os, ds, QA, EA, R, r, ⟨z, e, x, M, rfl, _⟩, _⟩ := h
    rw [r.length]
    rfl
  · refine ⟨_, (pss_cons (ps_asg (pe_call G_field_of (hr.mono (by decide)) rfl C_field_of.m C_field_of.k C_field_of.b .nil pass0 (pa_cons (pv 0) pa_nil)) (pg_tup (by rfl) (pgs_cons (pg_name (i := 2) sc_has_number.nd rfl (Or.inl rfl)) (pgs_cons (pg_name (i := 3) sc_has_number.nd rfl (Or.inl rfl)) (pgs_cons (pg_name (i := 4) sc_has_number.nd rfl (Or.inl rfl)) pgs_nil)))))
  (pss_cons (ps_if (pt_cmpR op_eq (pv 2) pe_int (nomark _)) (pss_one (ps_ret (pe_cmpR op_isN (pv 1) pe_non (nomark _)))) pss_nil)
  (pss_one (ps_ret (pe_call G_is_between (hr.mono (by decide)) rfl C_is_between.m C_is_between.k C_is_between.b .nil pass0 (pa_cons (pv 1) (pa_cons (pv 3) (pa_cons (pv 4) pa_nil)))))))), read_of h fun ds os QA EA hf => ?_⟩
    obtain ⟨z, e, x, M, rfl, he, hx, q⟩ := hf
    try dsimp only [cxOf, Cx.nox, Cx.wish]
    show W K _ _ _ ⟨[some (.d (.str z)), some (.d x), none, none, none], os⟩
    obtain ⟨_, hp⟩ := in_pats e (mfind_mem he).1
    obtain ⟨a, ha⟩ := fit_ty hx
    repeat (walk_at "b")
    refine ⟨z, e, rfl, he, fun d hd => ?_⟩
    rcases fld_of hp with ⟨h1, h2⟩ | ⟨m, lo, hi, h1, h3, h2⟩
    · have ed := Option.some.inj (hd.symm.trans h2)
      subst ed
      rw [h1] at q
      refine gw_tup rfl ?_
      repeat (walk_at "b")
      refine br_ite (fun _ => ?_) (fun h => absurd rfl h)
      repeat (walk_at "b")
      exact bw_isNx (ret_same q)
    · have ed := Option.some.inj (hd.symm.trans h2)
      subst ed
      rw [h1] at q
      refine gw_tup rfl ?_
      repeat (walk_at "b")
      refine br_ite (fun h => absurd h h3) (fun _ => ?_)
      repeat (walk_at "b")
      exact ⟨x, a, lo, hi, rfl, ha, ret_same q⟩
abbrev s_has_registers : Stmt := topS 14
abbrev N_has_registers : List Str := ["name", "registers", "told", "letter", "letters", "_"]
theorem sc_has_registers : FnScope N_has_registers ["name", "registers"] (defScope s_has_registers) := ⟨rfl, rfl, rfl, by decide +kernel, rfl, by decide +kernel, by decide +kernel⟩
theorem ok_has_registers {f a1 : Addr} {fd d1 : FuncData} (F : Fun K "has_registers" "has_registers" s_has_registers f fd) (z_isinstance : mg "isinstance" = none) (z_str : mg "str" = none) (z_len : mg "len" = none) (z_all : mg "all" = none) (z_zip : mg "zip" = none)
    (G_registers_of : FnOk P w K mg base CX0 1 a1 d1 ["name"] (spD K fRegs)) (C_registers_of : Cal K mg "registers_of" a1 d1 ["name"]) : FnOk P w K mg base CX0 2 f fd ["name", "registers"] (spD K fHasR) := by
  refine F.ok sc_has_registers (fun vs H Q E h => ?_) (fun cdv A outer s H vs Q E hr h => ?_)
  · obtain ⟨as, os, ds, QA, EA, R, r, ⟨z, e, x, M, rfl, _⟩, _⟩ := h
    rw [r.length]
    rfl
  · refine ⟨_, (pss_cons (ps_set (i := 2) sc_has_registers.nd rfl (Or.inl rfl) (pe_call G_registers_of (hr.mono (by decide)) rfl C_registers_of.m C_registers_of.k C_registers_of.b .nil pass0 (pa_cons (pv 0) pa_nil)))
  (pss_cons (ps_if (PW.pt (pw_or (pt_not (pt_val (pe_callB call_isi (by rfl) z_isinstance (by decide +kernel) (pa_cons (pv 1) (pa_cons (pe_bltn (v := .ty "str") (by rfl) z_str boot_str rfl) pa_nil))))) (pw_or1 (pt_cmpR op_ne (pe_callB call_lenS1 (by rfl) z_len PySem.boot_len (pa_cons (pv 1) pa_nil)) (pe_callB call_lenA (by rfl) z_len PySem.boot_len (pa_cons (pv 2) pa_nil)) (nomark _))))) (pss_one (ps_ret pe_bl)) pss_nil)
  (pss_one (ps_ret (pe_callB (cr_all rfl) (by rfl) z_all (by decide +kernel) (pa_cons (pe_lc (own := [("letter", 3), ("letters", 4), ("_", 5)]) (g := (gTup _ 2 (gCons (gName 3) (gCons (gTup _ 2 (gCons (gName 4) (gCons (gName 5) gNil))) gNil)))) rfl sc_has_registers.nd (pi_zipMK (K := K) rfl (pi_zipM (by rfl) z_zip (pa_cons (pv 1) (pa_cons (pv 2) pa_nil)))) (blkOk_by (own := [("letter", 3), ("letters", 4), ("_", 5)]) (N := N_has_registers) (sc := defScope s_has_registers) (by decide +kernel)) (fun _ _ _ _ _ => (pg_tup (by rfl) (pgs_cons (pg_name (i := 3) sc_has_registers.nd rfl (Or.inl rfl)) (pgs_cons (pg_tup (by rfl) (pgs_cons (pg_name (i := 4) sc_has_registers.nd rfl (Or.inl rfl)) (pgs_cons (pg_name (i := 5) sc_has_registers.nd rfl (Or.inl rfl)) pgs_nil))) pgs_nil)))) (fun _ _ _ _ _ => pts_nil) (fun _ _ _ _ _ => (pe_cmpR op_inS (pv 3) (pv 4) rfl))) pa_nil)))))), read_of h fun ds os QA EA hf => ?_⟩
    obtain ⟨z, e, x, M, rfl, he, hx, hl, q⟩ := hf
    try dsimp only [cxOf, Cx.nox, Cx.wish]
    show W K _ _ _ ⟨[some (.d (.str z)), some (.d x), none, none, none, none], os⟩
    obtain ⟨a, ha⟩ := fit_ty hx
    repeat (walk_at "b")
    refine ⟨z, e, rfl, he, fun ls hls => ?_⟩
    repeat (walk_at "b")
    rcases isi_str ha with ⟨s, rfl, h1⟩ | ⟨h0, h1⟩
    · refine ⟨_, a, true, rfl, ha, h1, _, rfl, ?_⟩
      repeat (walk_at "b")
      have hs : s.length ≤ 10000000 := by
        have h2 : 10 * s.length + 2 ≤ 10000000 := hl
        omega
      refine cw_lenS (Nat.le_trans hs (by decide)) ?_
      repeat (walk_at "b")
      refine cw_lenU ?_
      repeat (walk_at "b")
      have hll : (ls.map fun l => regT l.1 l.2).length = (ltr e.2.2.1).length := by rw [← hls, List.length_map, List.length_map]
      rw [hll]
      refine br_iteN (fun hne => ?_) (fun heq => ?_)
      · repeat (walk_at "b")
        have e2 : regB (ltr e.2.2.1) (.str s) = false := by
          show (decide (s.length = (ltr e.2.2.1).length) && _) = false
          rw [decide_eq_false fun q : s.length = (ltr e.2.2.1).length => hne (by rw [q])]
          rfl
        rw [e2] at q
        exact ret_same q
      · repeat (walk_at "b")
        have heq' : s.length = (ltr e.2.2.1).length := by omega
        refine ew_lc (wg_tup (wgs_cons mg_name (mgs_cons (mg_tup (mgs_cons mg_name (mgs_cons mg_name mgs_nil))) mgs_nil) (wg_name (by decide)) (wgs_cons (mg_tup (mgs_cons mg_name (mgs_cons mg_name mgs_nil))) mgs_nil (wg_tup (wgs_cons mg_name (mgs_cons mg_name mgs_nil) (wg_name (by decide)) (wgs_cons mg_name mgs_nil (wg_name (by decide)) wgs_nil))) wgs_nil)))
          (mg_tup (mgs_cons mg_name (mgs_cons (mg_tup (mgs_cons mg_name (mgs_cons mg_name mgs_nil))) mgs_nil))) ?_
        refine iw_zipM ?_
        repeat (walk_at "b")
        refine ⟨s, _, rfl, ?_⟩
        have ez : zipM s (ls.map fun l => regT l.1 l.2) = (s.cps.toList.zip ls).map fun p => D.tup [.str ⟨#[p.1]⟩, regT p.2.1 p.2.2] := by
          unfold zipM
          rw [List.zip_map_right, List.map_map]
          rfl
        have hzl : (s.cps.toList.zip ls).length ≤ 10000000 := by
          rw [List.length_zip, Array.length_toList]
          exact Nat.le_trans (Nat.min_le_left _ _) hs
        rw [ez]
        refine ⟨fun i acc os2 => os2 = os ∧ acc = ((s.cps.toList.zip ls).take i).map fun p => D.bl (decide (p.1 ∈ p.2.1.cps.toList)), ⟨rfl, rfl⟩, ?_, ?_⟩
        · rintro i d acc os2 hd ⟨rfl, rfl⟩
          rw [List.getElem?_map] at hd
          obtain ⟨p, hp, rfl⟩ := Option.map_eq_some_iff.mp hd
          have hi : i < (s.cps.toList.zip ls).length := (List.getElem?_eq_some_iff.mp hp).1
          have ep : (s.cps.toList.zip ls)[i] = p := (List.getElem?_eq_some_iff.mp hp).2
          refine gw_tup rfl (gs_cons (gw_name (gs_cons (gw_tup rfl (gs_cons (gw_name (gs_cons (gw_name (gs_nil (gs_nil ?_)))))))))) 
          refine tw_yes (br_T ?_)
          show EW K X0 _ ⟨[some (.d (.str z)), some (.d (.str s)), some (.d (.tup (ls.map fun l => regT l.1 l.2))), some (.d (.str ⟨#[p.1]⟩)), some (.d (.str p.2.1)), some (.d (.int p.2.2))], _⟩ _
          repeat (walk_at "b")
          refine bw_inS ?_
          refine ⟨_, _, rfl, rfl, ?_, rfl, ?_⟩
          · rw [List.length_map, List.length_take, sizeLine_eq]
            omega
          · rw [← List.take_append_getElem hi, List.map_append, ep]
            rfl
        · rintro acc os2 ⟨rfl, rfl⟩
          rw [List.length_map, List.take_length]
          have e3 : ((s.cps.toList.zip ls).map fun p => D.bl (decide (p.1 ∈ p.2.1.cps.toList))) = ((s.cps.toList.zip ls).map fun p => decide (p.1 ∈ p.2.1.cps.toList)).map D.bl := by rw [List.map_map]; rfl
          rw [e3]
          refine aw_nil (cw_all (ret_same ?_))
          have e4 : regB (ltr e.2.2.1) (.str s) = (((s.cps.toList.zip ls).map fun p => decide (p.1 ∈ p.2.1.cps.toList)).all id) := by
            show (decide (s.length = (ltr e.2.2.1).length) && ((s.cps.toList.zip (ltr e.2.2.1)).all fun p => decide (p.1 ∈ p.2.cps.toList))) = _
            rw [decide_eq_true heq', ← hls, List.zip_map_right, List.all_map, List.all_map]
            rfl
          rw [e4] at q
          exact q
    · refine ⟨_, a, false, rfl, ha, h1, _, rfl, ?_⟩
      repeat (walk_at "b")
      have e2 : regB (ltr e.2.2.1) x = false := by
        cases x with
        | str s => exact absurd rfl (h0 s)
        | _ => rfl
      rw [e2] at q
      exact ret_same q
abbrev s_is_word : Stmt := topS 13
abbrev N_is_word : List Str := ["thing", "name", "registers", "number"]
theorem sc_is_word : FnScope N_is_word ["thing"] (defScope s_is_word) := ⟨rfl, rfl, rfl, by decide +kernel, rfl, by decide +kernel, by decide +kernel⟩
theorem is3 {x : D} : (∃ h r n, x = .tup [h, r, n] ∧ x.isT 3 = true) ∨ (x.isT 3 = false ∧ wordB x = false) := by
  cases x with
  | tup xs =>
    match xs with
    | [h, r, n] => exact .inl ⟨h, r, n, rfl, rfl⟩
    | [] => exact .inr ⟨rfl, rfl⟩
    | [_] => exact .inr ⟨rfl, rfl⟩
    | [_, _] => exact .inr ⟨rfl, rfl⟩
    | a :: b :: c :: d :: r =>
      refine .inr ⟨(show decide (((a :: b :: c :: d :: r).length : Int) = 3) = false from decide_eq_false ?_), rfl⟩
      simp only [List.length_cons]
      omega
  | _ => exact .inr ⟨rfl, rfl⟩
theorem ok_is_word {f a1 a2 a3 : Addr} {fd d1 d2 d3 : FuncData} (F : Fun K "is_word" "is_word" s_is_word f fd) (z_isinstance : mg "isinstance" = none) (z_str : mg "str" = none) (D_WORDS : KDict K w aW eW nW) (g_WORDS : mg "WORDS" = some (.ref aW)) (k_WORDS : kdOk K aW tbW = true)
    (G_is_tuple_of : FnOk P w K mg base CX0 1 a1 d1 ["thing", "many"] (spD K fTupOf)) (C_is_tuple_of : Cal K mg "is_tuple_of" a1 d1 ["thing", "many"])
    (G_has_registers : FnOk P w K mg base CX0 2 a2 d2 ["name", "registers"] (spD K fHasR)) (C_has_registers : Cal K mg "has_registers" a2 d2 ["name", "registers"])
    (G_has_number : FnOk P w K mg base CX0 3 a3 d3 ["name", "number"] (spD K fHasN)) (C_has_number : Cal K mg "has_number" a3 d3 ["name", "number"]) : FnOk P w K mg base CX0 4 f fd ["thing"] (spD K fWord) := by
  refine F.ok sc_is_word (fun vs H Q E h => ?_) (fun cdv A outer s H vs Q E hr h => ?_)
  · obtain ⟨as, os, ds, QA, EA, R, r, ⟨x, M, rfl, _⟩, _⟩ := h
    rw [r.length]
    rfl
  · refine ⟨_, (pss_cons (ps_if (pt_not (pt_val (pe_call G_is_tuple_of (hr.mono (by decide)) rfl C_is_tuple_of.m C_is_tuple_of.k C_is_tuple_of.b .nil pass0 (pa_cons (pv 0) (pa_cons pe_int pa_nil))))) (pss_one (ps_ret pe_bl)) pss_nil)
  (pss_cons (ps_asg (pv 0) (pg_tup (by rfl) (pgs_cons (pg_name (i := 1) sc_is_word.nd rfl (Or.inl rfl)) (pgs_cons (pg_name (i := 2) sc_is_word.nd rfl (Or.inl rfl)) (pgs_cons (pg_name (i := 3) sc_is_word.nd rfl (Or.inl rfl)) pgs_nil)))))
  (pss_cons (ps_if (PW.pt (pw_or (pt_not (pt_val (pe_callB call_isi (by rfl) z_isinstance (by decide +kernel) (pa_cons (pv 1) (pa_cons (pe_bltn (v := .ty "str") (by rfl) z_str boot_str rfl) pa_nil))))) (pw_or1 (pt_cmpR (op_notInKd D_WORDS) (pv 1) (pe_glob (v := V.ref _) rfl g_WORDS rfl) rfl)))) (pss_one (ps_ret pe_bl)) pss_nil)
  (pss_one (ps_ret (pe_and (pe_call G_has_registers (hr.mono (by decide)) rfl C_has_registers.m C_has_registers.k C_has_registers.b .nil pass0 (pa_cons (pv 1) (pa_cons (pv 2) pa_nil))) (pe_one (pe_call G_has_number (hr.mono (by decide)) rfl C_has_number.m C_has_number.k C_has_number.b .nil pass0 (pa_cons (pv 1) (pa_cons (pv 3) pa_nil)))))))))), read_of h fun ds os QA EA hf => ?_⟩
    obtain ⟨x, M, rfl, hx, hl, q⟩ := hf
    try dsimp only [cxOf, Cx.nox, Cx.wish]
    show W K _ _ _ ⟨[some (.d x), none, none, none], os⟩
    obtain ⟨a, ha⟩ := fit_ty hx
    repeat (walk_at "b")
    refine ⟨x, a, 3, rfl, ha, _, rfl, ?_⟩
    rcases is3 (x := x) with ⟨hd, rg, nu, rfl, h3⟩ | ⟨h3, hw⟩
    · rw [h3]
      repeat (walk_at "b")
      refine gw_tup rfl ?_
      repeat (walk_at "b")
      have hxs := fits_all.mp (show D.fits M [hd, rg, nu] = true from hx)
      have f1 := hxs hd (by simp)
      have f2 := hxs rg (by simp)
      have f3 := hxs nu (by simp)
      have hl2 : D.lns [hd, rg, nu] + 3 ≤ 10000000 := hl
      have l2 := lns_mem (xs := [hd, rg, nu]) (x := rg) (by simp)
      obtain ⟨b, hb⟩ := fit_ty f1
      rcases isi_str hb with ⟨z, rfl, h1⟩ | ⟨h0, h1⟩
      · refine ⟨_, b, true, rfl, hb, h1, _, rfl, ?_⟩
        repeat (walk_at "b")
        rw [lookT_W]
        cases he : mfind z with
        | none =>
          refine br_nF ?_
          repeat (walk_at "b")
          have e2 : wordB (.tup [.str z, rg, nu]) = false := by
            show (match mfind z with | none => false | some e => _) = false
            rw [he]
          rw [e2] at q
          exact ret_same q
        | some e =>
          refine br_nT ?_
          repeat (walk_at "b")
          have e2 : wordB (.tup [.str z, rg, nu]) = (regB (ltr e.2.2.1) rg && numB (bnd e.2.2.2) nu) := by
            show (match mfind z with | none => false | some e => (regB (ltr e.2.2.1) rg && numB (bnd e.2.2.2) nu)) = _
            rw [he]
          rw [e2] at q
          refine ⟨z, e, rg, M, rfl, he, f2, by omega, _, rfl, br_iteB (fun hb => ?_) (fun hb => ?_)⟩
          · repeat (walk_at "b")
            rw [hb] at q
            exact ⟨z, e, nu, M, rfl, he, f3, ret_same q⟩
          · rw [hb] at q
            exact ret_same q
      · refine ⟨_, b, false, rfl, hb, h1, _, rfl, ?_⟩
        repeat (walk_at "b")
        have e2 : wordB (.tup [hd, rg, nu]) = false := by
          cases hd with
          | str z => exact absurd rfl (h0 z)
          | _ => rfl
        rw [e2] at q
        exact ret_same q
    · rw [h3]
      repeat (walk_at "b")
      rw [hw] at q
      exact ret_same q
end

/-! ### a display's keys -/
def kdsOf : List (D × D) → Option (List (Key × D))
  | [] => some []
  | (.str z, v) :: r => (kdsOf r).map fun k => (.inr z, v) :: k
  | (.int i, v) :: r => (kdsOf r).map fun k => (.inl i, v) :: k
  | _ :: _ => none
theorem kds_ok : ∀ {ds : List (D × D)} {kds : List (Key × D)}, kdsOf ds = some kds → ds = kds.map fun kv => (keyD kv.1, kv.2)
  | [], kds, h => by
    cases (show some [] = some kds from h)
    rfl
  | (.str z, v) :: r, kds, h => by
    obtain ⟨k, e, rfl⟩ := Option.map_eq_some_iff.mp (show (kdsOf r).map (fun k => (Sum.inr z, v) :: k) = some kds from h)
    rw [List.map_cons, ← kds_ok e]
    rfl
  | (.int z, v) :: r, kds, h => by
    obtain ⟨k, e, rfl⟩ := Option.map_eq_some_iff.mp (show (kdsOf r).map (fun k => (Sum.inl z, v) :: k) = some kds from h)
    rw [List.map_cons, ← kds_ok e]
    rfl
  | (.non, _) :: _, _, h => by cases h
  | (.bl _, _) :: _, _, h => by cases h
  | (.lst _, _) :: _, _, h => by cases h
  | (.tup _, _) :: _, _, h => by cases h
  | (.dk _, _) :: _, _, h => by cases h
  | (.ob _ _, _) :: _, _, h => by cases h
  | (.xo _ _, _) :: _, _, h => by cases h
theorem put_new {kvs : List (Key × D)} {k : Key} {v : D} (h : k ∉ kvs.map (·.1)) : putD kvs k v = kvs ++ [(k, v)] := by
  unfold putD
  have e : (kvs.any fun kv => decide (kv.1 = k)) = false := by
    rw [List.any_eq_false]
    intro kv hk hd
    exact h (List.mem_map.mpr ⟨kv, hk, of_decide_eq_true hd⟩)
  rw [e]
  rfl
theorem merge_new : ∀ {more kvs : List (Key × D)}, ((kvs ++ more).map (·.1)).Nodup → mergeD kvs more = kvs ++ more
  | [], kvs, _ => by rw [List.append_nil]; rfl
  | (k, v) :: r, kvs, h => by
    have e1 : kvs ++ (k, v) :: r = (kvs ++ [(k, v)]) ++ r := by simp
    have hk : k ∉ kvs.map (·.1) := fun z => by
      rw [List.map_append, List.map_cons] at h
      exact (List.nodup_append.mp h).2.2 k z k (by simp) rfl
    show mergeD (putD kvs k v) r = _
    rw [put_new hk, merge_new (by rw [← e1]; exact h), ← e1]
theorem set_last {os : Os} {a b : Ob} : (os ++ [a]).set os.length b = os ++ [b] := by
  rw [List.set_append_right _ _ (Nat.le_refl _)]
  simp
theorem get_last {os : Os} {a : Ob} : (os ++ [a])[os.length]? = some a := by simp
/-! ### the law's own table -/
def kndOf (p : Str) : Str := if p = "nm" then "nn" else if p = "xy" then "xx" else p
def roomOf (f : Option Str) : Int := match f with
  | none => 0
  | some f => if f = "byte" ∨ f = "near" then 1 else 2
def tbL : List (Key × D) := mst.map fun e => (.inr e.1, .tup [.int e.2.1, .str (kndOf e.2.2.1), .int (roomOf e.2.2.2)])
theorem lookD_L (z : Str) : lookD tbL (.inr z) = (mfind z).map fun e => D.tup [.int e.2.1, .str (kndOf e.2.2.1), .int (roomOf e.2.2.2)] := by
  unfold lookD tbL mfind
  rw [List.find?_map, Option.map_map]
  have e : ((fun kv : Key × D => decide (kv.1 = Sum.inr z)) ∘ fun e : Str × Int × Str × Option Str => ((.inr e.1 : Key), D.tup [.int e.2.1, .str (kndOf e.2.2.1), .int (roomOf e.2.2.2)])) = fun e : Str × Int × Str × Option Str => decide (e.1 = z) := by
    funext e
    show decide ((Sum.inr e.1 : Key) = Sum.inr z) = decide (e.1 = z)
    by_cases h : e.1 = z
    · simp [h]
    · rw [decide_eq_false h, decide_eq_false fun q => h (Sum.inr.inj q)]
  rw [e]
  rfl
def fTable : FD := fun ds os QA _ => ds = [] ∧ QA (.dk tbL) os
def fSame : FD := fun ds os QA _ => ∃ a b, ds = [.d (.bl a), .d (.bl b)] ∧ QA (.bl (decide (a = b))) os
def fOdd : FD := fun ds os QA _ => ∃ (k : Nat) (cells : List Int) (b : Int) (o : Os), ds = [.o k] ∧ Pn k cells b o os ∧ b < 2 ^ 38 ∧
  ∀ d os', d.fit (10 ^ 30) = true → d.ln ≤ 2000 → d.dpt ≤ 1 → Pn k cells (b + 1) o os' → QA d os'
def fPickO : FD := fun ds os QA _ => ∃ (k j : Nat) (xs : List D) (cells : List Int) (b : Int) (o : Os), ds = [.o k, .o j] ∧ Pn k cells b o os ∧ os[j]? = some (.ml xs) ∧ k ≠ j ∧ (0 < xs.length ∧ xs.length ≤ 1000) ∧ b < 2 ^ 38 ∧
  ∀ d os', d ∈ xs → Pn k cells (b + 1) o os' → QA d os'
def fPickS : FD := fun ds os QA _ => ∃ (k : Nat) (z : Str) (cells : List Int) (b : Int) (o : Os), ds = [.o k, .d (.str z)] ∧ Pn k cells b o os ∧ (0 < z.length ∧ z.length ≤ 1000) ∧ b < 2 ^ 38 ∧
  ∀ c os', c ∈ z.cps.toList → Pn k cells (b + 1) o os' → QA (.str ⟨#[c]⟩) os'
section
variable {P : Program} {w : World} {K : PySem.W.Frag} {mg : Str → Option Value} {base : Heap}
theorem ok_l_pickS {f f_draw : Addr} {fd fd_draw : FuncData} (F : Fun K "_law_pick" "_law_pick" s_l_pick f fd) (z_len : mg "len" = none)
    (G_l_draw : FnOk P w K mg base CX0 1 f_draw fd_draw ["_law_pen", "_law_span"] (spD K fDraw)) (C_l_draw : Cal K mg "_law_draw" f_draw fd_draw ["_law_pen", "_law_span"]) : FnOk P w K mg base CX0 2 f fd ["_law_pen", "_law_some"] (spD K fPickS) := by
  refine F.ok sc_l_pick (fun vs H Q E h => ?_) (fun cdv A outer s H vs Q E hr h => ?_)
  · obtain ⟨as, os, ds, QA, EA, R, r, ⟨k, z, cells, b, o, rfl, _⟩, _⟩ := h
    rw [r.length]
    rfl
  · refine ⟨_, (pss_one (ps_ret (pe_ix ix_str (pv 1) (pe_call G_l_draw (hr.mono (by decide)) rfl C_l_draw.m C_l_draw.k C_l_draw.b .nil pass0 (pa_cons (pv 0) (pa_cons (pe_callB call_lenS1 (by rfl) z_len PySem.boot_len (pa_cons (pv 1) pa_nil)) pa_nil))) (fun _ _ => rfl)))), read_of h fun ds os QA EA hf => ?_⟩
    obtain ⟨k, z, cells, b, o, rfl, ho, hs, hb, q⟩ := hf
    try dsimp only [cxOf, Cx.nox, Cx.wish]
    show W K _ _ _ ⟨[some (.o k), some (.d (.str z))], os⟩
    repeat (walk_at "b")
    refine cw_lenS (small_len (Nat.le_trans hs.2 (by decide))) ?_
    repeat (walk_at "b")
    refine ⟨_, _, _, _, _, rfl, ho, by omega, by omega, fun d os' h0 h1 ho => ?_⟩
    have hzl : z.cps.toList.length = z.length := by rw [Array.length_toList]; rfl
    obtain ⟨x, hx, hm⟩ := at_mem (xs := z.cps.toList) h0 (by rw [hzl]; exact h1)
    exact bw_ixS (small_len (Nat.le_trans hs.2 (by decide))) hx (Pn.ret ‹Pn k cells b o os› ho (q x os' hm ho))
theorem ok_l_pickO {f f_draw : Addr} {fd fd_draw : FuncData} (F : Fun K "_law_pick" "_law_pick" s_l_pick f fd) (z_len : mg "len" = none)
    (G_l_draw : FnOk P w K mg base CX0 1 f_draw fd_draw ["_law_pen", "_law_span"] (spD K fDraw)) (C_l_draw : Cal K mg "_law_draw" f_draw fd_draw ["_law_pen", "_law_span"]) : FnOk P w K mg base CX0 2 f fd ["_law_pen", "_law_some"] (spD K fPickO) := by
  refine F.ok sc_l_pick (fun vs H Q E h => ?_) (fun cdv A outer s H vs Q E hr h => ?_)
  · obtain ⟨as, os, ds, QA, EA, R, r, ⟨k, j, xs, cells, b, o, rfl, _⟩, _⟩ := h
    rw [r.length]
    rfl
  · refine ⟨_, (pss_one (ps_ret (pe_ix ix_list (pv 1) (pe_call G_l_draw (hr.mono (by decide)) rfl C_l_draw.m C_l_draw.k C_l_draw.b .nil pass0 (pa_cons (pv 0) (pa_cons (pe_callB call_lenA (by rfl) z_len PySem.boot_len (pa_cons (pv 1) pa_nil)) pa_nil))) (fun _ _ => rfl)))), read_of h fun ds os QA EA hf => ?_⟩
    obtain ⟨k, j, xs, cells, b, o, rfl, ho, hj, hkj, hs, hb, q⟩ := hf
    try dsimp only [cxOf, Cx.nox, Cx.wish]
    show W K _ _ _ ⟨[some (.o k), some (.o j)], os⟩
    repeat (walk_at "b")
    refine cw_lenO hj ?_
    repeat (walk_at "b")
    refine ⟨_, _, _, _, _, rfl, ho, by omega, by omega, fun d os' h0 h1 ho2 => ?_⟩
    obtain ⟨x, hx, hm⟩ := at_mem h0 h1
    have hj2 : os'[j]? = some (.ml xs) := by
      obtain ⟨n1, l1, e1, k1, _⟩ := ho
      obtain ⟨n2, l2, e2, k2, _⟩ := ho2
      rw [e1, List.getElem?_set_ne hkj] at hj
      rw [e2, List.getElem?_set_ne hkj]
      exact hj
    exact bw_ixO hj2 hx (Pn.ret ‹Pn k cells b o os› ho2 (q x os' hm ho2))
abbrev s_l_table : Stmt := topS 20
abbrev N_l_table : List Str := ["_law_found"]
theorem sc_l_table : FnScope N_l_table [] (defScope s_l_table) := ⟨rfl, rfl, rfl, by decide +kernel, rfl, by decide +kernel, by decide +kernel⟩
theorem dw_row {K : PySem.W.Frag} {S : Sa} {Q : List (D × D) → Os → Prop} {z u : Str} {i j : Int} {trs : List (TE × TE)} (h : DW K X0 trs ⟨S.s, S.os⟩ fun ds os3 => Q ((.str z, .tup [.int i, .str u, .int j]) :: ds) os3) :
    DW K X0 ((tC (.str z), tTup (tCons (tC (.int i)) (tCons (tC (.str u)) (tCons (tC (.int j)) tNil)))) :: trs) S Q :=
  dw_cons (ew_str (ew_tup2 (aw_cons (ew_int (aw_cons (ew_str (aw_cons (ew_int (aw_nil ⟨_, rfl, (small_len (Nat.le_of_ble_eq_true rfl)), ⟨_, _, rfl, rfl, h⟩⟩)))))))))
local macro_rules | `(tactic| walk_at "dw") => `(tactic| first
  | refine dw_row ?_
  | refine dw_nil ?_)
def ch0 : List (Key × D) := [(.inr "halt", .tup [.int 0, .str "", .int 0]), (.inr "back", .tup [.int 1, .str "", .int 0]), (.inr "out", .tup [.int 4, .str "n", .int 0]), (.inr "in", .tup [.int 8, .str "n", .int 0]), (.inr "push", .tup [.int 12, .str "n", .int 0])]
def ch1 : List (Key × D) := [(.inr "pop", .tup [.int 16, .str "n", .int 0]), (.inr "set.short", .tup [.int 20, .str "n", .int 1]), (.inr "set.long", .tup [.int 24, .str "n", .int 2]), (.inr "copy", .tup [.int 32, .str "nn", .int 0])]
def ch2 : List (Key × D) := [(.inr "add", .tup [.int 48, .str "nn", .int 0]), (.inr "less", .tup [.int 64, .str "nn", .int 0]), (.inr "times", .tup [.int 80, .str "nn", .int 0]), (.inr "go.short", .tup [.int 96, .str "", .int 1])]
def ch3 : List (Key × D) := [(.inr "go.long", .tup [.int 97, .str "", .int 2]), (.inr "call.short", .tup [.int 98, .str "", .int 1]), (.inr "call.long", .tup [.int 99, .str "", .int 2])]
def ch4 : List (Key × D) := [(.inr "if.short", .tup [.int 100, .str "n", .int 1]), (.inr "if.long", .tup [.int 104, .str "n", .int 2]), (.inr "point", .tup [.int 112, .str "x", .int 2])]
def ch5 : List (Key × D) := [(.inr "walk", .tup [.int 120, .str "xn", .int 0]), (.inr "turn", .tup [.int 128, .str "xn", .int 0]), (.inr "load", .tup [.int 136, .str "nx", .int 0]), (.inr "store", .tup [.int 144, .str "nx", .int 0])]
def ch6 : List (Key × D) := [(.inr "same", .tup [.int 152, .str "n", .int 0]), (.inr "move", .tup [.int 160, .str "xx", .int 0]), (.inr "take", .tup [.int 164, .str "xx", .int 0]), (.inr "keep", .tup [.int 168, .str "xx", .int 0])]
def ch7 : List (Key × D) := [(.inr "callat", .tup [.int 172, .str "x", .int 0]), (.inr "goat", .tup [.int 174, .str "x", .int 0]), (.inr "none", .tup [.int 176, .str "nx", .int 0])]
theorem w_upd1 {K : PySem.W.Frag} {X : Xc} {E : Ea} {u : TS} {trs : List (TE × TE)} {os : Os} {kvs : List (Key × D)} (more : List (Key × D)) (hd : ∀ {S : Sa} {Q : List (D × D) → Os → Prop}, Q (more.map fun kv => (keyD kv.1, kv.2)) S.os → DW K X0 trs S Q)
    (hn : ((kvs ++ more).map (·.1)).Nodup) (hl : more.length ≤ 15) (hs : kvs.length ≤ 1000) (h : W K X u E ⟨[some (.o os.length)], os ++ [.md (kvs ++ more)]⟩) :
    W K X (tSeq (tDrop (tBM K "dict" rUpd (tVar 0) (tCons (tDisp trs) tNil))) u) E ⟨[some (.o os.length)], os ++ [.md kvs]⟩ := by
  have hm : mergeD [] more = more := merge_new (kvs := []) (by rw [List.map_append] at hn; exact (List.nodup_append.mp hn).2.1)
  refine w_seq (w_drop (ew_upd (ew_var rfl ⟨os.length, kvs, rfl, get_last, ew_disp (hd ⟨os ++ [.md kvs], more, rfl, rfl, hl, kvs, more, by rw [hm], get_last, ?_, ?_⟩)⟩)))
  · rw [sizeLine_eq]
    omega
  · rw [set_last, merge_new hn]
    exact h
theorem chunks : ch0 ++ ch1 ++ ch2 ++ ch3 ++ ch4 ++ ch5 ++ ch6 ++ ch7 = tbL := by rfl
theorem ok_l_table {f : Addr} {fd : FuncData} (F : Fun K "_law_table" "_law_table" s_l_table f fd) : FnOk P w K mg base CX0 1 f fd [] (spD K fTable) := by
  refine F.ok sc_l_table (fun vs H Q E h => ?_) (fun cdv A outer s H vs Q E hr h => ?_)
  · obtain ⟨as, os, ds, QA, EA, R, r, ⟨rfl, _⟩, _⟩ := h
    rw [r.length]
    rfl
  · refine ⟨_, (pss_cons (ps_set (i := 0) sc_l_table.nd rfl (Or.inl rfl) (pe_disp (pps_cons pe_str (pe_tup (pa_cons pe_int (pa_cons pe_str (pa_cons pe_int pa_nil)))) (pps_cons pe_str (pe_tup (pa_cons pe_int (pa_cons pe_str (pa_cons pe_int pa_nil)))) (pps_cons pe_str (pe_tup (pa_cons pe_int (pa_cons pe_str (pa_cons pe_int pa_nil)))) (pps_cons pe_str (pe_tup (pa_cons pe_int (pa_cons pe_str (pa_cons pe_int pa_nil)))) (pps_cons pe_str (pe_tup (pa_cons pe_int (pa_cons pe_str (pa_cons pe_int pa_nil)))) pps_nil))))) (by rfl) (by rfl) (fun z => by cases z) (by decide)))
  (pss_cons (ps_expr (pe_bm PySem.F.plainAttrs_dict PySem.F.slot_dict_update PySem.F.type_dict_update mt_update (pv 0) (pa_cons (pe_disp (pps_cons pe_str (pe_tup (pa_cons pe_int (pa_cons pe_str (pa_cons pe_int pa_nil)))) (pps_cons pe_str (pe_tup (pa_cons pe_int (pa_cons pe_str (pa_cons pe_int pa_nil)))) (pps_cons pe_str (pe_tup (pa_cons pe_int (pa_cons pe_str (pa_cons pe_int pa_nil)))) (pps_cons pe_str (pe_tup (pa_cons pe_int (pa_cons pe_str (pa_cons pe_int pa_nil)))) pps_nil)))) (by rfl) (by rfl) (fun z => by cases z) (by decide)) pa_nil)))
  (pss_cons (ps_expr (pe_bm PySem.F.plainAttrs_dict PySem.F.slot_dict_update PySem.F.type_dict_update mt_update (pv 0) (pa_cons (pe_disp (pps_cons pe_str (pe_tup (pa_cons pe_int (pa_cons pe_str (pa_cons pe_int pa_nil)))) (pps_cons pe_str (pe_tup (pa_cons pe_int (pa_cons pe_str (pa_cons pe_int pa_nil)))) (pps_cons pe_str (pe_tup (pa_cons pe_int (pa_cons pe_str (pa_cons pe_int pa_nil)))) (pps_cons pe_str (pe_tup (pa_cons pe_int (pa_cons pe_str (pa_cons pe_int pa_nil)))) pps_nil)))) (by rfl) (by rfl) (fun z => by cases z) (by decide)) pa_nil)))
  (pss_cons (ps_expr (pe_bm PySem.F.plainAttrs_dict PySem.F.slot_dict_update PySem.F.type_dict_update mt_update (pv 0) (pa_cons (pe_disp (pps_cons pe_str (pe_tup (pa_cons pe_int (pa_cons pe_str (pa_cons pe_int pa_nil)))) (pps_cons pe_str (pe_tup (pa_cons pe_int (pa_cons pe_str (pa_cons pe_int pa_nil)))) (pps_cons pe_str (pe_tup (pa_cons pe_int (pa_cons pe_str (pa_cons pe_int pa_nil)))) pps_nil))) (by rfl) (by rfl) (fun z => by cases z) (by decide)) pa_nil)))
  (pss_cons (ps_expr (pe_bm PySem.F.plainAttrs_dict PySem.F.slot_dict_update PySem.F.type_dict_update mt_update (pv 0) (pa_cons (pe_disp (pps_cons pe_str (pe_tup (pa_cons pe_int (pa_cons pe_str (pa_cons pe_int pa_nil)))) (pps_cons pe_str (pe_tup (pa_cons pe_int (pa_cons pe_str (pa_cons pe_int pa_nil)))) (pps_cons pe_str (pe_tup (pa_cons pe_int (pa_cons pe_str (pa_cons pe_int pa_nil)))) pps_nil))) (by rfl) (by rfl) (fun z => by cases z) (by decide)) pa_nil)))
  (pss_cons (ps_expr (pe_bm PySem.F.plainAttrs_dict PySem.F.slot_dict_update PySem.F.type_dict_update mt_update (pv 0) (pa_cons (pe_disp (pps_cons pe_str (pe_tup (pa_cons pe_int (pa_cons pe_str (pa_cons pe_int pa_nil)))) (pps_cons pe_str (pe_tup (pa_cons pe_int (pa_cons pe_str (pa_cons pe_int pa_nil)))) (pps_cons pe_str (pe_tup (pa_cons pe_int (pa_cons pe_str (pa_cons pe_int pa_nil)))) (pps_cons pe_str (pe_tup (pa_cons pe_int (pa_cons pe_str (pa_cons pe_int pa_nil)))) pps_nil)))) (by rfl) (by rfl) (fun z => by cases z) (by decide)) pa_nil)))
  (pss_cons (ps_expr (pe_bm PySem.F.plainAttrs_dict PySem.F.slot_dict_update PySem.F.type_dict_update mt_update (pv 0) (pa_cons (pe_disp (pps_cons pe_str (pe_tup (pa_cons pe_int (pa_cons pe_str (pa_cons pe_int pa_nil)))) (pps_cons pe_str (pe_tup (pa_cons pe_int (pa_cons pe_str (pa_cons pe_int pa_nil)))) (pps_cons pe_str (pe_tup (pa_cons pe_int (pa_cons pe_str (pa_cons pe_int pa_nil)))) (pps_cons pe_str (pe_tup (pa_cons pe_int (pa_cons pe_str (pa_cons pe_int pa_nil)))) pps_nil)))) (by rfl) (by rfl) (fun z => by cases z) (by decide)) pa_nil)))
  (pss_cons (ps_expr (pe_bm PySem.F.plainAttrs_dict PySem.F.slot_dict_update PySem.F.type_dict_update mt_update (pv 0) (pa_cons (pe_disp (pps_cons pe_str (pe_tup (pa_cons pe_int (pa_cons pe_str (pa_cons pe_int pa_nil)))) (pps_cons pe_str (pe_tup (pa_cons pe_int (pa_cons pe_str (pa_cons pe_int pa_nil)))) (pps_cons pe_str (pe_tup (pa_cons pe_int (pa_cons pe_str (pa_cons pe_int pa_nil)))) pps_nil))) (by rfl) (by rfl) (fun z => by cases z) (by decide)) pa_nil)))
  (pss_one (ps_ret (pv 0))))))))))), readM_of h fun ds os QA EA hf => ?_⟩
    obtain ⟨rfl, q⟩ := hf
    try dsimp only [cxOf, Cx.nox, Cx.wish]
    show W K _ _ _ ⟨[none], os⟩
    refine w_seq (w_asgDisp ?_)
    repeat (walk_at "dw")
    refine ⟨os, ch0, rfl, rfl, by decide, ?_⟩
    have e0 : mergeD [] ch0 = ch0 := merge_new (kvs := []) (by decide +kernel)
    rw [e0]
    show W K _ _ _ ⟨[some (.o os.length)], os ++ [.md ch0]⟩
    refine w_upd1 ch1 (fun h => by (repeat (walk_at "dw")); exact h) (by decide +kernel) (by decide) (by decide) ?_
    refine w_upd1 ch2 (fun h => by (repeat (walk_at "dw")); exact h) (by decide +kernel) (by decide) (by decide) ?_
    refine w_upd1 ch3 (fun h => by (repeat (walk_at "dw")); exact h) (by decide +kernel) (by decide) (by decide) ?_
    refine w_upd1 ch4 (fun h => by (repeat (walk_at "dw")); exact h) (by decide +kernel) (by decide) (by decide) ?_
    refine w_upd1 ch5 (fun h => by (repeat (walk_at "dw")); exact h) (by decide +kernel) (by decide) (by decide) ?_
    refine w_upd1 ch6 (fun h => by (repeat (walk_at "dw")); exact h) (by decide +kernel) (by decide) (by decide) ?_
    refine w_upd1 ch7 (fun h => by (repeat (walk_at "dw")); exact h) (by decide +kernel) (by decide) (by decide) ?_
    rw [chunks]
    refine w_ret (ew_var rfl ⟨Nat.le_refl _, tbL, get_last, ?_⟩)
    rw [List.take_left' rfl]
    exact q
end

theorem ew_negI {K : PySem.W.Frag} {X : Xc} {S : Sa} {Q : Sv → Os → Prop} {i : Int} (q : Q (.d (.int (-i))) S.os) : EW K X (tUn (rU fun i => V.int (-i)) (tC (.int i))) S Q :=
  ew_un (ew_int fun as H v Q' R r k => by
    cases r
    exact ⟨i, rfl, k _ H (.d (.int _)) S.os (Go.refl _ _) R (Dx.int _) q⟩)
local macro_rules | `(tactic| walk_at "b") => `(tactic| with_reducible refine ew_negI ?_)
section
variable {P : Program} {w : World} {K : PySem.W.Frag} {mg : Str → Option Value} {base : Heap}
abbrev s_l_odd : Stmt := topS 23
abbrev N_l_odd : List Str := ["_law_pen", "_law_some"]
theorem sc_l_odd : FnScope N_l_odd ["_law_pen"] (defScope s_l_odd) := ⟨rfl, rfl, rfl, by decide +kernel, rfl, by decide +kernel, by decide +kernel⟩
theorem ok_l_odd {f a1 : Addr} {fd d1 : FuncData} (F : Fun K "_law_odd" "_law_odd" s_l_odd f fd)
    (G_l_pick : FnOk P w K mg base CX0 2 a1 d1 ["_law_pen", "_law_some"] (spD K fPick)) (C_l_pick : Cal K mg "_law_pick" a1 d1 ["_law_pen", "_law_some"]) : FnOk P w K mg base CX0 3 f fd ["_law_pen"] (spD K fOdd) := by
  refine F.ok sc_l_odd (fun vs H Q E h => ?_) (fun cdv A outer s H vs Q E hr h => ?_)
  · obtain ⟨as, os, ds, QA, EA, R, r, ⟨k, cells, b, o, rfl, _⟩, _⟩ := h
    rw [r.length]
    rfl
  · refine ⟨_, (pss_cons (ps_set (i := 1) sc_l_odd.nd rfl (Or.inl rfl) (pe_lst (pa_cons pe_non (pa_cons pe_bl (pa_cons pe_bl (pa_cons pe_int (pa_cons pe_int (pa_cons (pe_un un_neg pe_int) (pa_cons (pe_un un_neg pe_int) (pa_cons (pe_un un_neg pe_int) (pa_cons pe_int (pa_cons pe_int (pa_cons pe_int (pa_cons pe_int (pa_cons pe_int (pa_cons pe_int (pa_cons pe_str (pa_cons pe_str (pa_cons pe_str (pa_cons pe_str (pa_cons pe_str (pa_cons pe_str pa_nil))))))))))))))))))))))
  (pss_cons (ps_set (i := 1) sc_l_odd.nd rfl (Or.inl rfl) (pe_op op_catL (pv 1) (pe_lst (pa_cons pe_str (pa_cons pe_str (pa_cons pe_str (pa_cons pe_str (pa_cons (pe_tup pa_nil) (pa_cons (pe_lst pa_nil) (pa_cons pe_dnewK (pa_cons (pe_tup (pa_cons pe_int pa_nil)) (pa_cons (pe_lst (pa_cons pe_int pa_nil)) (pa_cons (pe_tup (pa_cons pe_str (pa_cons pe_str (pa_cons pe_non pa_nil)))) (pa_cons (pe_op op_pow pe_int pe_int) pa_nil))))))))))))))
  (pss_one (ps_ret (pe_call G_l_pick (hr.mono (by decide)) rfl C_l_pick.m C_l_pick.k C_l_pick.b .nil pass0 (pa_cons (pv 0) (pa_cons (pv 1) pa_nil))))))), read_of h fun ds os QA EA hf => ?_⟩
    obtain ⟨k, cells, b, o, rfl, ho, hb, q⟩ := hf
    try dsimp only [cxOf, Cx.nox, Cx.wish]
    show W K _ _ _ ⟨[some (.o k), none], os⟩
    refine w_seq (w_asg (ew_lst2 ?_))
    repeat (walk_at "b")
    dsimp only [List.set_cons_zero, List.set_cons_succ]
    repeat (walk_at "b")
    refine bw_catL (small_len (by decide)) ?_
    repeat (walk_at "b")
    refine ⟨k, _, cells, b, o, rfl, ho, ⟨by decide, by decide⟩, hb, fun d os' hm ho' => ?_⟩
    have z : d.fit (10 ^ 30) = true ∧ d.ln ≤ 2000 ∧ d.dpt ≤ 1 := by
      have z := List.all_eq_true.mp (show List.all _ (fun d : D => d.fit (10 ^ 30) && decide (d.ln ≤ 2000) && decide (d.dpt ≤ 1)) = true by decide +kernel) d hm
      rw [Bool.and_eq_true, Bool.and_eq_true] at z
      exact ⟨z.1.1, of_decide_eq_true z.1.2, of_decide_eq_true z.2⟩
    exact Pn.ret ho ho' (q d os' z.1 z.2.1 z.2.2 ho')
abbrev s_l_is_whole : Stmt := topS 25
abbrev N_l_is_whole : List Str := ["_law_thing", "_law_low", "_law_high"]
theorem sc_l_is_whole : FnScope N_l_is_whole ["_law_thing", "_law_low", "_law_high"] (defScope s_l_is_whole) := ⟨rfl, rfl, rfl, by decide +kernel, rfl, by decide +kernel, by decide +kernel⟩
theorem ok_l_is_whole {f : Addr} {fd : FuncData} (F : Fun K "_law_is_whole" "_law_is_whole" s_l_is_whole f fd) (z_isinstance : mg "isinstance" = none) (z_int : mg "int" = none) (z_bool : mg "bool" = none) : FnOk P w K mg base CX0 1 f fd ["_law_thing", "_law_low", "_law_high"] (spD K fBetw) := by
  refine F.ok sc_l_is_whole (fun vs H Q E h => ?_) (fun cdv A outer s H vs Q E hr h => ?_)
  · obtain ⟨as, os, ds, QA, EA, R, r, ⟨x, a, lo, hi, rfl, _⟩, _⟩ := h
    rw [r.length]
    rfl
  · refine ⟨_, (pss_one (ps_ret (pe_and (pe_callB call_isi (by rfl) z_isinstance (by decide +kernel) (pa_cons (pv 0) (pa_cons (pe_bltn (v := .ty "int") (by rfl) z_int boot_int rfl) pa_nil))) (pe_and (pe_not (pe_callB call_isi (by rfl) z_isinstance (by decide +kernel) (pa_cons (pv 0) (pa_cons (pe_bltn (v := .ty "bool") (by rfl) z_bool boot_bool rfl) pa_nil)))) (pe_one (pe_chain op_le op_le (pv 1) (pv 0) (pv 2))))))), read_of h fun ds os QA EA hf => ?_⟩
    obtain ⟨x, a, lo, hi, rfl, ha, q⟩ := hf
    try dsimp only [cxOf, Cx.nox, Cx.wish]
    show W K _ _ _ ⟨[some (.d x), some (.d (.int lo)), some (.d (.int hi))], os⟩
    obtain ⟨r, h1, r2, h2, h3⟩ := isi_int ha
    repeat (walk_at "b")
    refine ⟨x, a, r, rfl, ha, h1, _, rfl, br_iteB (fun e => ?_) (fun e => ?_)⟩
    · repeat (walk_at "b")
      refine ⟨x, a, r2, rfl, ha, h2, _, rfl, _, rfl, br_iteB (fun e2 => ?_) (fun e2 => ?_)⟩
      · have e3 : x.isI = true := by rw [← h3, e, e2]; rfl
        obtain ⟨i, rfl⟩ := isI_is e3
        repeat (walk_at "b")
        refine br_ite (fun h1 => ?_) (fun h1 => ?_)
        · repeat (walk_at "b")
          refine ret_same ?_
          have e2 : (D.int i).isB lo hi = decide (i ≤ hi) := by
            show (decide (lo ≤ i) && decide (i ≤ hi)) = _
            rw [decide_eq_true h1]
            rfl
          rw [← e2]
          exact q
        · have e2 : (D.int i).isB lo hi = false := by
            show (decide (lo ≤ i) && decide (i ≤ hi)) = _
            rw [decide_eq_false h1]
            rfl
          rw [e2] at q
          exact ret_same q
      · have e3 : x.isI = false := by rw [← h3, e, e2]; rfl
        rw [isB_no e3] at q
        exact ret_same q
    · have e3 : x.isI = false := by rw [← h3, e]; rfl
      rw [isB_no e3] at q
      exact ret_same q
abbrev s_l_same : Stmt := topS 28
abbrev N_l_same : List Str := ["_law_found", "_law_due"]
theorem sc_l_same : FnScope N_l_same ["_law_found", "_law_due"] (defScope s_l_same) := ⟨rfl, rfl, rfl, by decide +kernel, rfl, by decide +kernel, by decide +kernel⟩
theorem ok_l_same {f : Addr} {fd : FuncData} (F : Fun K "_law_same" "_law_same" s_l_same f fd) (z_isinstance : mg "isinstance" = none) (z_bool : mg "bool" = none) : FnOk P w K mg base CX0 1 f fd ["_law_found", "_law_due"] (spD K fSame) := by
  refine F.ok sc_l_same (fun vs H Q E h => ?_) (fun cdv A outer s H vs Q E hr h => ?_)
  · obtain ⟨as, os, ds, QA, EA, R, r, ⟨a, b, rfl, _⟩, _⟩ := h
    rw [r.length]
    rfl
  · refine ⟨_, (pss_one (ps_ret (pe_and (pe_callB call_isi (by rfl) z_isinstance (by decide +kernel) (pa_cons (pv 0) (pa_cons (pe_bltn (v := .ty "bool") (by rfl) z_bool boot_bool rfl) pa_nil))) (pe_one (pe_cmpR op_eq (pv 0) (pv 1) (nomark _)))))), read_of h fun ds os QA EA hf => ?_⟩
    obtain ⟨a, b, rfl, q⟩ := hf
    try dsimp only [cxOf, Cx.nox, Cx.wish]
    show W K _ _ _ ⟨[some (.d (.bl a)), some (.d (.bl b))], os⟩
    repeat (walk_at "b")
    refine ⟨_, "bool", true, rfl, rfl, rfl, _, rfl, br_T ?_⟩
    repeat (walk_at "b")
    exact ret_same q
abbrev s_l_is_row : Stmt := topS 26
abbrev N_l_is_row : List Str := ["_law_thing", "_law_one"]
theorem sc_l_is_row : FnScope N_l_is_row ["_law_thing"] (defScope s_l_is_row) := ⟨rfl, rfl, rfl, by decide +kernel, rfl, by decide +kernel, by decide +kernel⟩
theorem filter_empty {α : Type} {p : α → Bool} : ∀ {xs : List α}, (xs.filter fun y => !p y).isEmpty = xs.all p
  | [] => rfl
  | x :: r => by
    rw [List.filter_cons, List.all_cons]
    cases h : p x with
    | true =>
      have ih := filter_empty (p := p) (xs := r)
      simpa [h] using ih
    | false => simp
theorem ok_l_is_row {f a1 : Addr} {fd d1 : FuncData} (F : Fun K "_law_is_row" "_law_is_row" s_l_is_row f fd) (z_isinstance : mg "isinstance" = none) (z_tuple : mg "tuple" = none)
    (G_l_is_whole : FnOk P w K mg base CX0 1 a1 d1 ["_law_thing", "_law_low", "_law_high"] (spD K fBetw)) (C_l_is_whole : Cal K mg "_law_is_whole" a1 d1 ["_law_thing", "_law_low", "_law_high"]) : FnOk P w K mg base CX0 2 f fd ["_law_thing"] (spD K fRow) := by
  refine F.ok sc_l_is_row (fun vs H Q E h => ?_) (fun cdv A outer s H vs Q E hr h => ?_)
  · obtain ⟨as, os, ds, QA, EA, R, r, ⟨x, M, rfl, _⟩, _⟩ := h
    rw [r.length]
    rfl
  · have hu64 : (A.deeper (envOfC "_law_is_row" (defScope s_l_is_row) s.heap.objs.size f cdv)).units + 64 < cLine := by
      have := hr.un
      omega
    refine ⟨_, (pss_one (ps_ret (pe_and (pe_callB call_isi (by rfl) z_isinstance (by decide +kernel) (pa_cons (pv 0) (pa_cons (pe_bltn (v := .ty "tuple") (by rfl) z_tuple boot_tuple rfl) pa_nil))) (pe_one (pe_cmpR (op_eqNilL hu64) (pe_lc (own := [("_law_one", 1)]) (g := (gName 1)) rfl sc_l_is_row.nd (pi_tup (pv 0)) (blkOk_by (own := [("_law_one", 1)]) (N := N_l_is_row) (sc := defScope s_l_is_row) (by decide +kernel)) (fun _ _ _ _ _ => (pg_name (i := 1) sc_l_is_row.nd rfl (Or.inl rfl))) (fun _ _ _ _ _ => (pts_one (pt_not (pt_val (pe_call G_l_is_whole (hr.mono (by decide)) rfl C_l_is_whole.m C_l_is_whole.k C_l_is_whole.b .nil pass0 (pa_cons (pv 1) (pa_cons pe_int (pa_cons pe_int pa_nil)))))))) (fun _ _ _ _ _ => (pv 1))) (pe_lst pa_nil) (nomark _)))))), read_of h fun ds os QA EA hf => ?_⟩
    obtain ⟨x, M, rfl, hx, hl, q⟩ := hf
    obtain ⟨a, ha⟩ := fit_ty hx
    try dsimp only [cxOf, Cx.nox, Cx.wish]
    show W K _ _ _ ⟨[some (.d x), none], os⟩
    repeat (walk_at "b")
    rcases isi_tup ha with ⟨xs, rfl, h1⟩ | ⟨h0, h1⟩
    · refine ⟨_, a, true, rfl, ha, h1, _, rfl, br_T ?_⟩
      repeat (walk_at "b")
      have hxs := fits_all.mp (show D.fits M xs = true from hx)
      have hlen : xs.length ≤ 10000000 := by
        have := lns_len (xs := xs)
        have h2 : D.lns xs + 3 ≤ 10000000 := hl
        omega
      refine ew_lc (wg_name (by decide)) mg_name ?_
      refine iw_tup ?_
      repeat (walk_at "b")
      refine ⟨fun i acc os2 => os2 = os ∧ acc = (xs.take i).filter fun y => !y.isB 0 255, ⟨rfl, rfl⟩, ?_, ?_⟩
      · rintro i d acc os2 hd ⟨rfl, rfl⟩
        have hi : i < xs.length := (List.getElem?_eq_some_iff.mp hd).1
        have ed : xs[i] = d := (List.getElem?_eq_some_iff.mp hd).2
        obtain ⟨b, hb⟩ := fit_ty (hxs d (List.mem_of_getElem? hd))
        refine gw_name ?_
        show TW K X0 _ ⟨[some (.d (.tup xs)), some (.d d)], _⟩ _
        repeat (walk_at "b")
        refine ⟨_, _, _, _, rfl, hb, _, rfl, ?_⟩
        have el : ((xs.take i).filter fun y => !y.isB 0 255).length ≤ i := Nat.le_trans (List.length_filter_le _ _) (by rw [List.length_take]; exact Nat.min_le_left _ _)
        cases hB : d.isB 0 255 with
        | true =>
          refine br_nT ⟨_, rfl, rfl, ?_⟩
          rw [← List.take_append_getElem hi, List.filter_append, ed]
          simp [hB]
        | false =>
          refine br_nF ?_
          repeat (walk_at "b")
          refine ⟨_, _, rfl, rfl, ?_, rfl, ?_⟩
          · rw [sizeLine_eq]
            omega
          · rw [← List.take_append_getElem hi, List.filter_append, ed]
            simp [hB]
      · rintro acc os2 ⟨rfl, rfl⟩
        rw [List.take_length]
        repeat (walk_at "b")
        refine bw_eqNilL (ret_same ?_)
        rw [filter_empty]
        exact q
    · refine ⟨_, a, false, rfl, ha, h1, _, rfl, br_F ?_⟩
      have e : rowB x = false := by
        cases x with
        | tup xs => exact absurd rfl (h0 xs)
        | _ => rfl
      rw [e] at q
      exact ret_same q
end

theorem cell_id {c : Nat} : (⟨#[c]⟩ : Str).length = 1 := rfl
theorem knd_ltr : ∀ p ∈ pats, (kndOf p).cps.toList.map (fun c => if c = 120 then ("pq" : Str) else "abcd") = ltr p ∧ (kndOf p).length = (ltr p).length ∧ (kndOf p).length ≤ 2 := by decide +kernel
theorem near_is : ∀ e ∈ mst, decide (e.1 ∈ (["go.short", "call.short", "if.short"] : List Str)) = decide (e.2.2.2 = some "near") := by decide +kernel
theorem x_is {c : Nat} : decide ((⟨#[c]⟩ : Str) = "x") = decide (c = 120) := by
  by_cases h : c = 120
  · subst h
    rfl
  · rw [decide_eq_false h]
    refine decide_eq_false fun q => h ?_
    have e : (#[c] : Array Nat) = #[120] := congrArg Str.cps q
    simpa using e
theorem fld_cases {f : Option Str} (h : f ∈ flds) : (f = none ∧ bnd f = none ∧ roomOf f = 0) ∨ (f = some "near" ∧ bnd f = some (-128, 127) ∧ roomOf f = 1) ∨ (f ≠ some "near" ∧ bnd f = some (0, 255) ∧ roomOf f = 1) ∨ (f ≠ some "near" ∧ bnd f = some (0, 65535) ∧ roomOf f = 2) := by
  simp only [flds, List.mem_cons, List.not_mem_nil, or_false] at h
  rcases h with rfl | rfl | rfl | rfl | rfl
  · exact .inl ⟨rfl, rfl, rfl⟩
  · exact .inr (.inr (.inl ⟨by decide, rfl, rfl⟩))
  · exact .inr (.inr (.inr ⟨by decide, rfl, rfl⟩))
  · exact .inr (.inl ⟨rfl, rfl, rfl⟩)
  · exact .inr (.inr (.inr ⟨by decide, rfl, rfl⟩))
theorem all_one {c : Nat} {l : Str} : ((some (c, l)).toList.all fun p : Nat × Str => decide (p.1 ∈ p.2.cps.toList)) = decide (c ∈ l.cps.toList) := by
  show (decide (c ∈ l.cps.toList) && true) = _
  rw [Bool.and_true]
theorem bw_ix0 {K : PySem.W.Frag} {os : Os} {Q : Sv → Os → Prop} {x : D} {r : List D} (q : Q (.d x) os) : BW K (rIxT K) (.d (.tup (x :: r))) (.d (.int 0)) os Q := bw_ixT (atI_nat (j := 0) rfl) q
theorem bw_ix1 {K : PySem.W.Frag} {os : Os} {Q : Sv → Os → Prop} {x y : D} {r : List D} (q : Q (.d y) os) : BW K (rIxT K) (.d (.tup (x :: y :: r))) (.d (.int 1)) os Q := bw_ixT (atI_nat (j := 1) rfl) q
theorem bw_ix2 {K : PySem.W.Frag} {os : Os} {Q : Sv → Os → Prop} {x y z : D} {r : List D} (q : Q (.d z) os) : BW K (rIxT K) (.d (.tup (x :: y :: z :: r))) (.d (.int 2)) os Q := bw_ixT (atI_nat (j := 2) rfl) q
local macro_rules | `(tactic| walk_at "b") => `(tactic| first
  | with_reducible refine bw_ix0 ?_
  | with_reducible refine bw_ix1 ?_
  | with_reducible refine bw_ix2 ?_
  | with_reducible refine ew_notInD ?_
  | with_reducible refine ew_dgetD ?_)
section
variable {P : Program} {w : World} {K : PySem.W.Frag} {mg : Str → Option Value} {base : Heap}
abbrev s_l_is_word : Stmt := topS 27
abbrev N_l_is_word : List Str := ["_law_thing", "_law_table_here", "_law_first", "_law_kinds", "_law_room", "_law_k"]
theorem sc_l_is_word : FnScope N_l_is_word ["_law_thing"] (defScope s_l_is_word) := ⟨rfl, rfl, rfl, by decide +kernel, rfl, by decide +kernel, by decide +kernel⟩
theorem ok_l_is_word {f a1 a2 : Addr} {fd d1 d2 : FuncData} (F : Fun K "_law_is_word" "_law_is_word" s_l_is_word f fd) (z_isinstance : mg "isinstance" = none) (z_tuple : mg "tuple" = none) (z_str : mg "str" = none) (z_int : mg "int" = none) (z_len : mg "len" = none) (z_range : mg "range" = none)
    (G_l_table : FnOk P w K mg base CX0 1 a1 d1 [] (spD K fTable)) (C_l_table : Cal K mg "_law_table" a1 d1 [])
    (G_l_is_whole : FnOk P w K mg base CX0 1 a2 d2 ["_law_thing", "_law_low", "_law_high"] (spD K fBetw)) (C_l_is_whole : Cal K mg "_law_is_whole" a2 d2 ["_law_thing", "_law_low", "_law_high"]) : FnOk P w K mg base CX0 2 f fd ["_law_thing"] (spD K fWord) := by
  refine F.ok sc_l_is_word (fun vs H Q E h => ?_) (fun cdv A outer s H vs Q E hr h => ?_)
  · obtain ⟨as, os, ds, QA, EA, R, r, ⟨x, M, rfl, _⟩, _⟩ := h
    rw [r.length]
    rfl
  · have hu := hu_of hr
    have hu64 : (A.deeper (envOfC "_law_is_word" (defScope s_l_is_word) s.heap.objs.size f cdv)).units + 64 < cLine := by
      have := hr.un
      omega
    refine ⟨_, (pss_cons (ps_if (PW.pt (pw_or (pt_not (pt_val (pe_callB call_isi (by rfl) z_isinstance (by decide +kernel) (pa_cons (pv 0) (pa_cons (pe_bltn (v := .ty "tuple") (by rfl) z_tuple boot_tuple rfl) pa_nil))))) (pw_or (pt_cmpR op_ne (pe_callB call_lenA (by rfl) z_len PySem.boot_len (pa_cons (pv 0) pa_nil)) pe_int (nomark _)) (pw_or1 (pt_not (pt_val (pe_callB call_isi (by rfl) z_isinstance (by decide +kernel) (pa_cons (pe_ix (r := rIxT K) ix_tup (pv 0) pe_int (fun _ _ => rfl)) (pa_cons (pe_bltn (v := .ty "str") (by rfl) z_str boot_str rfl) pa_nil))))))))) (pss_one (ps_ret pe_bl)) pss_nil)
  (pss_cons (ps_set (i := 1) sc_l_is_word.nd rfl (Or.inl rfl) (pe_call0 G_l_table (hr.mono (by decide)) rfl C_l_table.m C_l_table.k C_l_table.b .nil pass0))
  (pss_cons (ps_if (PW.pt (pw_or (pt_cmp (pc_dnotin hu (pe_ix (r := rIxT K) ix_tup (pv 0) pe_int (fun _ _ => rfl)) (pv 1))) (pw_or1 (pt_not (pt_val (pe_callB call_isi (by rfl) z_isinstance (by decide +kernel) (pa_cons (pe_ix (r := rIxT K) ix_tup (pv 0) pe_int (fun _ _ => rfl)) (pa_cons (pe_bltn (v := .ty "str") (by rfl) z_str boot_str rfl) pa_nil)))))))) (pss_one (ps_ret pe_bl)) pss_nil)
  (pss_cons (ps_asg (pe_dget hu (pv 1) (pe_ix (r := rIxT K) ix_tup (pv 0) pe_int (fun _ _ => rfl)) (fun _ _ => rfl)) (pg_tup (by rfl) (pgs_cons (pg_name (i := 2) sc_l_is_word.nd rfl (Or.inl rfl)) (pgs_cons (pg_name (i := 3) sc_l_is_word.nd rfl (Or.inr rfl)) (pgs_cons (pg_name (i := 4) sc_l_is_word.nd rfl (Or.inl rfl)) pgs_nil)))))
  (pss_cons (ps_if (pt_cmpR op_ne (pe_callB call_lenS1 (by rfl) z_len PySem.boot_len (pa_cons (pe_ix (r := rIxT K) ix_tup (pv 0) pe_int (fun _ _ => rfl)) pa_nil)) (pe_callB call_lenS1 (by rfl) z_len PySem.boot_len (pa_cons (pv 3) pa_nil)) (nomark _)) (pss_one (ps_ret pe_bl)) pss_nil)
  (pss_cons (ps_if (pt_cmpR (op_neD hu64) (pe_lc (own := [("_law_k", 5)]) (g := (gName 5)) rfl sc_l_is_word.nd (pi_range1 (by rfl) z_range (pa_cons (pe_callB call_lenS1 (by rfl) z_len PySem.boot_len (pa_cons (pv 3) pa_nil)) pa_nil)) (blkOk_by (own := [("_law_k", 5)]) (N := N_l_is_word) (sc := defScope s_l_is_word) (by decide +kernel)) (fun _ _ _ _ _ => (pg_name (i := 5) sc_l_is_word.nd rfl (Or.inl rfl))) (fun _ _ _ _ _ => (pts_one (pt_cmpR op_notInS (pe_ix ix_str (pe_ix (r := rIxT K) ix_tup (pv 0) pe_int (fun _ _ => rfl)) (pv 5) (fun _ _ => rfl)) (pe_ix (r := rIxL K) ix_list (pe_lst (pa_cons pe_str (pa_cons pe_str pa_nil))) (pe_callTy call_intA (by rfl) z_int (by decide +kernel) (pa_cons (pe_cmpR op_eq (pe_ix ix_str (pv 3) (pv 5) (fun _ _ => rfl)) pe_str (nomark _)) pa_nil)) (fun _ _ => rfl)) rfl))) (fun _ _ _ _ _ => (pv 5))) (pe_lst pa_nil) (nomark _)) (pss_one (ps_ret pe_bl)) pss_nil)
  (pss_cons (ps_if (pt_cmpR op_eq (pv 4) pe_int (nomark _)) (pss_one (ps_ret (pe_cmpR op_isN (pe_ix (r := rIxT K) ix_tup (pv 0) pe_int (fun _ _ => rfl)) pe_non (nomark _)))) pss_nil)
  (pss_cons (ps_if (pt_cmpR op_in_seq (pe_ix (r := rIxT K) ix_tup (pv 0) pe_int (fun _ _ => rfl)) (pe_tup (pa_cons pe_str (pa_cons pe_str (pa_cons pe_str pa_nil)))) rfl) (pss_one (ps_ret (pe_call G_l_is_whole (hr.mono (by decide)) rfl C_l_is_whole.m C_l_is_whole.k C_l_is_whole.b .nil pass0 (pa_cons (pe_ix (r := rIxT K) ix_tup (pv 0) pe_int (fun _ _ => rfl)) (pa_cons (pe_un un_neg pe_int) (pa_cons pe_int pa_nil)))))) pss_nil)
  (pss_one (ps_ret (pe_call G_l_is_whole (hr.mono (by decide)) rfl C_l_is_whole.m C_l_is_whole.k C_l_is_whole.b .nil pass0 (pa_cons (pe_ix (r := rIxT K) ix_tup (pv 0) pe_int (fun _ _ => rfl)) (pa_cons pe_int (pa_cons (pe_ifExp (pt_cmpR op_eq (pv 4) pe_int (nomark _)) (pe_op op_sub (pe_op op_pow pe_int pe_int) pe_int) pe_int) pa_nil)))))))))))))), read_of h fun ds os QA EA hf => ?_⟩
    obtain ⟨x, M, rfl, hx, hl, q⟩ := hf
    obtain ⟨a, ha⟩ := fit_ty hx
    try dsimp only [cxOf, Cx.nox, Cx.wish]
    show W K _ _ _ ⟨[some (.d x), none, none, none, none, none], os⟩
    repeat (walk_at "b")
    rcases isi_tup ha with ⟨xs, rfl, h1⟩ | ⟨h0, h1⟩
    · refine ⟨_, a, true, rfl, ha, h1, _, rfl, ?_⟩
      repeat (walk_at "b")
      refine cw_lenU ?_
      repeat (walk_at "b")
      rcases is3 (x := D.tup xs) with ⟨hd, rg, nu, ex, h3⟩ | ⟨h3, hw⟩
      · cases ex
        refine br_nT ?_
        have hxs := fits_all.mp (show D.fits M [hd, rg, nu] = true from hx)
        have f1 := hxs hd (by simp)
        have f2 := hxs rg (by simp)
        have f3 := hxs nu (by simp)
        have hl2 : D.lns [hd, rg, nu] + 3 ≤ 10000000 := hl
        have l2 := lns_mem (xs := [hd, rg, nu]) (x := rg) (by simp)
        obtain ⟨b1, hb1⟩ := fit_ty f1
        obtain ⟨b2, hb2⟩ := fit_ty f2
        obtain ⟨b3, hb3⟩ := fit_ty f3
        repeat (walk_at "b")
        rcases isi_str hb1 with ⟨z, rfl, i1⟩ | ⟨i0, i1⟩
        · refine ⟨_, b1, true, rfl, hb1, i1, _, rfl, ?_⟩
          repeat (walk_at "b")
          refine ⟨rfl, ?_⟩
          dsimp only [List.set_cons_zero, List.set_cons_succ]
          repeat (walk_at "b")
          refine ⟨tbL, .inr z, rfl, rfl, _, rfl, ?_⟩
          rw [lookD_L]
          cases he : mfind z with
          | none =>
            refine br_nF ?_
            repeat (walk_at "b")
            have e2 : wordB (.tup [.str z, rg, nu]) = false := by
              show (match mfind z with | none => false | some e => _) = false
              rw [he]
            rw [e2] at q
            exact ret_same q
          | some e =>
            refine br_nT ?_
            have e2 : wordB (.tup [.str z, rg, nu]) = (regB (ltr e.2.2.1) rg && numB (bnd e.2.2.2) nu) := by
              show (match mfind z with | none => false | some e => (regB (ltr e.2.2.1) rg && numB (bnd e.2.2.2) nu)) = _
              rw [he]
            rw [e2] at q
            obtain ⟨hmem, hez⟩ := mfind_mem he
            obtain ⟨hp, hfl⟩ := in_pats e hmem
            obtain ⟨k1, k2, k3⟩ := knd_ltr _ hp
            repeat (walk_at "b")
            rcases isi_str hb2 with ⟨rs, rfl, j1⟩ | ⟨j0, j1⟩
            · refine ⟨_, b2, true, rfl, hb2, j1, _, rfl, ?_⟩
              have hrs : rs.length ≤ 10000000 := by
                have h2 : 10 * rs.length + 2 + 2 ≤ D.lns [.str z, .str rs, nu] := l2
                omega
              repeat (walk_at "b")
              refine ⟨tbL, .inr z, _, rfl, rfl, by rw [lookD_L, he]; rfl, ?_⟩
              refine gw_tup rfl ?_
              repeat (walk_at "b")
              refine cw_lenS (Nat.le_trans hrs (by decide)) ?_
              repeat (walk_at "b")
              refine cw_lenS (small_len (by omega)) ?_
              repeat (walk_at "b")
              refine br_iteN (fun hne => ?_) (fun heq => ?_)
              · repeat (walk_at "b")
                have e3 : regB (ltr e.2.2.1) (.str rs) = false := by
                  show (decide (rs.length = (ltr e.2.2.1).length) && _) = false
                  rw [decide_eq_false fun w : rs.length = (ltr e.2.2.1).length => hne (by rw [w, k2])]
                  rfl
                rw [e3] at q
                exact ret_same q
              · have heq' : rs.length = (ltr e.2.2.1).length := by omega
                repeat (walk_at "b")
                refine ew_lc (wg_name (by decide)) mg_name ?_
                refine iw_rng1 ?_
                repeat (walk_at "b")
                refine cw_lenS (small_len (by omega)) ?_
                repeat (walk_at "b")
                refine ⟨by omega, by omega, ?_⟩
                have hpl : (rs.cps.toList.zip (ltr e.2.2.1)).length = (kndOf e.2.2.1).length := by
                  rw [List.length_zip, Array.length_toList, k2]
                  have : rs.cps.size = rs.length := rfl
                  omega
                refine ⟨fun i acc os2 => os2 = os ∧ ∃ ns : List Int, acc = ns.map D.int ∧ ns.length ≤ i ∧ ns.isEmpty = ((rs.cps.toList.zip (ltr e.2.2.1)).take i).all fun p => decide (p.1 ∈ p.2.cps.toList), ⟨rfl, [], rfl, Nat.le_refl _, rfl⟩, ?_, ?_⟩
                · rintro i d acc os2 hd ⟨rfl, ns, rfl, hnl, hns⟩
                  obtain ⟨hi, rfl⟩ := rngD_get hd
                  have e0 : (0 : Int) + (i : Int) * 1 = (i : Int) := by omega
                  rw [e0]
                  have hi2 : i < (kndOf e.2.2.1).length := by omega
                  obtain ⟨c, hc⟩ : ∃ c, rs.cps.toList[i]? = some c := ⟨_, List.getElem?_eq_getElem (by rw [Array.length_toList]; show i < rs.length; omega)⟩
                  obtain ⟨kc, hkc⟩ : ∃ c, (kndOf e.2.2.1).cps.toList[i]? = some c := ⟨_, List.getElem?_eq_getElem (by rw [Array.length_toList]; exact hi2)⟩
                  have hL : (ltr e.2.2.1)[i]? = some (if kc = 120 then ("pq" : Str) else "abcd") := by
                    rw [← k1, List.getElem?_map, hkc]
                    rfl
                  have hpair : (rs.cps.toList.zip (ltr e.2.2.1))[i]? = some (c, if kc = 120 then ("pq" : Str) else "abcd") := List.getElem?_zip_eq_some.mpr ⟨hc, hL⟩
                  refine gw_name ?_
                  show TW K X0 _ ⟨[some (.d (.tup [.str z, .str rs, nu])), some (.d (.dk tbL)), some (.d (.int e.2.1)), some (.d (.str (kndOf e.2.2.1))), some (.d (.int (roomOf e.2.2.2))), some (.d (.int (i : Int)))], _⟩ _
                  repeat (walk_at "b")
                  refine bw_ixS (Nat.le_trans hrs (by decide)) (atI_nat hc) ?_
                  repeat (walk_at "b")
                  refine bw_ixS (small_len (by omega)) (atI_nat hkc) ?_
                  repeat (walk_at "b")
                  refine bw_eqS ?_
                  rw [x_is]
                  refine aw_nil (cw_intB ?_)
                  refine bw_ixL (z := .str (if kc = 120 then ("pq" : Str) else "abcd")) ?_ ?_
                  · by_cases h : kc = 120
                    · rw [decide_eq_true h, if_pos h]
                      rfl
                    · rw [decide_eq_false h, if_neg h]
                      rfl
                  refine bw_notInS ⟨_, rfl, ?_⟩
                  rw [List.take_succ, hpair, List.all_append, ← hns, all_one]
                  by_cases hin : c ∈ (if kc = 120 then ("pq" : Str) else "abcd").cps.toList
                  · rw [decide_eq_true hin]
                    refine br_nT ⟨_, rfl, rfl, ns, rfl, by omega, ?_⟩
                    rw [Bool.and_true]
                  · rw [decide_eq_false hin]
                    refine br_nF ?_
                    repeat (walk_at "b")
                    refine ⟨_, _, rfl, rfl, ?_, rfl, ns ++ [(i : Int)], by rw [List.map_append]; rfl, by rw [List.length_append]; show ns.length + 1 ≤ _; omega, ?_⟩
                    · rw [List.length_map, sizeLine_eq]
                      omega
                    · rw [Bool.and_false]
                      cases ns <;> rfl
                · rintro acc os2 ⟨rfl, ns, rfl, hnl, hns⟩
                  rw [rngD_len, List.take_of_length_le (by omega)] at hns
                  have e3 : regB (ltr e.2.2.1) (.str rs) = ns.isEmpty := by
                    show (decide (rs.length = (ltr e.2.2.1).length) && ((rs.cps.toList.zip (ltr e.2.2.1)).all fun p => decide (p.1 ∈ p.2.cps.toList))) = _
                    rw [decide_eq_true heq', hns]
                    rfl
                  rw [e3] at q
                  repeat (walk_at "b")
                  cases hE : ns.isEmpty with
                  | false =>
                    rw [hE] at q
                    refine br_nF ?_
                    repeat (walk_at "b")
                    exact ret_same q
                  | true =>
                    rw [hE] at q
                    have q' : QA (.bl (numB (bnd e.2.2.2) nu)) os2 := q
                    refine br_nT ?_
                    repeat (walk_at "b")
                    have hnear := near_is e hmem
                    rw [hez] at hnear
                    rcases fld_cases hfl with ⟨g1, g2, g3⟩ | ⟨g1, g2, g3⟩ | ⟨g1, g2, g3⟩ | ⟨g1, g2, g3⟩
                    · rw [g2] at q'
                      refine br_ite (fun _ => ?_) (fun h => absurd g3 h)
                      repeat (walk_at "b")
                      exact bw_isNx (ret_same q')
                    · rw [g2] at q'
                      refine br_ite (fun h => absurd (g3.symm.trans h) (by decide)) (fun _ => ?_)
                      repeat (walk_at "b")
                      refine bw_inT (ns := ["go.short", "call.short", "if.short"]) ⟨_, rfl, ?_⟩
                      rw [hnear, decide_eq_true g1]
                      repeat (walk_at "b")
                      exact ⟨nu, b3, _, _, rfl, hb3, ret_same q'⟩
                    · rw [g2] at q'
                      refine br_ite (fun h => absurd (g3.symm.trans h) (by decide)) (fun _ => ?_)
                      repeat (walk_at "b")
                      refine bw_inT (ns := ["go.short", "call.short", "if.short"]) ⟨_, rfl, ?_⟩
                      rw [hnear, decide_eq_false g1]
                      repeat (walk_at "b")
                      refine br_ite (fun h => absurd (g3.symm.trans h) (by decide)) (fun _ => ?_)
                      repeat (walk_at "b")
                      exact ⟨nu, b3, _, _, rfl, hb3, ret_same q'⟩
                    · rw [g2] at q'
                      refine br_ite (fun h => absurd (g3.symm.trans h) (by decide)) (fun _ => ?_)
                      repeat (walk_at "b")
                      refine bw_inT (ns := ["go.short", "call.short", "if.short"]) ⟨_, rfl, ?_⟩
                      rw [hnear, decide_eq_false g1]
                      repeat (walk_at "b")
                      refine br_ite (fun _ => ?_) (fun h => absurd g3 h)
                      repeat (walk_at "b")
                      exact ⟨nu, b3, _, _, rfl, hb3, ret_same q'⟩
            · refine ⟨_, b2, false, rfl, hb2, j1, _, rfl, ?_⟩
              repeat (walk_at "b")
              have e3 : regB (ltr e.2.2.1) rg = false := by
                cases rg with
                | str s => exact absurd rfl (j0 s)
                | _ => rfl
              rw [e3] at q
              exact ret_same q
        · refine ⟨_, b1, false, rfl, hb1, i1, _, rfl, ?_⟩
          repeat (walk_at "b")
          have e2 : wordB (.tup [hd, rg, nu]) = false := by
            cases hd with
            | str z => exact absurd rfl (i0 z)
            | _ => rfl
          rw [e2] at q
          exact ret_same q
      · have hlen : ¬ (xs.length : Int) = 3 := of_decide_eq_false (show decide ((xs.length : Int) = 3) = false from h3)
        rw [decide_eq_false hlen]
        repeat (walk_at "b")
        rw [hw] at q
        exact ret_same q
    · refine ⟨_, a, false, rfl, ha, h1, _, rfl, ?_⟩
      repeat (walk_at "b")
      have e2 : wordB x = false := by
        cases x with
        | tup s => exact absurd rfl (h0 s)
        | _ => rfl
      rw [e2] at q
      exact ret_same q
end

def tx (cs : List Nat) : Str := ⟨cs.toArray⟩
theorem tx_app {a b : List Nat} : tx a ++ tx b = tx (a ++ b) := by
  unfold tx
  show (⟨a.toArray ++ b.toArray⟩ : Str) = _
  simp
theorem sj {sep : List Nat} : ∀ (rest : List (List Nat)) (x : List Nat), Str.join (tx sep) (tx x :: rest.map tx) = tx (x ++ rest.flatMap fun y => sep ++ y)
  | [], x => by
    show tx x = _
    simp
  | y :: r, x => by
    show tx x ++ tx sep ++ Str.join (tx sep) (tx y :: r.map tx) = _
    rw [sj r y, tx_app, tx_app, List.flatMap_cons]
    simp [List.append_assoc]
theorem tj {sep : List Nat} (xs : List (List Nat)) : Txt.join (tx sep) (xs.map tx) = tx (match xs with | [] => [] | x :: r => x ++ r.flatMap fun y => sep ++ y) := by
  cases xs with
  | nil => rfl
  | cons x r =>
    refine Eq.trans ?_ (sj r x)
    exact StrLaws.glued_cons (tx sep) (r.map tx) (tx x)
theorem join_cs (cs : List Nat) : Txt.join "" (cs.map fun c => (⟨#[c]⟩ : Str)) = tx cs := by
  have h := tj (sep := []) (cs.map fun c => [c])
  rw [List.map_map] at h
  have e : (match cs.map fun c => [c] with | [] => [] | x :: r => x ++ r.flatMap fun y => ([] : List Nat) ++ y) = cs := by
    cases cs with
    | nil => rfl
    | cons c r =>
      show [c] ++ (r.map fun c => [c]).flatMap (fun y => [] ++ y) = c :: r
      have : ∀ l : List Nat, (l.map fun c => [c]).flatMap (fun y => ([] : List Nat) ++ y) = l := fun l => by
        induction l with
        | nil => rfl
        | cons a l ih => rw [List.map_cons, List.flatMap_cons, ih]; rfl
      rw [this]
      rfl
  rw [e] at h
  exact h
def fDrawn : FD := fun ds os QA _ => ∃ (k : Nat) (cells : List Int) (b : Int) (o : Os), ds = [.o k] ∧ Pn k cells b o os ∧ b < 2 ^ 37 ∧
  ∀ x os', wordB x = true → x.fit 65536 = true → x.ln ≤ 3000 → x.dpt ≤ 1 → Pn k cells (b + 10) o os' → QA x os'
theorem heads : tbL.map (·.1) = (mst.map (·.1)).map Sum.inr := by
  unfold tbL
  rw [List.map_map, List.map_map]
  rfl
theorem heads_find {z : Str} (h : z ∈ mst.map (·.1)) : ∃ e, mfind z = some e := by
  obtain ⟨e, he, rfl⟩ := List.mem_map.mp h
  cases hq : mfind e.1 with
  | some q => exact ⟨q, rfl⟩
  | none => exact absurd (List.find?_eq_none.mp hq e he) (by simp)
theorem heads_short : ∀ e ∈ mst, e.1.length ≤ 10 ∧ (e.1.cps.toList.all fun c => decide (c < 128)) = true := by decide +kernel
theorem tx_cs {cs : List Nat} : (tx cs).cps.toList = cs := by
  unfold tx
  simp
theorem reg_ok {ls : List Str} {cs : List Nat} (hl : cs.length = ls.length) (h : ∀ (j : Nat) (c : Nat), cs[j]? = some c → ∃ l, ls[j]? = some l ∧ c ∈ l.cps.toList) : regB ls (.str (tx cs)) = true := by
  show (decide ((tx cs).length = ls.length) && ((tx cs).cps.toList.zip ls).all fun p => decide (p.1 ∈ p.2.cps.toList)) = true
  rw [tx_cs, Bool.and_eq_true]
  refine ⟨decide_eq_true hl, List.all_eq_true.mpr fun p hp => ?_⟩
  obtain ⟨j, hj⟩ := List.mem_iff_getElem?.mp hp
  obtain ⟨h1, h2⟩ := List.getElem?_zip_eq_some.mp hj
  obtain ⟨l, h3, h4⟩ := h j _ h1
  rw [h2] at h3
  cases h3
  exact decide_eq_true h4
theorem ltr_ascii : ∀ p ∈ pats, ∀ l ∈ ltr p, ∀ c ∈ l.cps.toList, c < 128 := by decide +kernel
/-- a word put together -/
theorem word_ok {z : Str} {e : Str × Int × Str × Option Str} {cs : List Nat} {n : D} (he : mfind z = some e) (hl : cs.length = (ltr e.2.2.1).length) (h : ∀ (j : Nat) (c : Nat), cs[j]? = some c → ∃ l, (ltr e.2.2.1)[j]? = some l ∧ c ∈ l.cps.toList)
    (hn : numB (bnd e.2.2.2) n = true) (hf : n.fit 65536 = true) (hln : n.ln ≤ 2000) (hd : n.dpt = 0) : wordB (.tup [.str z, .str (tx cs), n]) = true ∧ (D.tup [.str z, .str (tx cs), n]).fit 65536 = true ∧ (D.tup [.str z, .str (tx cs), n]).ln ≤ 3000 ∧ (D.tup [.str z, .str (tx cs), n]).dpt ≤ 1 := by
  obtain ⟨hmem, hez⟩ := mfind_mem he
  obtain ⟨hp, _⟩ := in_pats e hmem
  obtain ⟨k1, k2, k3⟩ := knd_ltr _ hp
  obtain ⟨s1, s2⟩ := heads_short e hmem
  rw [hez] at s1 s2
  have hcs : (tx cs).length = cs.length := rfl
  refine ⟨?_, ?_, ?_, ?_⟩
  · show (match mfind z with | none => false | some e => (regB (ltr e.2.2.1) (.str (tx cs)) && numB (bnd e.2.2.2) n)) = true
    rw [he]
    show (regB (ltr e.2.2.1) (.str (tx cs)) && numB (bnd e.2.2.2) n) = true
    rw [reg_ok hl h, hn]
    rfl
  · refine fits_all.mpr fun y hy => ?_
    simp only [List.mem_cons, List.not_mem_nil, or_false] at hy
    rcases hy with rfl | rfl | rfl
    · exact s2
    · show ((tx cs).cps.toList.all fun c => decide (c < 128)) = true
      rw [tx_cs]
      refine List.all_eq_true.mpr fun c hc => ?_
      obtain ⟨j, hj⟩ := List.mem_iff_getElem?.mp hc
      obtain ⟨l, h3, h4⟩ := h j c hj
      exact decide_eq_true (ltr_ascii _ hp l (List.mem_of_getElem? h3) c h4)
    · exact hf
  · show (10 * z.length + 2 + 2 + (10 * (tx cs).length + 2 + 2 + (n.ln + 2 + 0))) + 3 ≤ 3000
    omega
  · show max 0 (max 0 (max n.dpt 0)) + 1 ≤ 1
    omega
section
variable {P : Program} {w : World} {K : PySem.W.Frag} {mg : Str → Option Value} {base : Heap}
abbrev s_l_drawn_word : Stmt := topS 21
abbrev N_l_drawn_word : List Str := ["_law_pen", "_law_table_here", "_law_head", "_law_first", "_law_kinds", "_law_room", "_law_letters", "_law_low", "_law_kind"]
theorem sc_l_drawn_word : FnScope N_l_drawn_word ["_law_pen"] (defScope s_l_drawn_word) := ⟨rfl, rfl, rfl, by decide +kernel, rfl, by decide +kernel, by decide +kernel⟩
theorem ok_l_drawn_word {f a1 a2 a3 : Addr} {fd d1 d2 d3 : FuncData} (F : Fun K "_law_drawn_word" "_law_drawn_word" s_l_drawn_word f fd) (z_sorted : mg "sorted" = none) (z_int : mg "int" = none)
    (G_l_draw : FnOk P w K mg base CX0 1 a1 d1 ["_law_pen", "_law_span"] (spD K fDraw)) (C_l_draw : Cal K mg "_law_draw" a1 d1 ["_law_pen", "_law_span"])
    (G_l_pick : FnOk P w K mg base CX0 2 a2 d2 ["_law_pen", "_law_some"] (spD K fPick)) (C_l_pick : Cal K mg "_law_pick" a2 d2 ["_law_pen", "_law_some"])
    (G_l_pickS : FnOk P w K mg base CX0 2 a2 d2 ["_law_pen", "_law_some"] (spD K fPickS))
    (G_l_table : FnOk P w K mg base CX0 1 a3 d3 [] (spD K fTable)) (C_l_table : Cal K mg "_law_table" a3 d3 []) : FnOk P w K mg base CX0 3 f fd ["_law_pen"] (spD K fDrawn) := by
  refine F.ok sc_l_drawn_word (fun vs H Q E h => ?_) (fun cdv A outer s H vs Q E hr h => ?_)
  · obtain ⟨as, os, ds, QA, EA, R, r, ⟨k, cells, b, o, rfl, _⟩, _⟩ := h
    rw [r.length]
    rfl
  · have hu := hu_of hr
    refine ⟨_, (pss_cons (ps_set (i := 1) sc_l_drawn_word.nd rfl (Or.inl rfl) (pe_call0 G_l_table (hr.mono (by decide)) rfl C_l_table.m C_l_table.k C_l_table.b .nil pass0))
  (pss_cons (ps_set (i := 2) sc_l_drawn_word.nd rfl (Or.inl rfl) (pe_call G_l_pick (hr.mono (by decide)) rfl C_l_pick.m C_l_pick.k C_l_pick.b .nil pass0 (pa_cons (pv 0) (pa_cons (pe_callB (call_sortedD rfl) (by rfl) z_sorted (by decide +kernel) (pa_cons (pv 1) pa_nil)) pa_nil))))
  (pss_cons (ps_asg (pe_dget hu (pv 1) (pv 2) (fun _ _ => rfl)) (pg_tup (by rfl) (pgs_cons (pg_name (i := 3) sc_l_drawn_word.nd rfl (Or.inl rfl)) (pgs_cons (pg_name (i := 4) sc_l_drawn_word.nd rfl (Or.inl rfl)) (pgs_cons (pg_name (i := 5) sc_l_drawn_word.nd rfl (Or.inl rfl)) pgs_nil)))))
  (pss_cons (ps_set (i := 6) sc_l_drawn_word.nd rfl (Or.inl rfl) (pe_join pe_str (pe_lc (own := [("_law_kind", 8)]) (g := (gName 8)) rfl sc_l_drawn_word.nd (pi_str (pv 4)) (blkOk_by (own := [("_law_kind", 8)]) (N := N_l_drawn_word) (sc := defScope s_l_drawn_word) (by decide +kernel)) (fun _ _ _ _ _ => (pg_name (i := 8) sc_l_drawn_word.nd rfl (Or.inl rfl))) (fun _ _ _ _ _ => pts_nil) (fun _ _ _ _ _ => (pe_call G_l_pickS (hr.mono (by decide)) rfl C_l_pick.m C_l_pick.k C_l_pick.b .nil pass0 (pa_cons (pv 0) (pa_cons (pe_ix (r := rIxL K) ix_list (pe_lst (pa_cons pe_str (pa_cons pe_str pa_nil))) (pe_callTy call_intA (by rfl) z_int (by decide +kernel) (pa_cons (pe_cmpR op_eq (pv 8) pe_str (nomark _)) pa_nil)) (fun _ _ => rfl)) pa_nil)))))))
  (pss_cons (ps_if (pt_cmpR op_eq (pv 5) pe_int (nomark _)) (pss_one (ps_ret (pe_tup (pa_cons (pv 2) (pa_cons (pv 6) (pa_cons pe_non pa_nil)))))) pss_nil)
  (pss_cons (ps_if (pt_cmpR op_eq (pv 5) pe_int (nomark _)) (pss_one (ps_ret (pe_tup (pa_cons (pv 2) (pa_cons (pv 6) (pa_cons (pe_ix (r := rIxL K) ix_list (pe_lst (pa_cons pe_int (pa_cons pe_int (pa_cons pe_int (pa_cons pe_int (pa_cons (pe_call G_l_draw (hr.mono (by decide)) rfl C_l_draw.m C_l_draw.k C_l_draw.b .nil pass0 (pa_cons (pv 0) (pa_cons pe_int pa_nil))) pa_nil)))))) (pe_call G_l_draw (hr.mono (by decide)) rfl C_l_draw.m C_l_draw.k C_l_draw.b .nil pass0 (pa_cons (pv 0) (pa_cons pe_int pa_nil))) (fun _ _ => rfl)) pa_nil)))))) pss_nil)
  (pss_cons (ps_set (i := 7) sc_l_drawn_word.nd rfl (Or.inl rfl) (pe_ix (r := rIxL K) ix_list (pe_lst (pa_cons pe_int (pa_cons (pe_un un_neg pe_int) pa_nil))) (pe_callTy call_intA (by rfl) z_int (by decide +kernel) (pa_cons (pe_cmpR op_in_seq (pv 2) (pe_tup (pa_cons pe_str (pa_cons pe_str (pa_cons pe_str pa_nil)))) rfl) pa_nil)) (fun _ _ => rfl)))
  (pss_one (ps_ret (pe_tup (pa_cons (pv 2) (pa_cons (pv 6) (pa_cons (pe_op op_add (pv 7) (pe_ix (r := rIxL K) ix_list (pe_lst (pa_cons pe_int (pa_cons pe_int (pa_cons pe_int (pa_cons pe_int (pa_cons (pe_call G_l_draw (hr.mono (by decide)) rfl C_l_draw.m C_l_draw.k C_l_draw.b .nil pass0 (pa_cons (pv 0) (pa_cons pe_int pa_nil))) pa_nil)))))) (pe_call G_l_draw (hr.mono (by decide)) rfl C_l_draw.m C_l_draw.k C_l_draw.b .nil pass0 (pa_cons (pv 0) (pa_cons pe_int pa_nil))) (fun _ _ => rfl))) pa_nil))))))))))))), read_of h fun ds os QA EA hf => ?_⟩
    obtain ⟨k, cells, b, o, rfl, ho, hb, q⟩ := hf
    try dsimp only [cxOf, Cx.nox, Cx.wish]
    show W K _ _ _ ⟨[some (.o k), none, none, none, none, none, none, none, none], os⟩
    repeat (walk_at "b")
    refine ⟨rfl, ?_⟩
    try dsimp only [List.set_cons_zero, List.set_cons_succ]
    repeat (walk_at "b")
    refine cw_sortedD heads (by decide) fun ys hperm => ?_
    repeat (walk_at "b")
    have hyl : ys.length = 30 := hperm.length_eq
    refine ⟨k, _, cells, b, o, rfl, ho, ⟨by rw [List.length_map]; omega, by rw [List.length_map]; omega⟩, by omega, fun d os1 hm ho1 => ?_⟩
    obtain ⟨z, hz, rfl⟩ := List.mem_map.mp hm
    obtain ⟨e, he⟩ := heads_find (hperm.mem_iff.mp hz)
    obtain ⟨hmem, hez⟩ := mfind_mem he
    obtain ⟨hp, hfl⟩ := in_pats e hmem
    obtain ⟨k1, k2, k3⟩ := knd_ltr _ hp
    try dsimp only [List.set_cons_zero, List.set_cons_succ]
    repeat (walk_at "b")
    refine ⟨tbL, .inr z, _, rfl, rfl, by rw [lookD_L, he]; rfl, ?_⟩
    refine gw_tup rfl ?_
    repeat (walk_at "b")
    have hk : k < o.length := by
      obtain ⟨_, _, _, hk, _⟩ := ho
      exact hk
    refine ew_lc (wg_name (by decide)) mg_name ?_
    refine iw_str ?_
    repeat (walk_at "b")
    refine ⟨fun i acc os2 => ∃ cs : List Nat, acc = cs.map (fun c => D.str ⟨#[c]⟩) ∧ cs.length = i ∧ (∀ (j : Nat) (c : Nat), cs[j]? = some c → ∃ l, (ltr e.2.2.1)[j]? = some l ∧ c ∈ l.cps.toList) ∧ Pn k cells (b + 1 + i) o os2, ⟨[], rfl, rfl, (fun j c h => by simp at h), ho1.mono (by omega)⟩, ?_, ?_⟩
    · rintro i d acc os2 hd ⟨cs, rfl, hcl, hcs, ho2⟩
      rw [List.getElem?_map] at hd
      obtain ⟨kc, hkc, rfl⟩ := Option.map_eq_some_iff.mp hd
      have hi : i < (kndOf e.2.2.1).length := by
        have h := (List.getElem?_eq_some_iff.mp hkc).1
        rw [Array.length_toList] at h
        exact h
      have hL : (ltr e.2.2.1)[i]? = some (if kc = 120 then ("pq" : Str) else "abcd") := by
        rw [← k1, List.getElem?_map, hkc]
        rfl
      refine gw_name ?_
      refine tw_yes (br_T ?_)
      show EW K X0 _ ⟨[some (.o k), some (.d (.dk tbL)), some (.d (.str z)), some (.d (.int e.2.1)), some (.d (.str (kndOf e.2.2.1))), some (.d (.int (roomOf e.2.2.2))), none, none, some (.d (.str ⟨#[kc]⟩))], _⟩ _
      repeat (walk_at "b")
      refine bw_eqS ?_
      rw [x_is]
      refine aw_nil (cw_intB ?_)
      refine bw_ixL (z := .str (if kc = 120 then ("pq" : Str) else "abcd")) ?_ ?_
      · by_cases h : kc = 120
        · rw [decide_eq_true h, if_pos h]
          rfl
        · rw [decide_eq_false h, if_neg h]
          rfl
      have hlen : 0 < (if kc = 120 then ("pq" : Str) else "abcd").length ∧ (if kc = 120 then ("pq" : Str) else "abcd").length ≤ 1000 := by
        split <;> exact ⟨by decide, by decide⟩
      refine aw_nil ⟨k, _, cells, b + 1 + i, _, rfl, ho2.push _, hlen, by omega, fun c os3 hc ho3 => ?_⟩
      obtain ⟨os4, rfl, ho4⟩ := ho3.pop hk
      refine ⟨_, _, rfl, rfl, ?_, cs ++ [c], by rw [List.map_append]; rfl, by rw [List.length_append, hcl]; rfl, ?_, ho4.mono (by omega)⟩
      · rw [List.length_map, sizeLine_eq]
        omega
      · intro j c' hj
        by_cases hjl : j < cs.length
        · rw [List.getElem?_append_left hjl] at hj
          exact hcs j c' hj
        · have hj2 := (List.getElem?_eq_some_iff.mp hj).1
          rw [List.length_append] at hj2
          have hj3 : j = cs.length := by
            have : ([c] : List Nat).length = 1 := rfl
            omega
          subst hj3
          rw [List.getElem?_append_right (Nat.le_refl _)] at hj
          simp at hj
          subst hj
          exact ⟨_, by rw [hcl]; exact hL, hc⟩
    · rintro acc os2 ⟨cs, rfl, hcl, hcs, ho2⟩
      rw [List.length_map, Array.length_toList] at hcl
      have hcl2 : cs.length = (kndOf e.2.2.1).length := hcl
      rw [List.length_map, Array.length_toList] at ho2
      have ho2' : Pn k cells (b + 3) o os2 := ho2.mono (by
        have : (kndOf e.2.2.1).cps.size = (kndOf e.2.2.1).length := rfl
        omega)
      refine ⟨cs.map fun c => (⟨#[c]⟩ : Str), by rw [List.map_map]; rfl, ?_, ?_⟩
      · have e1 : ((cs.map fun c => (⟨#[c]⟩ : Str)).map (·.length)).sum = cs.length := by
          clear hcs hcl hcl2 ho2
          induction cs with
          | nil => rfl
          | cons c r ih =>
            rw [List.map_cons, List.map_cons, List.sum_cons, ih, List.length_cons]
            show 1 + _ = _
            omega
        rw [e1]
        have e2 : ("" : Str).length = 0 := rfl
        rw [e2]
        omega
      rw [join_cs]
      have hlc : cs.length = (ltr e.2.2.1).length := by omega
      have fin := fun (n : D) (h1 : numB (bnd e.2.2.2) n = true) (h2 : n.fit 65536 = true) (h3 : n.ln ≤ 2000) (h4 : n.dpt = 0) => word_ok (n := n) he hlc hcs h1 h2 h3 h4
      repeat (walk_at "b")
      have hnear := near_is e hmem
      rw [hez] at hnear
      rcases fld_cases hfl with ⟨g1, g2, g3⟩ | ⟨g1, g2, g3⟩ | ⟨g1, g2, g3⟩ | ⟨g1, g2, g3⟩
      · refine br_ite (fun _ => ?_) (fun h => absurd g3 h)
        obtain ⟨w1, w2, w3, w4⟩ := fin .non (by rw [g2]; rfl) rfl (by decide) rfl
        repeat (walk_at "b")
        exact Pn.ret ho ho2' (q _ os2 w1 w2 w3 w4 (ho2'.mono (by omega)))
      · refine br_ite (fun h => absurd (g3.symm.trans h) (by decide)) (fun _ => ?_)
        repeat (walk_at "b")
        refine br_ite (fun h => absurd (g3.symm.trans h) (by decide)) (fun _ => ?_)
        repeat (walk_at "b")
        refine bw_inT (ns := ["go.short", "call.short", "if.short"]) ?_
        rw [hnear, decide_eq_true g1]
        refine aw_nil (cw_intB ?_)
        refine bw_ixL (z := .int (-128)) rfl ?_
        try dsimp only [List.set_cons_zero, List.set_cons_succ]
        repeat (walk_at "b")
        refine ⟨_, _, _, _, _, rfl, ho2', by omega, by omega, fun d1 os3 p0 p1 ho3 => ?_⟩
        repeat (walk_at "b")
        refine ⟨_, _, _, _, _, rfl, ho3, by omega, by omega, fun d2 os4 r0 r1 ho4 => ?_⟩
        obtain ⟨x, hx, hm2⟩ := at_mem (xs := [D.int 0, .int 255, .int 127, .int 128, .int d1]) r0 r1
        refine bw_ixL hx ?_
        have hv : ∃ v : Int, x = .int v ∧ 0 ≤ v ∧ v ≤ 255 := by
          simp only [List.mem_cons, List.not_mem_nil, or_false] at hm2
          rcases hm2 with rfl | rfl | rfl | rfl | rfl
          · exact ⟨_, rfl, by decide, by decide⟩
          · exact ⟨_, rfl, by decide, by decide⟩
          · exact ⟨_, rfl, by decide, by decide⟩
          · exact ⟨_, rfl, by decide, by decide⟩
          · exact ⟨_, rfl, by omega, by omega⟩
        obtain ⟨v, rfl, v0, v1⟩ := hv
        repeat (walk_at "b")
        obtain ⟨w1, w2, w3, w4⟩ := fin (.int (-128 + v)) (by rw [g2]; show (decide (-128 ≤ -128 + v) && decide (-128 + v ≤ 127)) = true; rw [decide_eq_true (by omega), decide_eq_true (by omega)]; rfl) (decide_eq_true (by omega)) (show 1921 ≤ 2000 by decide) rfl
        exact Pn.ret ho ho4 (q _ os4 w1 w2 w3 w4 (ho4.mono (by omega)))
      · refine br_ite (fun h => absurd (g3.symm.trans h) (by decide)) (fun _ => ?_)
        repeat (walk_at "b")
        refine br_ite (fun h => absurd (g3.symm.trans h) (by decide)) (fun _ => ?_)
        repeat (walk_at "b")
        refine bw_inT (ns := ["go.short", "call.short", "if.short"]) ?_
        rw [hnear, decide_eq_false g1]
        refine aw_nil (cw_intB ?_)
        refine bw_ixL (z := .int (0)) rfl ?_
        try dsimp only [List.set_cons_zero, List.set_cons_succ]
        repeat (walk_at "b")
        refine ⟨_, _, _, _, _, rfl, ho2', by omega, by omega, fun d1 os3 p0 p1 ho3 => ?_⟩
        repeat (walk_at "b")
        refine ⟨_, _, _, _, _, rfl, ho3, by omega, by omega, fun d2 os4 r0 r1 ho4 => ?_⟩
        obtain ⟨x, hx, hm2⟩ := at_mem (xs := [D.int 0, .int 255, .int 127, .int 128, .int d1]) r0 r1
        refine bw_ixL hx ?_
        have hv : ∃ v : Int, x = .int v ∧ 0 ≤ v ∧ v ≤ 255 := by
          simp only [List.mem_cons, List.not_mem_nil, or_false] at hm2
          rcases hm2 with rfl | rfl | rfl | rfl | rfl
          · exact ⟨_, rfl, by decide, by decide⟩
          · exact ⟨_, rfl, by decide, by decide⟩
          · exact ⟨_, rfl, by decide, by decide⟩
          · exact ⟨_, rfl, by decide, by decide⟩
          · exact ⟨_, rfl, by omega, by omega⟩
        obtain ⟨v, rfl, v0, v1⟩ := hv
        repeat (walk_at "b")
        obtain ⟨w1, w2, w3, w4⟩ := fin (.int (0 + v)) (by rw [g2]; show (decide (0 ≤ 0 + v) && decide (0 + v ≤ 255)) = true; rw [decide_eq_true (by omega), decide_eq_true (by omega)]; rfl) (decide_eq_true (by omega)) (show 1921 ≤ 2000 by decide) rfl
        exact Pn.ret ho ho4 (q _ os4 w1 w2 w3 w4 (ho4.mono (by omega)))
      · refine br_ite (fun h => absurd (g3.symm.trans h) (by decide)) (fun _ => ?_)
        repeat (walk_at "b")
        refine br_ite (fun _ => ?_) (fun h => absurd g3 h)
        repeat (walk_at "b")
        refine ⟨_, _, _, _, _, rfl, ho2', by omega, by omega, fun d1 os3 p0 p1 ho3 => ?_⟩
        repeat (walk_at "b")
        refine ⟨_, _, _, _, _, rfl, ho3, by omega, by omega, fun d2 os4 r0 r1 ho4 => ?_⟩
        obtain ⟨x, hx, hm2⟩ := at_mem (xs := [D.int 0, .int 255, .int 256, .int 65535, .int d1]) r0 r1
        refine bw_ixL hx ?_
        have hv : ∃ v : Int, x = .int v ∧ 0 ≤ v ∧ v ≤ 65535 := by
          simp only [List.mem_cons, List.not_mem_nil, or_false] at hm2
          rcases hm2 with rfl | rfl | rfl | rfl | rfl
          · exact ⟨_, rfl, by decide, by decide⟩
          · exact ⟨_, rfl, by decide, by decide⟩
          · exact ⟨_, rfl, by decide, by decide⟩
          · exact ⟨_, rfl, by decide, by decide⟩
          · exact ⟨_, rfl, by omega, by omega⟩
        obtain ⟨v, rfl, v0, v1⟩ := hv
        repeat (walk_at "b")
        obtain ⟨w1, w2, w3, w4⟩ := fin (.int v) (by rw [g2]; show (decide (0 ≤ v) && decide (v ≤ 65535)) = true; rw [decide_eq_true (by omega), decide_eq_true (by omega)]; rfl) (decide_eq_true (by omega)) (show 1921 ≤ 2000 by decide) rfl
        exact Pn.ret ho ho4 (q _ os4 w1 w2 w3 w4 (ho4.mono (by omega)))
end

mutual
theorem fit_mono {M N : Nat} (h : M ≤ N) : ∀ d : D, d.fit M = true → d.fit N = true
  | .non, _ => rfl
  | .bl _, _ => rfl
  | .int i, q => decide_eq_true (Nat.le_trans (of_decide_eq_true (show decide (i.natAbs ≤ M) = true from q)) h)
  | .str _, q => q
  | .lst xs, q => fits_mono h xs q
  | .tup xs, q => fits_mono h xs q
  | .dk _, q => q
  | .ob _ _, q => q
  | .xo _ _, q => q
theorem fits_mono {M N : Nat} (h : M ≤ N) : ∀ ds : List D, D.fits M ds = true → D.fits N ds = true
  | [], _ => rfl
  | d :: ds, q => by
    have e : D.fits M (d :: ds) = (D.fit M d && D.fits M ds) := rfl
    rw [e, Bool.and_eq_true] at q
    show (D.fit N d && D.fits N ds) = true
    rw [fit_mono h d q.1, fits_mono h ds q.2]
    rfl
end
/-- bounds of data -/
structure Gd (M B n : Nat) (y : D) : Prop where
  f : y.fit M = true
  l : y.ln ≤ B
  d : y.dpt ≤ n
theorem Gd.up {M B n M' B' n' : Nat} {y : D} (h : Gd M B n y) (h1 : M ≤ M') (h2 : B ≤ B') (h3 : n ≤ n') : Gd M' B' n' y := ⟨fit_mono h1 y h.f, Nat.le_trans h.l h2, Nat.le_trans h.d h3⟩
theorem lns_split {xs : List D} (j : Nat) : D.lns xs = D.lns (xs.take j) + D.lns (xs.drop j) := by
  rw [← lns_app, List.take_append_drop]
theorem lns_take {xs : List D} (j : Nat) : D.lns (xs.take j) ≤ D.lns xs := by
  have := lns_split (xs := xs) j
  omega
theorem lns_drop {xs : List D} (j : Nat) : D.lns (xs.drop j) ≤ D.lns xs := by
  have := lns_split (xs := xs) j
  omega
theorem lns_rev : ∀ {xs : List D}, D.lns xs.reverse = D.lns xs
  | [] => rfl
  | x :: r => by
    rw [List.reverse_cons, lns_app, lns_rev]
    show D.lns r + (x.ln + 2 + 0) = x.ln + 2 + D.lns r
    omega
theorem cut_sub {xs : List D} {lo hi : Option Int} {y : D} (h : y ∈ Br.cutD xs lo hi) : y ∈ xs := List.mem_of_mem_drop (List.mem_of_mem_take h)
theorem cut_lns {xs : List D} {lo hi : Option Int} : D.lns (Br.cutD xs lo hi) ≤ D.lns xs := Nat.le_trans (lns_take _) (lns_drop _)
/-- of things of a tuple another tuple, or list -/
theorem gd_tup {M B n : Nat} {xs ys : List D} (h : Gd M B n (.tup xs)) (hm : ∀ y ∈ ys, y ∈ xs ∨ y = .non) (hl : D.lns ys + 3 ≤ B) : Gd M B n (.tup ys) := by
  have hf := fits_all.mp (show D.fits M xs = true from h.f)
  have hd : D.dpts xs + 1 ≤ n := h.d
  refine ⟨fits_all.mpr fun y hy => ?_, hl, ?_⟩
  · rcases hm y hy with z | rfl
    · exact hf y z
    · rfl
  · show D.dpts ys + 1 ≤ n
    have : D.dpts ys ≤ D.dpts xs := dpts_le fun y hy => by
      rcases hm y hy with z | rfl
      · exact dpts_mem z
      · exact Nat.zero_le _
    omega
theorem gd_lst {M B n : Nat} {xs : List D} (h : Gd M B n (.tup xs)) : Gd M B n (.lst xs) := ⟨h.f, h.l, h.d⟩
def asc (z : Str) : Prop := ∀ c ∈ z.cps.toList, c < 128
theorem asc_of {M : Nat} {z : Str} (h : (D.str z).fit M = true) : asc z := fun c hc => of_decide_eq_true (List.all_eq_true.mp (show (z.cps.toList.all fun c => decide (c < 128)) = true from h) c hc)
theorem gd_str {M B n : Nat} {z : Str} (h : asc z) (hl : 10 * z.length + 2 ≤ B) : Gd M B n (.str z) := ⟨List.all_eq_true.mpr fun c hc => decide_eq_true (h c hc), hl, Nat.zero_le _⟩
theorem asc_cut {z : Str} {lo hi : Option Int} (h : asc z) : asc (cutS z lo hi) := fun c hc => by
  have e : (cutS z lo hi).cps.toList = (z.cps.toList.drop (HT.sIx z.length 0 lo)).take (HT.sIx z.length z.length hi - HT.sIx z.length 0 lo) := by
    unfold cutS
    simp
  rw [e] at hc
  exact h c (List.mem_of_mem_drop (List.mem_of_mem_take hc))
theorem asc_app {z y : Str} (h : asc z) (g : asc y) : asc (z ++ y) := fun c hc => by
  have e : (z ++ y).cps.toList = z.cps.toList ++ y.cps.toList := by
    show (z.cps ++ y.cps).toList = _
    simp
  rw [e] at hc
  rcases List.mem_append.mp hc with q | q
  · exact h c q
  · exact g c q
theorem len_app {z y : Str} : (z ++ y).length = z.length + y.length := by
  show (z.cps ++ y.cps).size = _
  rw [Array.size_append]
  rfl
theorem up_lt : ∀ c, c < 128 → up1 c < 128 := by decide +kernel
theorem asc_up {z : Str} (h : asc z) : asc (Txt.upper z) ∧ (Txt.upper z).length = z.length := by
  have e := upper_ascii (x := z) fun c hc => h c hc
  rw [e]
  constructor
  · intro c hc
    have hc' : c ∈ z.cps.toList.map up1 := by simpa using hc
    obtain ⟨d, hd, rfl⟩ := List.mem_map.mp hc'
    exact up_lt d (h d hd)
  · show (z.cps.map up1).size = z.cps.size
    simp
theorem asc_int (i : Int) : asc (toString i : String) := fun c hc => by
  by_cases h : c < 128
  · exact h
  · exact absurd hc (int_text_free' c ⟨by omega, .inr (by omega)⟩ i)
theorem log_of {M : Nat} {i : Int} (h : i.natAbs ≤ M) (hM : M ≤ 10 ^ 40) : i.natAbs.log2 < 1920 := by
  by_cases h0 : i.natAbs = 0
  · rw [h0]
    decide
  · exact (Nat.log2_lt h0).mpr (Nat.lt_of_le_of_lt (Nat.le_trans h hM) (by decide))
theorem len_int {M : Nat} {i : Int} (h : i.natAbs ≤ M) (hM : M ≤ 10 ^ 40) : (Str.ofString (toString i)).length ≤ 1921 := int_text_len_1921 (log_of h hM)
/-- t[::-1] -/
theorem ew_revT {K : PySem.W.Frag} {X : Xc} {S : Sa} {Q : Sv → Os → Prop} {te : TE} (h : EW K X te S fun x os => ∃ xs, x = .d (.tup xs) ∧ Q (.d (.tup xs.reverse)) os) : EW K X (tRevT K te) S Q := fun as H σ Q' R x k =>
  h as H σ _ R x fun v H1 d os1 g1 R1 r1 ⟨xs, ed, q⟩ => by
    subst ed
    cases r1 with
    | @tup a vs _ hl hr => exact ⟨a, vs, rfl, hl.sq, fun p hp => k (.ref p) _ (.d (.tup xs.reverse)) os1 (g1.trans (Go.new hp)) (R1.new hp) (dx_newT R1 hp hr.rev) q⟩
theorem ew_revs2 {K : PySem.W.Frag} {X : Xc} {S : Sa} {Q : Sv → Os → Prop} {te : TE} (h : EW K X te S fun x os => ∃ z : Str, x = .d (.str z) ∧ z.length ≤ sizeLine ∧ ∀ y : Str, y.length ≤ z.length → (∀ c ∈ y.cps.toList, c ∈ z.cps.toList) → Q (.d (.str y)) os) : EW K X (tRevS2 te) S Q := fun as H σ Q' R x k =>
  h as H σ _ R x fun v H1 d os1 g1 R1 r1 ⟨z, ed, hz, q⟩ => by
    subst ed
    cases r1
    exact ⟨z, rfl, hz, fun y hy hc => k (.str y) H1 (.d (.str y)) os1 g1 R1 (Dx.str y) (q y hy hc)⟩
theorem spD_or {K : PySem.W.Frag} {f1 f2 : FD} {vs : List V} {H : Hp} {Q : VK} {E : XK} (h : spD K (fun ds os QA EA => f1 ds os QA EA ∨ f2 ds os QA EA) vs H Q E) : spD K f1 vs H Q E ∨ spD K f2 vs H Q E := by
  obtain ⟨as, os, ds, QA, EA, R, r, hf, k1, k2⟩ := h
  rcases hf with hf | hf
  · exact .inl ⟨as, os, ds, QA, EA, R, r, hf, k1, k2⟩
  · exact .inr ⟨as, os, ds, QA, EA, R, r, hf, k1, k2⟩
theorem spD_imp {K : PySem.W.Frag} {f1 f2 : FD} {vs : List V} {H : Hp} {Q : VK} {E : XK} (m : ∀ ds os QA EA, f1 ds os QA EA → f2 ds os QA EA) (h : spD K f1 vs H Q E) : spD K f2 vs H Q E := by
  obtain ⟨as, os, ds, QA, EA, R, r, hf, k1, k2⟩ := h
  exact ⟨as, os, ds, QA, EA, R, r, m _ _ _ _ hf, k1, k2⟩
def fNo : FD := fun _ _ _ _ => False
theorem ok_no {P : Program} {w : World} {K : PySem.W.Frag} {mg : Str → Option Value} {base : Heap} {k : Nat} {f : Addr} {fd : FuncData} {ps : List Str} : FnOk P w K mg base CX0 k f fd ps (spD K fNo) :=
  ⟨fun vs H Q E h => by obtain ⟨_, _, _, _, _, _, _, hf, _⟩ := h; exact hf.elim, fun A outer s H args us vs Q E _ _ _ _ h => by obtain ⟨_, _, _, _, _, _, _, hf, _⟩ := h; exact hf.elim⟩
theorem cut_take {xs : List D} {j : Nat} (h : j ≤ xs.length) : Br.cutD xs none (some (j : Int)) = xs.take j := by
  unfold Br.cutD
  rw [HT.sIx_nat, HT.sIx_none, Nat.min_eq_left h, List.drop_zero, Nat.sub_zero]
theorem cut_drop {xs : List D} {j : Nat} (h : j ≤ xs.length) : Br.cutD xs (some (j : Int)) none = xs.drop j := by
  unfold Br.cutD
  rw [HT.sIx_nat, HT.sIx_none, Nat.min_eq_left h, List.take_of_length_le (by rw [List.length_drop]; exact Nat.le_refl _)]

local macro_rules | `(tactic| walk_at "b") => `(tactic| first
  | with_reducible refine ew_revT ?_
  | with_reducible refine ew_revs2 ?_
  | with_reducible refine ew_upper ?_
  | with_reducible refine bw_neNilT ?_)
/-- what bent promises of a thing of some kind -/
def fBentK (kd : D → Prop) (n : Nat) : FD := fun ds os QA _ => ∃ (k : Nat) (x : D) (cells : List Int) (b : Int) (o : Os) (M : Nat), ds = [.o k, .d x] ∧ Pn k cells b o os ∧ x.fit M = true ∧ (10 ^ 30 ≤ M ∧ M < 10 ^ 40) ∧ x.dpt ≤ n ∧ x.ln ≤ 100000 ∧ b + 10 * (n + 1) ≤ 2 ^ 37 ∧
  (∀ y os', Gd (M + 1) (4 * x.ln + 20000) (x.dpt + 2) y → Pn k cells (b + 10 * (n + 1)) o os' → QA y os') ∧ kd x
def fBent (n : Nat) : FD := fBentK (fun _ => True) n
def fBentP : Nat → FD
  | 0 => fNo
  | n + 1 => fBent n
theorem Pn.kl {k : Nat} {cells : List Int} {b : Int} {o os : Os} (h : Pn k cells b o os) : k < o.length := by
  obtain ⟨_, _, _, hk, _⟩ := h
  exact hk
abbrev s_l_bent : Stmt := topS 24
abbrev N_l_bent : List Str := ["_law_pen", "_law_thing", "_law_spot", "_law_some"]
theorem sc_l_bent : FnScope N_l_bent ["_law_pen", "_law_thing"] (defScope s_l_bent) := ⟨rfl, rfl, rfl, by decide +kernel, rfl, by decide +kernel, by decide +kernel⟩
section
variable {P : Program} {w : World} {K : PySem.W.Frag} {mg : Str → Option Value} {base : Heap}
theorem ok_l_bentX {n : Nat} {f a1 a2 a3 a4 : Addr} {fd d1 d2 d3 d4 : FuncData} (F : Fun K "_law_bent" "_law_bent" s_l_bent f fd) (z_isinstance : mg "isinstance" = none) (z_tuple : mg "tuple" = none) (z_str : mg "str" = none) (z_int : mg "int" = none) (z_len : mg "len" = none) (z_list : mg "list" = none) (z_sorted : mg "sorted" = none)
    (G_l_draw : FnOk P w K mg base CX0 1 a1 d1 ["_law_pen", "_law_span"] (spD K fDraw)) (C_l_draw : Cal K mg "_law_draw" a1 d1 ["_law_pen", "_law_span"])
    (G_l_pick : FnOk P w K mg base CX0 2 a2 d2 ["_law_pen", "_law_some"] (spD K fPick)) (C_l_pick : Cal K mg "_law_pick" a2 d2 ["_law_pen", "_law_some"])
    (G_l_table : FnOk P w K mg base CX0 1 a3 d3 [] (spD K fTable)) (C_l_table : Cal K mg "_law_table" a3 d3 [])
    (G_l_odd : FnOk P w K mg base CX0 3 a4 d4 ["_law_pen"] (spD K fOdd)) (C_l_odd : Cal K mg "_law_odd" a4 d4 ["_law_pen"])
    (G_l_bent : FnOk P w K mg base CX0 (3 + n) f fd ["_law_pen", "_law_thing"] (spD K (fBentP n))) (C_l_bent : Cal K mg "_law_bent" f fd ["_law_pen", "_law_thing"]) : FnOk P w K mg base CX0 (4 + n) f fd ["_law_pen", "_law_thing"] (spD K (fBentK (fun x => (∀ z, x ≠ .str z) ∧ ∀ c, x ≠ .bl c) n)) := by
  have e4 : 4 + n = (3 + n) + 1 := by omega
  rw [e4]
  refine F.ok sc_l_bent (fun vs H Q E h => ?_) (fun cdv A outer s H vs Q E hr h => ?_)
  · obtain ⟨as, os, ds, QA, EA, R, r, ⟨k, x, cells, b, o, M, rfl, _⟩, _⟩ := h
    rw [r.length]
    rfl
  · have hu := hu_of hr
    have hu64 : (A.deeper (envOfC "_law_bent" (defScope s_l_bent) s.heap.objs.size f cdv)).units + 64 < cLine := by
      have := hr.un
      omega
    refine ⟨_, (pss_cons (ps_if (PW.pt (pw_and (pt_val (pe_callB call_isi (by rfl) z_isinstance (by decide +kernel) (pa_cons (pv 1) (pa_cons (pe_bltn (v := .ty "tuple") (by rfl) z_tuple boot_tuple rfl) pa_nil)))) (pw_and (pt_cmpR (op_neNilT hu64) (pv 1) (pe_tup pa_nil) (nomark _)) (pw_and1 (pt_cmpR op_gt (pe_call G_l_draw (hr.mono (by omega)) rfl C_l_draw.m C_l_draw.k C_l_draw.b .nil pass0 (pa_cons (pv 0) (pa_cons pe_int pa_nil))) pe_int (nomark _)))))) (pss_cons (ps_set (i := 2) sc_l_bent.nd rfl (Or.inl rfl) (pe_call G_l_draw (hr.mono (by omega)) rfl C_l_draw.m C_l_draw.k C_l_draw.b .nil pass0 (pa_cons (pv 0) (pa_cons (pe_callB call_lenA (by rfl) z_len PySem.boot_len (pa_cons (pv 1) pa_nil)) pa_nil))))
    (pss_one (ps_ret (pe_op op_catA (pe_op op_catA (pe_slice (r := rSlA K) sl_tupA (pv 1) po_none (po_some (pv 2))) (pe_tup (pa_cons (pe_call G_l_bent (hr.mono (by omega)) rfl C_l_bent.m C_l_bent.k C_l_bent.b .nil pass0 (pa_cons (pv 0) (pa_cons (pe_ix (r := rIxT K) ix_tup (pv 1) (pv 2) (fun _ _ => rfl)) pa_nil))) pa_nil))) (pe_slice (r := rSlA K) sl_tupA (pv 1) (po_some (pe_op op_add (pv 2) pe_int)) po_none))))) pss_nil)
  (pss_cons (ps_set (i := 3) sc_l_bent.nd rfl (Or.inl rfl) (pe_lst (pa_cons (pe_call G_l_odd (hr.mono (by omega)) rfl C_l_odd.m C_l_odd.k C_l_odd.b .nil pass0 (pa_cons (pv 0) pa_nil)) (pa_cons (pe_call G_l_odd (hr.mono (by omega)) rfl C_l_odd.m C_l_odd.k C_l_odd.b .nil pass0 (pa_cons (pv 0) pa_nil)) pa_nil))))
  (pss_cons (ps_if (pt_val (pe_callB call_isi (by rfl) z_isinstance (by decide +kernel) (pa_cons (pv 1) (pa_cons (pe_bltn (v := .ty "tuple") (by rfl) z_tuple boot_tuple rfl) pa_nil)))) (pss_one (ps_set (i := 3) sc_l_bent.nd rfl (Or.inl rfl) (pe_op op_catL (pv 3) (pe_lst (pa_cons (pe_callTy call_lstA (by rfl) z_list (by decide +kernel) (pa_cons (pv 1) pa_nil)) (pa_cons (pe_slice (r := rSlA K) sl_tupA (pv 1) (po_some pe_int) po_none) (pa_cons (pe_slice (r := rSlA K) sl_tupA (pv 1) po_none (po_some (pe_un un_neg pe_int))) (pa_cons (pe_op op_catA (pv 1) (pe_slice (r := rSlA K) sl_tupA (pv 1) po_none (po_some pe_int))) (pa_cons (pe_revT (pv 1)) (pa_cons (pe_op op_catA (pv 1) (pe_tup (pa_cons pe_non pa_nil))) pa_nil)))))))))) (pss_one (ps_if (pt_val (pe_callB call_isi (by rfl) z_isinstance (by decide +kernel) (pa_cons (pv 1) (pa_cons (pe_bltn (v := .ty "str") (by rfl) z_str boot_str rfl) pa_nil)))) (pss_cons (ps_set (i := 3) sc_l_bent.nd rfl (Or.inl rfl) (pe_op op_catL (pv 3) (pe_lst (pa_cons (pe_op op_addS (pv 1) pe_str) (pa_cons (pe_slice sl_str (pv 1) po_none (po_some (pe_un un_neg pe_int))) (pa_cons (pe_revs2 (pv 1)) (pa_cons (pe_upper (pv 1)) (pa_cons (pe_tup (pa_cons (pv 1) pa_nil)) pa_nil))))))))
      (pss_one (ps_expr (pe_bm PySem.F.plainAttrs_list PySem.F.slot_list_append PySem.F.type_list_append mt_append (pv 3) (pa_cons (pe_call G_l_pick (hr.mono (by omega)) rfl C_l_pick.m C_l_pick.k C_l_pick.b .nil pass0 (pa_cons (pv 0) (pa_cons (pe_callB (call_sortedD rfl) (by rfl) z_sorted (by decide +kernel) (pa_cons (pe_call0 G_l_table (hr.mono (by omega)) rfl C_l_table.m C_l_table.k C_l_table.b .nil pass0) pa_nil)) pa_nil))) pa_nil))))) (pss_one (ps_if (pt_val (pe_callB call_isi (by rfl) z_isinstance (by decide +kernel) (pa_cons (pv 1) (pa_cons (pe_bltn (v := .ty "int") (by rfl) z_int boot_int rfl) pa_nil)))) (pss_one (ps_set (i := 3) sc_l_bent.nd rfl (Or.inl rfl) (pe_op op_catL (pv 3) (pe_lst (pa_cons (pe_op op_add (pv 1) pe_int) (pa_cons (pe_op op_sub (pv 1) pe_int) (pa_cons (pe_op op_sub pe_int (pv 1)) (pa_cons (pe_callTy call_str_int (by rfl) z_str (by decide +kernel) (pa_cons (pv 1) pa_nil)) (pa_cons (pe_cmpR op_eq (pv 1) pe_int (nomark _)) (pa_cons (pe_lst (pa_cons (pv 1) pa_nil)) pa_nil)))))))))) pss_nil)))))
  (pss_one (ps_ret (pe_call G_l_pick (hr.mono (by omega)) rfl C_l_pick.m C_l_pick.k C_l_pick.b .nil pass0 (pa_cons (pv 0) (pa_cons (pv 3) pa_nil)))))))), read_of h fun ds os QA EA hf => ?_⟩
    obtain ⟨k, x, cells, b, o, M, rfl, ho, hx, hM, hn, hl, hb, q, hk1, hk2⟩ := hf
    try dsimp only [cxOf, Cx.nox, Cx.wish]
    show W K _ _ _ ⟨[some (.o k), some (.d x), none, none], os⟩
    obtain ⟨a, ha⟩ := fit_ty hx
    refine w_cut (fun S' => ∃ os1, S' = ⟨[some (.o k), some (.d x), none, none], os1⟩ ∧ Pn k cells (b + 1) o os1) ?_ ?_
    · refine w_if ?_
      repeat (walk_at "b")
      rcases isi_tup ha with ⟨xs, rfl, h1⟩ | ⟨h0, h1⟩
      · refine ⟨_, a, true, rfl, ha, h1, _, rfl, br_T ?_⟩
        repeat (walk_at "b")
        cases hE : xs.isEmpty with
        | true =>
          refine br_nT (br_F ?_)
          repeat (walk_at "b")
          exact ho.mono (by omega)
        | false =>
          have hxs := fits_all.mp (show D.fits M xs = true from hx)
          have hpos : 0 < xs.length := by
            cases xs with
            | nil => cases hE
            | cons y r => exact Nat.succ_pos _
          have hlen : xs.length ≤ 100000 := by
            have := lns_len (xs := xs)
            have h2 : D.lns xs + 3 ≤ 100000 := hl
            omega
          have hd1 : D.dpts xs + 1 ≤ n := hn
          obtain ⟨m, rfl⟩ : ∃ m, n = m + 1 := ⟨n - 1, by omega⟩
          refine br_nF ?_
          repeat (walk_at "b")
          refine ⟨_, _, _, _, _, rfl, ho, by omega, by omega, fun d1 os1 p0 p1 ho1 => ?_⟩
          repeat (walk_at "b")
          refine br_ite (fun _ => ?_) (fun _ => ?_)
          · repeat (walk_at "b")
            refine cw_lenU ?_
            repeat (walk_at "b")
            refine ⟨_, _, _, _, _, rfl, ho1, ⟨by omega, by omega⟩, by omega, fun d2 os2 r0 r1 ho2 => ?_⟩
            obtain ⟨j, rfl⟩ : ∃ j : Nat, d2 = (j : Int) := ⟨d2.toNat, by omega⟩
            have hj : j < xs.length := by omega
            try dsimp only [List.set_cons_zero, List.set_cons_succ]
            repeat (walk_at "b")
            refine sw_T ?_
            rw [cut_take (Nat.le_of_lt hj)]
            repeat (walk_at "b")
            refine bw_ixT (atI_nat (List.getElem?_eq_getElem hj)) ?_
            repeat (walk_at "b")
            have hel := lns_mem (List.getElem_mem hj)
            have hed := dpts_mem (List.getElem_mem hj)
            have hl2 : D.lns xs + 3 ≤ 100000 := hl
            refine ⟨k, xs[j], cells, b + 1 + 1, o, M, rfl, ho2, hxs _ (List.getElem_mem hj), hM, by omega, by omega, by omega, fun y os3 gy ho3 => ?_, trivial⟩
            repeat (walk_at "b")
            refine bw_catT (small_len (by rw [List.length_take]; show min j xs.length + 1 ≤ _; omega)) ?_
            repeat (walk_at "b")
            refine sw_T ?_
            have ej : ((j : Int) + 1) = ((j + 1 : Nat) : Int) := by omega
            rw [ej, cut_drop hj]
            refine bw_catT (small_len (by rw [List.length_append, List.length_take, List.length_drop]; show min j xs.length + 1 + _ ≤ _; omega)) ?_
            refine Pn.ret ho ho3 (q _ os3 ?_ (ho3.mono (by omega)))
            have hsp : D.lns xs = D.lns (xs.take j) + (xs[j].ln + 2 + D.lns (xs.drop (j + 1))) := by
              rw [lns_split (xs := xs) j, List.drop_eq_getElem_cons hj]
              rfl
            refine ⟨fits_all.mpr fun z hz => ?_, ?_, ?_⟩
            · rcases List.mem_append.mp hz with hz | hz
              · rcases List.mem_append.mp hz with hz | hz
                · exact fit_mono (Nat.le_succ _) z (hxs z (List.mem_of_mem_take hz))
                · rw [List.mem_singleton.mp hz]
                  exact gy.f
              · exact fit_mono (Nat.le_succ _) z (hxs z (List.mem_of_mem_drop hz))
            · have gl := gy.l
              show D.lns (xs.take j ++ [y] ++ xs.drop (j + 1)) + 3 ≤ 4 * (D.lns xs + 3) + 20000
              rw [lns_app, lns_app]
              show D.lns (xs.take j) + (y.ln + 2 + 0) + D.lns (xs.drop (j + 1)) + 3 ≤ _
              omega
            · have gd := gy.d
              show D.dpts (xs.take j ++ [y] ++ xs.drop (j + 1)) + 1 ≤ D.dpts xs + 1 + 2
              have : D.dpts (xs.take j ++ [y] ++ xs.drop (j + 1)) ≤ D.dpts xs + 2 := dpts_le fun z hz => by
                rcases List.mem_append.mp hz with hz | hz
                · rcases List.mem_append.mp hz with hz | hz
                  · have := dpts_mem (List.mem_of_mem_take hz)
                    omega
                  · rw [List.mem_singleton.mp hz]
                    omega
                · have := dpts_mem (List.mem_of_mem_drop hz)
                  omega
              omega
          · repeat (walk_at "b")
            exact ho1
      · refine ⟨_, a, false, rfl, ha, h1, _, rfl, br_F ?_⟩
        repeat (walk_at "b")
        exact ho.mono (by omega)
    · rintro S' ⟨os1, rfl, ho1⟩
      refine w_seq (w_asg ?_)
      repeat (walk_at "b")
      refine ⟨k, cells, b + 1, o, rfl, ho1, by omega, fun y1 os2 f1 l1 d1 ho2 => ?_⟩
      repeat (walk_at "b")
      refine ⟨k, cells, b + 1 + 1, o, rfl, ho2, by omega, fun y2 os3 f2 l2 d2 ho3 => ?_⟩
      refine aw_nil ⟨[y1, y2], rfl, small_len (by show 2 ≤ _; decide), ?_⟩
      try dsimp only [List.set_cons_zero, List.set_cons_succ]
      have g1 : Gd (M + 1) (4 * x.ln + 20000) (x.dpt + 2) y1 := ⟨fit_mono (by omega) y1 f1, by omega, by omega⟩
      have g2 : Gd (M + 1) (4 * x.ln + 20000) (x.dpt + 2) y2 := ⟨fit_mono (by omega) y2 f2, by omega, by omega⟩
      refine w_cut (fun S' => ∃ ys : List D, S' = ⟨[some (.o k), some (.d x), none, some (.d (.lst ys))], os3⟩ ∧ (0 < ys.length ∧ ys.length ≤ 20) ∧ ∀ y ∈ ys, Gd (M + 1) (4 * x.ln + 20000) (x.dpt + 2) y) ?_ ?_
      · refine w_if ?_
        repeat (walk_at "b")
        rcases isi_tup ha with ⟨xs, rfl, h1⟩ | ⟨h0, h1⟩
        · refine ⟨_, a, true, rfl, ha, h1, _, rfl, br_T ?_⟩
          repeat (walk_at "b")
          have hl2 : D.lns xs + 3 ≤ 100000 := hl
          have hlen : xs.length ≤ 100000 := by
            have := lns_len (xs := xs)
            omega
          have hcl : ∀ lo hi, (Br.cutD xs lo hi).length ≤ xs.length := fun lo hi => by
            unfold Br.cutD
            rw [List.length_take, List.length_drop]
            omega
          refine cw_lstU ?_
          repeat (walk_at "b")
          refine sw_T ?_
          repeat (walk_at "b")
          refine sw_T ?_
          repeat (walk_at "b")
          refine sw_T ?_
          refine bw_catT (small_len (by have := hcl none (some 1); omega)) ?_
          repeat (walk_at "b")
          refine bw_catT (small_len (by show xs.length + 1 ≤ _; omega)) ?_
          repeat (walk_at "b")
          refine bw_catL (small_len (by show 2 + 6 ≤ _; decide)) ?_
          repeat (walk_at "b")
          refine ⟨⟨by show 0 < 8; decide, by show 8 ≤ 20; decide⟩, fun y hy => ?_⟩
          have gx : Gd M (D.lns xs + 3) (D.dpts xs + 1) (.tup xs) := ⟨hx, Nat.le_refl _, Nat.le_refl _⟩
          have ex : (D.tup xs).ln = D.lns xs + 3 := rfl
          have ed : (D.tup xs).dpt = D.dpts xs + 1 := rfl
          rw [ex, ed]
          rw [ex, ed] at g1 g2
          simp only [List.cons_append, List.nil_append, List.mem_cons, List.not_mem_nil, or_false] at hy
          rcases hy with rfl | rfl | rfl | rfl | rfl | rfl | rfl | rfl
          · exact g1
          · exact g2
          · exact (gd_lst gx).up (by omega) (by omega) (by omega)
          · exact (gd_tup gx (fun z hz => .inl (cut_sub hz)) (by have := cut_lns (xs := xs) (lo := some 1) (hi := none); omega)).up (by omega) (by omega) (by omega)
          · exact (gd_tup gx (fun z hz => .inl (cut_sub hz)) (by have := cut_lns (xs := xs) (lo := none) (hi := some (-1)); omega)).up (by omega) (by omega) (by omega)
          · refine gd_tup (gx.up (by omega) (by omega) (by omega)) (fun z hz => .inl ?_) (by rw [lns_app]; have := cut_lns (xs := xs) (lo := none) (hi := some 1); omega)
            rcases List.mem_append.mp hz with hz | hz
            · exact hz
            · exact cut_sub hz
          · exact gd_tup (gx.up (by omega) (by omega) (by omega)) (fun z hz => .inl (List.mem_reverse.mp hz)) (by rw [lns_rev]; omega)
          · refine gd_tup (gx.up (by omega) (by omega) (by omega)) (fun z hz => ?_) (by rw [lns_app]; show D.lns xs + (4 + 2 + 0) + 3 ≤ _; omega)
            rcases List.mem_append.mp hz with hz | hz
            · exact .inl hz
            · exact .inr (List.mem_singleton.mp hz)
        · refine ⟨_, a, false, rfl, ha, h1, _, rfl, br_F ?_⟩
          repeat (walk_at "b")
          rcases isi_str ha with ⟨z, rfl, s1⟩ | ⟨s0, s1⟩
          · exact absurd rfl (hk1 z)
          refine ⟨_, a, false, rfl, ha, s1, _, rfl, br_F ?_⟩
          repeat (walk_at "b")
          obtain ⟨r, i1, r2, i2, i3⟩ := isi_int ha
          cases hI : x.isI with
          | true =>
            obtain ⟨i, rfl⟩ := isI_is hI
            have er : r = true := by
              rw [hI] at i3
              cases r with
              | true => rfl
              | false => cases i3
            subst er
            refine ⟨_, a, true, rfl, ha, i1, _, rfl, br_T ?_⟩
            repeat (walk_at "b")
            have hi : i.natAbs ≤ M := of_decide_eq_true (show decide (i.natAbs ≤ M) = true from hx)
            refine cw_strI (log_of hi (by omega)) ?_
            repeat (walk_at "b")
            refine bw_catL (small_len (by show 2 + 6 ≤ _; decide)) ?_
            repeat (walk_at "b")
            refine ⟨⟨by show 0 < 8; decide, by show 8 ≤ 20; decide⟩, fun y hy => ?_⟩
            have ex : (D.int i).ln = 1921 := rfl
            have ed : (D.int i).dpt = 0 := rfl
            rw [ex, ed]
            rw [ex, ed] at g1 g2
            simp only [List.cons_append, List.nil_append, List.mem_cons, List.not_mem_nil, or_false] at hy
            rcases hy with rfl | rfl | rfl | rfl | rfl | rfl | rfl | rfl
            · exact g1
            · exact g2
            · exact ⟨decide_eq_true (by omega), by show 1921 ≤ _; omega, Nat.zero_le _⟩
            · exact ⟨decide_eq_true (by omega), by show 1921 ≤ _; omega, Nat.zero_le _⟩
            · exact ⟨decide_eq_true (by omega), by show 1921 ≤ _; omega, Nat.zero_le _⟩
            · exact gd_str (asc_int i) (by have := len_int hi (by omega); omega)
            · exact ⟨rfl, by show 5 ≤ _; omega, Nat.zero_le _⟩
            · refine ⟨fits_all.mpr fun z hz => ?_, by show 1921 + 2 + 0 + 3 ≤ _; omega, by show max 0 0 + 1 ≤ _; decide⟩
              rw [List.mem_singleton.mp hz]
              exact decide_eq_true (by omega)
          | false =>
            have er : r = false := by
              cases x with
              | bl c => exact absurd rfl (hk2 c)
              | int i => cases hI
              | non => cases ha; exact (Option.some.inj (i1.symm.trans (show kitB "NoneType" "int" = some false from rfl)))
              | str z => exact absurd rfl (hk1 z)
              | lst z => cases ha; exact (Option.some.inj (i1.symm.trans (show kitB "list" "int" = some false from rfl)))
              | tup z => exact absurd rfl (h0 z)
              | dk z => cases ha; exact (Option.some.inj (i1.symm.trans (show kitB "dict" "int" = some false from rfl)))
              | ob c z => cases ha
              | xo c z => cases ha
            subst er
            refine ⟨_, a, false, rfl, ha, i1, _, rfl, br_F ?_⟩
            repeat (walk_at "b")
            refine ⟨⟨by show 0 < 2; decide, by show 2 ≤ 20; decide⟩, fun y hy => ?_⟩
            simp only [List.mem_cons, List.not_mem_nil, or_false] at hy
            rcases hy with rfl | rfl
            · exact g1
            · exact g2
      · rintro S' ⟨ys, rfl, hyl, hys⟩
        repeat (walk_at "b")
        exact ⟨k, ys, cells, b + 1 + 1 + 1, o, rfl, ho3, ⟨hyl.1, by omega⟩, by omega, fun y os4 hm ho4 => Pn.ret ho ho4 (q y os4 (hys y hm) (ho4.mono (by omega)))⟩
end

local macro_rules | `(tactic| walk_at "b") => `(tactic| first
  | with_reducible refine bw_addBI ?_
  | with_reducible refine bw_subBI ?_
  | with_reducible refine bw_subIB ?_
  | with_reducible refine bw_eqBI ?_
  | with_reducible refine cw_strB ?_)
theorem asc_bool (c : Bool) : asc (if c then "True" else "False" : Str) ∧ (if c then "True" else "False" : Str).length ≤ 5 := by
  cases c
  · exact ⟨by unfold asc; decide +kernel, by decide⟩
  · exact ⟨by unfold asc; decide +kernel, by decide⟩
theorem b2I_le (c : Bool) : 0 ≤ b2I c ∧ b2I c ≤ 1 := by cases c <;> exact ⟨by decide, by decide⟩
section
variable {P : Program} {w : World} {K : PySem.W.Frag} {mg : Str → Option Value} {base : Heap}
theorem ok_l_bentB {n : Nat} {f a1 a2 a3 a4 : Addr} {fd d1 d2 d3 d4 : FuncData} (F : Fun K "_law_bent" "_law_bent" s_l_bent f fd) (z_isinstance : mg "isinstance" = none) (z_tuple : mg "tuple" = none) (z_str : mg "str" = none) (z_int : mg "int" = none) (z_len : mg "len" = none) (z_list : mg "list" = none) (z_sorted : mg "sorted" = none)
    (G_l_draw : FnOk P w K mg base CX0 1 a1 d1 ["_law_pen", "_law_span"] (spD K fDraw)) (C_l_draw : Cal K mg "_law_draw" a1 d1 ["_law_pen", "_law_span"])
    (G_l_pick : FnOk P w K mg base CX0 2 a2 d2 ["_law_pen", "_law_some"] (spD K fPick)) (C_l_pick : Cal K mg "_law_pick" a2 d2 ["_law_pen", "_law_some"])
    (G_l_table : FnOk P w K mg base CX0 1 a3 d3 [] (spD K fTable)) (C_l_table : Cal K mg "_law_table" a3 d3 [])
    (G_l_odd : FnOk P w K mg base CX0 3 a4 d4 ["_law_pen"] (spD K fOdd)) (C_l_odd : Cal K mg "_law_odd" a4 d4 ["_law_pen"])
    (G_l_bent : FnOk P w K mg base CX0 (3 + n) f fd ["_law_pen", "_law_thing"] (spD K (fBentP n))) (C_l_bent : Cal K mg "_law_bent" f fd ["_law_pen", "_law_thing"]) : FnOk P w K mg base CX0 (4 + n) f fd ["_law_pen", "_law_thing"] (spD K (fBentK (fun x => ∃ c, x = .bl c) n)) := by
  have e4 : 4 + n = (3 + n) + 1 := by omega
  rw [e4]
  refine F.ok sc_l_bent (fun vs H Q E h => ?_) (fun cdv A outer s H vs Q E hr h => ?_)
  · obtain ⟨as, os, ds, QA, EA, R, r, ⟨k, x, cells, b, o, M, rfl, _⟩, _⟩ := h
    rw [r.length]
    rfl
  · have hu := hu_of hr
    have hu64 : (A.deeper (envOfC "_law_bent" (defScope s_l_bent) s.heap.objs.size f cdv)).units + 64 < cLine := by
      have := hr.un
      omega
    refine ⟨_, (pss_cons (ps_if (PW.pt (pw_and (pt_val (pe_callB call_isi (by rfl) z_isinstance (by decide +kernel) (pa_cons (pv 1) (pa_cons (pe_bltn (v := .ty "tuple") (by rfl) z_tuple boot_tuple rfl) pa_nil)))) (pw_and (pt_cmpR (op_neNilT hu64) (pv 1) (pe_tup pa_nil) (nomark _)) (pw_and1 (pt_cmpR op_gt (pe_call G_l_draw (hr.mono (by omega)) rfl C_l_draw.m C_l_draw.k C_l_draw.b .nil pass0 (pa_cons (pv 0) (pa_cons pe_int pa_nil))) pe_int (nomark _)))))) (pss_cons (ps_set (i := 2) sc_l_bent.nd rfl (Or.inl rfl) (pe_call G_l_draw (hr.mono (by omega)) rfl C_l_draw.m C_l_draw.k C_l_draw.b .nil pass0 (pa_cons (pv 0) (pa_cons (pe_callB call_lenA (by rfl) z_len PySem.boot_len (pa_cons (pv 1) pa_nil)) pa_nil))))
    (pss_one (ps_ret (pe_op op_catA (pe_op op_catA (pe_slice (r := rSlA K) sl_tupA (pv 1) po_none (po_some (pv 2))) (pe_tup (pa_cons (pe_call G_l_bent (hr.mono (by omega)) rfl C_l_bent.m C_l_bent.k C_l_bent.b .nil pass0 (pa_cons (pv 0) (pa_cons (pe_ix (r := rIxT K) ix_tup (pv 1) (pv 2) (fun _ _ => rfl)) pa_nil))) pa_nil))) (pe_slice (r := rSlA K) sl_tupA (pv 1) (po_some (pe_op op_add (pv 2) pe_int)) po_none))))) pss_nil)
  (pss_cons (ps_set (i := 3) sc_l_bent.nd rfl (Or.inl rfl) (pe_lst (pa_cons (pe_call G_l_odd (hr.mono (by omega)) rfl C_l_odd.m C_l_odd.k C_l_odd.b .nil pass0 (pa_cons (pv 0) pa_nil)) (pa_cons (pe_call G_l_odd (hr.mono (by omega)) rfl C_l_odd.m C_l_odd.k C_l_odd.b .nil pass0 (pa_cons (pv 0) pa_nil)) pa_nil))))
  (pss_cons (ps_if (pt_val (pe_callB call_isi (by rfl) z_isinstance (by decide +kernel) (pa_cons (pv 1) (pa_cons (pe_bltn (v := .ty "tuple") (by rfl) z_tuple boot_tuple rfl) pa_nil)))) (pss_one (ps_set (i := 3) sc_l_bent.nd rfl (Or.inl rfl) (pe_op op_catL (pv 3) (pe_lst (pa_cons (pe_callTy call_lstA (by rfl) z_list (by decide +kernel) (pa_cons (pv 1) pa_nil)) (pa_cons (pe_slice (r := rSlA K) sl_tupA (pv 1) (po_some pe_int) po_none) (pa_cons (pe_slice (r := rSlA K) sl_tupA (pv 1) po_none (po_some (pe_un un_neg pe_int))) (pa_cons (pe_op op_catA (pv 1) (pe_slice (r := rSlA K) sl_tupA (pv 1) po_none (po_some pe_int))) (pa_cons (pe_revT (pv 1)) (pa_cons (pe_op op_catA (pv 1) (pe_tup (pa_cons pe_non pa_nil))) pa_nil)))))))))) (pss_one (ps_if (pt_val (pe_callB call_isi (by rfl) z_isinstance (by decide +kernel) (pa_cons (pv 1) (pa_cons (pe_bltn (v := .ty "str") (by rfl) z_str boot_str rfl) pa_nil)))) (pss_cons (ps_set (i := 3) sc_l_bent.nd rfl (Or.inl rfl) (pe_op op_catL (pv 3) (pe_lst (pa_cons (pe_op op_addS (pv 1) pe_str) (pa_cons (pe_slice sl_str (pv 1) po_none (po_some (pe_un un_neg pe_int))) (pa_cons (pe_revs2 (pv 1)) (pa_cons (pe_upper (pv 1)) (pa_cons (pe_tup (pa_cons (pv 1) pa_nil)) pa_nil))))))))
      (pss_one (ps_expr (pe_bm PySem.F.plainAttrs_list PySem.F.slot_list_append PySem.F.type_list_append mt_append (pv 3) (pa_cons (pe_call G_l_pick (hr.mono (by omega)) rfl C_l_pick.m C_l_pick.k C_l_pick.b .nil pass0 (pa_cons (pv 0) (pa_cons (pe_callB (call_sortedD rfl) (by rfl) z_sorted (by decide +kernel) (pa_cons (pe_call0 G_l_table (hr.mono (by omega)) rfl C_l_table.m C_l_table.k C_l_table.b .nil pass0) pa_nil)) pa_nil))) pa_nil))))) (pss_one (ps_if (pt_val (pe_callB call_isi (by rfl) z_isinstance (by decide +kernel) (pa_cons (pv 1) (pa_cons (pe_bltn (v := .ty "int") (by rfl) z_int boot_int rfl) pa_nil)))) (pss_one (ps_set (i := 3) sc_l_bent.nd rfl (Or.inl rfl) (pe_op op_catL (pv 3) (pe_lst (pa_cons (pe_op op_add_bi (pv 1) pe_int) (pa_cons (pe_op op_sub_bi (pv 1) pe_int) (pa_cons (pe_op op_sub_ib pe_int (pv 1)) (pa_cons (pe_callTy call_str_bool (by rfl) z_str (by decide +kernel) (pa_cons (pv 1) pa_nil)) (pa_cons (pe_cmpR op_eq_bi (pv 1) pe_int (nomark _)) (pa_cons (pe_lst (pa_cons (pv 1) pa_nil)) pa_nil)))))))))) pss_nil)))))
  (pss_one (ps_ret (pe_call G_l_pick (hr.mono (by omega)) rfl C_l_pick.m C_l_pick.k C_l_pick.b .nil pass0 (pa_cons (pv 0) (pa_cons (pv 3) pa_nil)))))))), read_of h fun ds os QA EA hf => ?_⟩
    obtain ⟨k, x, cells, b, o, M, rfl, ho, hx, hM, hn, hl, hb, q, c, rfl⟩ := hf
    try dsimp only [cxOf, Cx.nox, Cx.wish]
    show W K _ _ _ ⟨[some (.o k), some (.d (.bl c)), none, none], os⟩
    refine w_cut (fun S' => S' = ⟨[some (.o k), some (.d (.bl c)), none, none], os⟩) ?_ ?_
    · refine w_if ?_
      repeat (walk_at "b")
      refine ⟨_, "bool", false, rfl, rfl, rfl, _, rfl, br_F ?_⟩
      repeat (walk_at "b")
      rfl
    · rintro S' rfl
      refine w_seq (w_asg ?_)
      repeat (walk_at "b")
      refine ⟨k, cells, b, o, rfl, ho, by omega, fun y1 os2 f1 l1 d1 ho2 => ?_⟩
      repeat (walk_at "b")
      refine ⟨k, cells, b + 1, o, rfl, ho2, by omega, fun y2 os3 f2 l2 d2 ho3 => ?_⟩
      refine aw_nil ⟨[y1, y2], rfl, small_len (by show 2 ≤ _; decide), ?_⟩
      try dsimp only [List.set_cons_zero, List.set_cons_succ]
      have g1 : Gd (M + 1) (4 * 5 + 20000) (0 + 2) y1 := ⟨fit_mono (by omega) y1 f1, by omega, by omega⟩
      have g2 : Gd (M + 1) (4 * 5 + 20000) (0 + 2) y2 := ⟨fit_mono (by omega) y2 f2, by omega, by omega⟩
      refine w_cut (fun S' => ∃ ys : List D, S' = ⟨[some (.o k), some (.d (.bl c)), none, some (.d (.lst ys))], os3⟩ ∧ (0 < ys.length ∧ ys.length ≤ 20) ∧ ∀ y ∈ ys, Gd (M + 1) (4 * 5 + 20000) (0 + 2) y) ?_ ?_
      · refine w_if ?_
        repeat (walk_at "b")
        refine ⟨_, "bool", false, rfl, rfl, rfl, _, rfl, br_F ?_⟩
        repeat (walk_at "b")
        refine ⟨_, "bool", false, rfl, rfl, rfl, _, rfl, br_F ?_⟩
        repeat (walk_at "b")
        refine ⟨_, "bool", true, rfl, rfl, rfl, _, rfl, br_T ?_⟩
        repeat (walk_at "b")
        refine bw_catL (small_len (by show 2 + 6 ≤ _; decide)) ?_
        repeat (walk_at "b")
        refine ⟨⟨by show 0 < 8; decide, by show 8 ≤ 20; decide⟩, fun y hy => ?_⟩
        have hc := b2I_le c
        simp only [List.cons_append, List.nil_append, List.mem_cons, List.not_mem_nil, or_false] at hy
        rcases hy with rfl | rfl | rfl | rfl | rfl | rfl | rfl | rfl
        · exact g1
        · exact g2
        · exact ⟨decide_eq_true (by omega), by show 1921 ≤ _; omega, Nat.zero_le _⟩
        · exact ⟨decide_eq_true (by omega), by show 1921 ≤ _; omega, Nat.zero_le _⟩
        · exact ⟨decide_eq_true (by omega), by show 1921 ≤ _; omega, Nat.zero_le _⟩
        · exact gd_str (asc_bool c).1 (by have := (asc_bool c).2; omega)
        · exact ⟨rfl, by show 5 ≤ _; omega, Nat.zero_le _⟩
        · exact ⟨rfl, by show 5 + 2 + 0 + 3 ≤ _; omega, by show max 0 0 + 1 ≤ _; decide⟩
      · rintro S' ⟨ys, rfl, hyl, hys⟩
        repeat (walk_at "b")
        exact ⟨k, ys, cells, b + 1 + 1, o, rfl, ho3, ⟨hyl.1, by omega⟩, by omega, fun y os4 hm ho4 => Pn.ret ho ho4 (q y os4 (hys y hm) (ho4.mono (by omega)))⟩
theorem ok_l_bentS {n : Nat} {f a1 a2 a3 a4 : Addr} {fd d1 d2 d3 d4 : FuncData} (F : Fun K "_law_bent" "_law_bent" s_l_bent f fd) (z_isinstance : mg "isinstance" = none) (z_tuple : mg "tuple" = none) (z_str : mg "str" = none) (z_int : mg "int" = none) (z_len : mg "len" = none) (z_list : mg "list" = none) (z_sorted : mg "sorted" = none)
    (G_l_draw : FnOk P w K mg base CX0 1 a1 d1 ["_law_pen", "_law_span"] (spD K fDraw)) (C_l_draw : Cal K mg "_law_draw" a1 d1 ["_law_pen", "_law_span"])
    (G_l_pick : FnOk P w K mg base CX0 2 a2 d2 ["_law_pen", "_law_some"] (spD K fPick)) (C_l_pick : Cal K mg "_law_pick" a2 d2 ["_law_pen", "_law_some"])
    (G_l_pickO : FnOk P w K mg base CX0 2 a2 d2 ["_law_pen", "_law_some"] (spD K fPickO))
    (G_l_table : FnOk P w K mg base CX0 1 a3 d3 [] (spD K fTable)) (C_l_table : Cal K mg "_law_table" a3 d3 [])
    (G_l_odd : FnOk P w K mg base CX0 3 a4 d4 ["_law_pen"] (spD K fOdd)) (C_l_odd : Cal K mg "_law_odd" a4 d4 ["_law_pen"])
    (G_l_bent : FnOk P w K mg base CX0 (3 + n) f fd ["_law_pen", "_law_thing"] (spD K (fBentP n))) (C_l_bent : Cal K mg "_law_bent" f fd ["_law_pen", "_law_thing"]) : FnOk P w K mg base CX0 (4 + n) f fd ["_law_pen", "_law_thing"] (spD K (fBentK (fun x => ∃ z, x = .str z) n)) := by
  have e4 : 4 + n = (3 + n) + 1 := by omega
  rw [e4]
  refine F.ok sc_l_bent (fun vs H Q E h => ?_) (fun cdv A outer s H vs Q E hr h => ?_)
  · obtain ⟨as, os, ds, QA, EA, R, r, ⟨k, x, cells, b, o, M, rfl, _⟩, _⟩ := h
    rw [r.length]
    rfl
  · have hu := hu_of hr
    have hu64 : (A.deeper (envOfC "_law_bent" (defScope s_l_bent) s.heap.objs.size f cdv)).units + 64 < cLine := by
      have := hr.un
      omega
    refine ⟨_, (pss_cons (ps_if (PW.pt (pw_and (pt_val (pe_callB call_isi (by rfl) z_isinstance (by decide +kernel) (pa_cons (pv 1) (pa_cons (pe_bltn (v := .ty "tuple") (by rfl) z_tuple boot_tuple rfl) pa_nil)))) (pw_and (pt_cmpR (op_neNilT hu64) (pv 1) (pe_tup pa_nil) (nomark _)) (pw_and1 (pt_cmpR op_gt (pe_call G_l_draw (hr.mono (by omega)) rfl C_l_draw.m C_l_draw.k C_l_draw.b .nil pass0 (pa_cons (pv 0) (pa_cons pe_int pa_nil))) pe_int (nomark _)))))) (pss_cons (ps_set (i := 2) sc_l_bent.nd rfl (Or.inl rfl) (pe_call G_l_draw (hr.mono (by omega)) rfl C_l_draw.m C_l_draw.k C_l_draw.b .nil pass0 (pa_cons (pv 0) (pa_cons (pe_callB call_lenA (by rfl) z_len PySem.boot_len (pa_cons (pv 1) pa_nil)) pa_nil))))
    (pss_one (ps_ret (pe_op op_catA (pe_op op_catA (pe_slice (r := rSlA K) sl_tupA (pv 1) po_none (po_some (pv 2))) (pe_tup (pa_cons (pe_call G_l_bent (hr.mono (by omega)) rfl C_l_bent.m C_l_bent.k C_l_bent.b .nil pass0 (pa_cons (pv 0) (pa_cons (pe_ix (r := rIxT K) ix_tup (pv 1) (pv 2) (fun _ _ => rfl)) pa_nil))) pa_nil))) (pe_slice (r := rSlA K) sl_tupA (pv 1) (po_some (pe_op op_add (pv 2) pe_int)) po_none))))) pss_nil)
  (pss_cons (ps_set (i := 3) sc_l_bent.nd rfl (Or.inl rfl) (pe_lst (pa_cons (pe_call G_l_odd (hr.mono (by omega)) rfl C_l_odd.m C_l_odd.k C_l_odd.b .nil pass0 (pa_cons (pv 0) pa_nil)) (pa_cons (pe_call G_l_odd (hr.mono (by omega)) rfl C_l_odd.m C_l_odd.k C_l_odd.b .nil pass0 (pa_cons (pv 0) pa_nil)) pa_nil))))
  (pss_cons (ps_if (pt_val (pe_callB call_isi (by rfl) z_isinstance (by decide +kernel) (pa_cons (pv 1) (pa_cons (pe_bltn (v := .ty "tuple") (by rfl) z_tuple boot_tuple rfl) pa_nil)))) (pss_one (ps_set (i := 3) sc_l_bent.nd rfl (Or.inl rfl) (pe_op op_catL (pv 3) (pe_lst (pa_cons (pe_callTy call_lstA (by rfl) z_list (by decide +kernel) (pa_cons (pv 1) pa_nil)) (pa_cons (pe_slice (r := rSlA K) sl_tupA (pv 1) (po_some pe_int) po_none) (pa_cons (pe_slice (r := rSlA K) sl_tupA (pv 1) po_none (po_some (pe_un un_neg pe_int))) (pa_cons (pe_op op_catA (pv 1) (pe_slice (r := rSlA K) sl_tupA (pv 1) po_none (po_some pe_int))) (pa_cons (pe_revT (pv 1)) (pa_cons (pe_op op_catA (pv 1) (pe_tup (pa_cons pe_non pa_nil))) pa_nil)))))))))) (pss_one (ps_if (pt_val (pe_callB call_isi (by rfl) z_isinstance (by decide +kernel) (pa_cons (pv 1) (pa_cons (pe_bltn (v := .ty "str") (by rfl) z_str boot_str rfl) pa_nil)))) (pss_cons (ps_set (i := 3) sc_l_bent.nd rfl (Or.inl rfl) (pe_op op_catL (pv 3) (pe_lst (pa_cons (pe_op op_addS (pv 1) pe_str) (pa_cons (pe_slice sl_str (pv 1) po_none (po_some (pe_un un_neg pe_int))) (pa_cons (pe_revs2 (pv 1)) (pa_cons (pe_upper (pv 1)) (pa_cons (pe_tup (pa_cons (pv 1) pa_nil)) pa_nil))))))))
      (pss_one (ps_expr (pe_bm PySem.F.plainAttrs_list PySem.F.slot_list_append PySem.F.type_list_append mt_append (pv 3) (pa_cons (pe_call G_l_pick (hr.mono (by omega)) rfl C_l_pick.m C_l_pick.k C_l_pick.b .nil pass0 (pa_cons (pv 0) (pa_cons (pe_callB (call_sortedD rfl) (by rfl) z_sorted (by decide +kernel) (pa_cons (pe_call0 G_l_table (hr.mono (by omega)) rfl C_l_table.m C_l_table.k C_l_table.b .nil pass0) pa_nil)) pa_nil))) pa_nil))))) (pss_one (ps_if (pt_val (pe_callB call_isi (by rfl) z_isinstance (by decide +kernel) (pa_cons (pv 1) (pa_cons (pe_bltn (v := .ty "int") (by rfl) z_int boot_int rfl) pa_nil)))) (pss_one (ps_set (i := 3) sc_l_bent.nd rfl (Or.inl rfl) (pe_op op_catL (pv 3) (pe_lst (pa_cons (pe_op op_add (pv 1) pe_int) (pa_cons (pe_op op_sub (pv 1) pe_int) (pa_cons (pe_op op_sub pe_int (pv 1)) (pa_cons (pe_callTy call_str_int (by rfl) z_str (by decide +kernel) (pa_cons (pv 1) pa_nil)) (pa_cons (pe_cmpR op_eq (pv 1) pe_int (nomark _)) (pa_cons (pe_lst (pa_cons (pv 1) pa_nil)) pa_nil)))))))))) pss_nil)))))
  (pss_one (ps_ret (pe_call G_l_pickO (hr.mono (by omega)) rfl C_l_pick.m C_l_pick.k C_l_pick.b .nil pass0 (pa_cons (pv 0) (pa_cons (pv 3) pa_nil)))))))), read_of h fun ds os QA EA hf => ?_⟩
    obtain ⟨k, x, cells, b, o, M, rfl, ho, hx, hM, hn, hl, hb, q, z, rfl⟩ := hf
    try dsimp only [cxOf, Cx.nox, Cx.wish]
    show W K _ _ _ ⟨[some (.o k), some (.d (.str z)), none, none], os⟩
    have hz : z.length ≤ 10000 := by
      have h2 : 10 * z.length + 2 ≤ 100000 := hl
      omega
    have hza := asc_of hx
    refine w_cut (fun S' => S' = ⟨[some (.o k), some (.d (.str z)), none, none], os⟩) ?_ ?_
    · refine w_if ?_
      repeat (walk_at "b")
      refine ⟨_, "str", false, rfl, rfl, rfl, _, rfl, br_F ?_⟩
      repeat (walk_at "b")
      rfl
    · rintro S' rfl
      refine w_seq (w_asg ?_)
      repeat (walk_at "b")
      refine ⟨k, cells, b, o, rfl, ho, by omega, fun y1 os2 f1 l1 d1 ho2 => ?_⟩
      repeat (walk_at "b")
      refine ⟨k, cells, b + 1, o, rfl, ho2, by omega, fun y2 os3 f2 l2 d2 ho3 => ?_⟩
      refine aw_nil ⟨[y1, y2], rfl, small_len (by show 2 ≤ _; decide), ?_⟩
      try dsimp only [List.set_cons_zero, List.set_cons_succ]
      have g1 : Gd (M + 1) (4 * (10 * z.length + 2) + 20000) (0 + 2) y1 := ⟨fit_mono (by omega) y1 f1, by omega, by omega⟩
      have g2 : Gd (M + 1) (4 * (10 * z.length + 2) + 20000) (0 + 2) y2 := ⟨fit_mono (by omega) y2 f2, by omega, by omega⟩
      refine w_cut (fun S' => ∃ (ys : List D) (os6 : Os), S' = ⟨[some (.o k), some (.d (.str z)), none, some (.o os6.length)], os6 ++ [.ml ys]⟩ ∧ (0 < ys.length ∧ ys.length ≤ 20) ∧ (∀ y ∈ ys, Gd (M + 1) (4 * (10 * z.length + 2) + 20000) (0 + 2) y) ∧ Pn k cells (b + 3) o os6) ?_ ?_
      · refine w_if ?_
        repeat (walk_at "b")
        refine ⟨_, "str", false, rfl, rfl, rfl, _, rfl, br_F ?_⟩
        repeat (walk_at "b")
        refine ⟨_, "str", true, rfl, rfl, rfl, _, rfl, br_T ?_⟩
        refine w_seq (w_asgCat ?_)
        repeat (walk_at "b")
        refine bw_catS (small_len (by show z.length + 1 ≤ _; omega)) ?_
        repeat (walk_at "b")
        refine sw_S (small_len (by omega)) ?_
        repeat (walk_at "b")
        refine ⟨small_len (by omega), fun yr hyr hyc => ?_⟩
        repeat (walk_at "b")
        refine ⟨by omega, ?_⟩
        repeat (walk_at "b")
        refine ⟨_, _, rfl, rfl, small_len (by show 2 + 5 ≤ _; decide), ?_⟩
        try dsimp only [List.set_cons_zero, List.set_cons_succ]
        refine w_drop (ew_app (ew_var rfl ⟨os3.length, _, rfl, get_last, ?_⟩))
        repeat (walk_at "b")
        refine ⟨rfl, ?_⟩
        repeat (walk_at "b")
        refine cw_sortedD heads (by decide) fun hs hperm => ?_
        repeat (walk_at "b")
        have hyl : hs.length = 30 := hperm.length_eq
        refine ⟨k, _, cells, b + 1 + 1, _, rfl, ho3.push _, ⟨by rw [List.length_map]; omega, by rw [List.length_map]; omega⟩, by omega, fun y3 os5 hm ho5 => ?_⟩
        obtain ⟨os6, rfl, ho6⟩ := ho5.pop ho3.kl
        obtain ⟨hz2, hhz, rfl⟩ := List.mem_map.mp hm
        obtain ⟨e, he⟩ := heads_find (hperm.mem_iff.mp hhz)
        obtain ⟨hmem, hez⟩ := mfind_mem he
        obtain ⟨s1, s2⟩ := heads_short e hmem
        rw [hez] at s1 s2
        have hlen6 : os3.length = os6.length := by rw [ho3.len, ho6.len]
        rw [hlen6]
        refine ⟨_, _, rfl, get_last, by rw [sizeLine_eq]; show 7 < _; decide, ?_⟩
        rw [set_last]
        refine ⟨_, os6, rfl, ⟨by show 0 < 8; decide, by show 8 ≤ 20; decide⟩, fun y hy => ?_, ho6.mono (by omega)⟩
        have hup := asc_up hza
        simp only [List.cons_append, List.nil_append, List.mem_cons, List.not_mem_nil, or_false] at hy
        rcases hy with rfl | rfl | rfl | rfl | rfl | rfl | rfl | rfl
        · exact g1
        · exact g2
        · exact gd_str (asc_app hza (by unfold asc; decide +kernel)) (by rw [len_app]; show 10 * (z.length + 1) + 2 ≤ _; omega)
        · exact gd_str (asc_cut hza) (by have := cutS_length z none (some (-1)); omega)
        · exact gd_str (fun c hc => hza c (hyc c hc)) (by omega)
        · exact gd_str hup.1 (by rw [hup.2]; omega)
        · refine ⟨fits_all.mpr fun y hy => ?_, by show 10 * z.length + 2 + 2 + 0 + 3 ≤ _; omega, by show max 0 0 + 1 ≤ _; decide⟩
          rw [List.mem_singleton.mp hy]
          exact hx
        · exact gd_str (fun c hc => of_decide_eq_true (List.all_eq_true.mp s2 c hc)) (by omega)
      · rintro S' ⟨ys, os6, rfl, hyl, hys, ho6⟩
        repeat (walk_at "b")
        have hkl := ho6.kl
        have hlen := ho6.len
        refine ⟨k, os6.length, ys, cells, b + 3, o ++ [.ml ys], rfl, ho6.push _, get_last, by omega, ⟨hyl.1, by omega⟩, by omega, fun y os7 hm ho7 => ?_⟩
        obtain ⟨os8, rfl, ho8⟩ := ho7.pop hkl
        show QA y ((os8 ++ [Ob.ml ys]).take os.length)
        rw [List.take_left' (by rw [ho8.len, ho.len])]
        exact q y os8 (hys y hm) (ho8.mono (by omega))
end

section
variable {P : Program} {w : World} {K : PySem.W.Frag} {mg : Str → Option Value} {base : Heap}
theorem fn_or {k : Nat} {f : Addr} {fd : FuncData} {ps : List Str} {sp sp1 sp2 : Sp} (m : ∀ vs H Q E, sp vs H Q E → sp1 vs H Q E ∨ sp2 vs H Q E) (F1 : FnOk P w K mg base CX0 k f fd ps sp1) (F2 : FnOk P w K mg base CX0 k f fd ps sp2) : FnOk P w K mg base CX0 k f fd ps sp :=
  ⟨fun vs H Q E h => (m vs H Q E h).elim (F1.len vs H Q E) (F2.len vs H Q E), fun A outer s H args us vs Q E hr e0 hb r h => (m vs H Q E h).elim (fun h1 => F1.run A outer s H args us vs Q E hr e0 hb r h1) (fun h2 => F2.run A outer s H args us vs Q E hr e0 hb r h2)⟩
theorem ok_l_bent {f a1 a2 a3 a4 : Addr} {fd d1 d2 d3 d4 : FuncData} (F : Fun K "_law_bent" "_law_bent" s_l_bent f fd) (z_isinstance : mg "isinstance" = none) (z_tuple : mg "tuple" = none) (z_str : mg "str" = none) (z_int : mg "int" = none) (z_len : mg "len" = none) (z_list : mg "list" = none) (z_sorted : mg "sorted" = none)
    (G_l_draw : FnOk P w K mg base CX0 1 a1 d1 ["_law_pen", "_law_span"] (spD K fDraw)) (C_l_draw : Cal K mg "_law_draw" a1 d1 ["_law_pen", "_law_span"])
    (G_l_pick : FnOk P w K mg base CX0 2 a2 d2 ["_law_pen", "_law_some"] (spD K fPick)) (C_l_pick : Cal K mg "_law_pick" a2 d2 ["_law_pen", "_law_some"])
    (G_l_pickO : FnOk P w K mg base CX0 2 a2 d2 ["_law_pen", "_law_some"] (spD K fPickO))
    (G_l_table : FnOk P w K mg base CX0 1 a3 d3 [] (spD K fTable)) (C_l_table : Cal K mg "_law_table" a3 d3 [])
    (G_l_odd : FnOk P w K mg base CX0 3 a4 d4 ["_law_pen"] (spD K fOdd)) (C_l_odd : Cal K mg "_law_odd" a4 d4 ["_law_pen"])
    (C_l_bent : Cal K mg "_law_bent" f fd ["_law_pen", "_law_thing"]) : ∀ n : Nat, FnOk P w K mg base CX0 (4 + n) f fd ["_law_pen", "_law_thing"] (spD K (fBent n)) := by
  intro n
  induction n with
  | zero =>
    have G : FnOk P w K mg base CX0 (3 + 0) f fd ["_law_pen", "_law_thing"] (spD K (fBentP 0)) := ok_no
    exact fn_or (fun vs H Q E h => spD_or (spD_imp (fun ds os QA EA ⟨k, x, cells, b, o, M, e, ho, hx, hM, hn, hl, hb, q, _⟩ => by
        cases x with
        | str z => exact .inl ⟨k, _, cells, b, o, M, e, ho, hx, hM, hn, hl, hb, q, z, rfl⟩
        | _ => exact .inr ⟨k, _, cells, b, o, M, e, ho, hx, hM, hn, hl, hb, q, fun z e => (nomatch e)⟩) h))
      (ok_l_bentS F z_isinstance z_tuple z_str z_int z_len z_list z_sorted G_l_draw C_l_draw G_l_pick C_l_pick G_l_pickO G_l_table C_l_table G_l_odd C_l_odd G C_l_bent)
      (fn_or (sp1 := spD K (fBentK (fun x => ∃ c, x = .bl c) 0)) (sp2 := spD K (fBentK (fun x => (∀ z, x ≠ .str z) ∧ ∀ c, x ≠ .bl c) 0)) (sp := spD K (fBentK (fun x => ∀ z, x ≠ .str z) 0)) (fun vs H Q E h => spD_or (spD_imp (fun ds os QA EA ⟨k, x, cells, b, o, M, e, ho, hx, hM, hn, hl, hb, q, hz⟩ => by
        cases x with
        | bl c => exact .inl ⟨k, _, cells, b, o, M, e, ho, hx, hM, hn, hl, hb, q, c, rfl⟩
        | _ => exact .inr ⟨k, _, cells, b, o, M, e, ho, hx, hM, hn, hl, hb, q, hz, fun z e => (nomatch e)⟩) h))
        (ok_l_bentB F z_isinstance z_tuple z_str z_int z_len z_list z_sorted G_l_draw C_l_draw G_l_pick C_l_pick G_l_table C_l_table G_l_odd C_l_odd G C_l_bent)
        (ok_l_bentX F z_isinstance z_tuple z_str z_int z_len z_list z_sorted G_l_draw C_l_draw G_l_pick C_l_pick G_l_table C_l_table G_l_odd C_l_odd G C_l_bent))
  | succ m ih =>
    have G : FnOk P w K mg base CX0 (3 + (m + 1)) f fd ["_law_pen", "_law_thing"] (spD K (fBentP (m + 1))) := by
      have e : 3 + (m + 1) = 4 + m := by omega
      rw [e]
      exact ih
    exact fn_or (fun vs H Q E h => spD_or (spD_imp (fun ds os QA EA ⟨k, x, cells, b, o, M, e, ho, hx, hM, hn, hl, hb, q, _⟩ => by
        cases x with
        | str z => exact .inl ⟨k, _, cells, b, o, M, e, ho, hx, hM, hn, hl, hb, q, z, rfl⟩
        | _ => exact .inr ⟨k, _, cells, b, o, M, e, ho, hx, hM, hn, hl, hb, q, fun z e => (nomatch e)⟩) h))
      (ok_l_bentS F z_isinstance z_tuple z_str z_int z_len z_list z_sorted G_l_draw C_l_draw G_l_pick C_l_pick G_l_pickO G_l_table C_l_table G_l_odd C_l_odd G C_l_bent)
      (fn_or (sp1 := spD K (fBentK (fun x => ∃ c, x = .bl c) (m + 1))) (sp2 := spD K (fBentK (fun x => (∀ z, x ≠ .str z) ∧ ∀ c, x ≠ .bl c) (m + 1))) (sp := spD K (fBentK (fun x => ∀ z, x ≠ .str z) (m + 1))) (fun vs H Q E h => spD_or (spD_imp (fun ds os QA EA ⟨k, x, cells, b, o, M, e, ho, hx, hM, hn, hl, hb, q, hz⟩ => by
        cases x with
        | bl c => exact .inl ⟨k, _, cells, b, o, M, e, ho, hx, hM, hn, hl, hb, q, c, rfl⟩
        | _ => exact .inr ⟨k, _, cells, b, o, M, e, ho, hx, hM, hn, hl, hb, q, hz, fun z e => (nomatch e)⟩) h))
        (ok_l_bentB F z_isinstance z_tuple z_str z_int z_len z_list z_sorted G_l_draw C_l_draw G_l_pick C_l_pick G_l_table C_l_table G_l_odd C_l_odd G C_l_bent)
        (ok_l_bentX F z_isinstance z_tuple z_str z_int z_len z_list z_sorted G_l_draw C_l_draw G_l_pick C_l_pick G_l_table C_l_table G_l_odd C_l_odd G C_l_bent))
end
/-! ### the law -/
theorem okG {P : Program} {w : World} {K : PySem.W.Frag} {mg : Str → Option Value} {base : Heap} {x qual : Str} {st : Stmt} {f : Addr} {fd : FuncData} {N ps : List Str} {k : Nat} {sp : Sp} (F : Fun K x qual st f fd) (S : FnScope N ps (defScope st)) (len : ∀ vs H Q E, sp vs H Q E → vs.length = ps.length)
    (body : ∀ (cdv : Value) (A : Around) (outer : List Env) (s : Shared) (H : Hp) (vs : List V) (Q : VK) (E : XK), (A.deeper (envOfC qual (defScope st) s.heap.objs.size f cdv)).guards = some [] → Room k (A.deeper (envOfC qual (defScope st) s.heap.objs.size f cdv)) → sp vs H Q E →
      ∃ t, PSs (cxOf CX0 P w K mg base N qual (defScope st) f cdv A outer s H E).nox (defBody st) t ∧ t { nx := fun _ H' => Q .non H', rt := Q } (L2.start N vs) H) : FnG P w K mg base (k + 1) f fd ps sp := by
  obtain ⟨oc, od, kV, doc, pm, an, cdv, ct, osl, rfl, lk, hcd⟩ := F.ex
  refine fn_ofG lk hcd S len fun A outer s H vs Q E hg hr hsp => ?_
  obtain ⟨t, h, q⟩ := body cdv A outer s H vs Q E hg hr hsp
  exact ⟨t, h.nox, q⟩
def fLaw : FD := fun ds os QA _ => ∃ ns : List Int, ds = [.d (.lst (ns.map D.int))] ∧ os = [] ∧ ns.length ≤ 63 ∧ ∀ os', QA (.bl true) os'
local macro_rules | `(tactic| walk_at "b") => `(tactic| first
  | with_reducible refine bw_notB ?_)
section
variable {P : Program} {w : World} {K : PySem.W.Frag} {mg : Str → Option Value} {base : Heap}
abbrev s_law : Stmt := topS 29
abbrev N_law : List Str := ["_law_script", "_law_pen", "_law_turn", "_law_word", "_law_row", "_law_bent_here", "_law_thing", "_law_kept", "_law_k"]
theorem sc_law : FnScope N_law ["_law_script"] (defScope s_law) := ⟨rfl, rfl, rfl, by decide +kernel, rfl, by decide +kernel, by decide +kernel⟩
theorem ok_law {f a1 a2 a3 a4 a5 a6 a7 a8 a9 a10 a11 : Addr} {fd d1 d2 d3 d4 d5 d6 d7 d8 d9 d10 d11 : FuncData} (F : Fun K "law" "law" s_law f fd) (hS : SysOk K) (z_len : mg "len" = none) (z_min : mg "min" = none) (z_range : mg "range" = none) (z_repr : mg "repr" = none) (z_tuple : mg "tuple" = none) (z_list : mg "list" = none)
    (G_l_feed : FnOk P w K mg base CX0 1 a1 d1 ["_law_script"] (spN K fFeed)) (C_l_feed : Cal K mg "_law_feed" a1 d1 ["_law_script"])
    (G_l_draw : FnOk P w K mg base CX0 1 a2 d2 ["_law_pen", "_law_span"] (spD K fDraw)) (C_l_draw : Cal K mg "_law_draw" a2 d2 ["_law_pen", "_law_span"])
    (G_l_byte : FnOk P w K mg base CX0 2 a3 d3 ["_law_pen"] (spD K fByte)) (C_l_byte : Cal K mg "_law_byte" a3 d3 ["_law_pen"])
    (G_l_drawn_word : FnOk P w K mg base CX0 3 a4 d4 ["_law_pen"] (spD K fDrawn)) (C_l_drawn_word : Cal K mg "_law_drawn_word" a4 d4 ["_law_pen"])
    (G_l_bent : FnOk P w K mg base CX0 7 a5 d5 ["_law_pen", "_law_thing"] (spD K (fBent 3))) (C_l_bent : Cal K mg "_law_bent" a5 d5 ["_law_pen", "_law_thing"])
    (G_l_odd : FnOk P w K mg base CX0 3 a6 d6 ["_law_pen"] (spD K fOdd)) (C_l_odd : Cal K mg "_law_odd" a6 d6 ["_law_pen"])
    (G_l_same : FnOk P w K mg base CX0 1 a7 d7 ["_law_found", "_law_due"] (spD K fSame)) (C_l_same : Cal K mg "_law_same" a7 d7 ["_law_found", "_law_due"])
    (G_is_word : FnOk P w K mg base CX0 4 a8 d8 ["thing"] (spD K fWord)) (C_is_word : Cal K mg "is_word" a8 d8 ["thing"])
    (G_l_is_word : FnOk P w K mg base CX0 2 a9 d9 ["_law_thing"] (spD K fWord)) (C_l_is_word : Cal K mg "_law_is_word" a9 d9 ["_law_thing"])
    (G_is_row : FnOk P w K mg base CX0 3 a10 d10 ["thing"] (spD K fRow)) (C_is_row : Cal K mg "is_row" a10 d10 ["thing"])
    (G_l_is_row : FnOk P w K mg base CX0 2 a11 d11 ["_law_thing"] (spD K fRow)) (C_l_is_row : Cal K mg "_law_is_row" a11 d11 ["_law_thing"]) : FnG P w K mg base 8 f fd ["_law_script"] (spD K fLaw) := by
  refine okG F sc_law (fun vs H Q E h => ?_) (fun cdv A outer s H vs Q E hgd hr h => ?_)
  · obtain ⟨as, os, ds, QA, EA, R, r, ⟨ns, rfl, _⟩, _⟩ := h
    rw [r.length]
    rfl
  · have hu64 : (A.deeper (envOfC "law" (defScope s_law) s.heap.objs.size f cdv)).units + 64 < cLine := by
      have := hr.un
      omega
    have hu65 := hu64
    refine ⟨_, (pss_cons (ps_set (i := 1) sc_law.nd rfl (Or.inr rfl) (pe_call G_l_feed (hr.mono (by decide)) rfl C_l_feed.m C_l_feed.k C_l_feed.b .nil pass0 (pa_cons (pv 0) pa_nil)))
  (pss_cons (ps_for PassesOwn.never rfl (pi_range1 (by rfl) z_range (pa_cons (pe_op op_add pe_int (pe_callB (call_min2A rfl) (by rfl) z_min (by decide +kernel) (pa_cons pe_int (pa_cons (pe_callB call_lenA (by rfl) z_len PySem.boot_len (pa_cons (pv 0) pa_nil)) pa_nil)))) pa_nil)) (pg_name (i := 2) sc_law.nd rfl (Or.inl rfl))
    (pss_cons (ps_par (i := 3) (j := 4) (by rfl) sc_law.nd rfl rfl (by decide) rfl rfl (pa_cons (pe_call G_l_drawn_word (hr.mono (by decide)) rfl C_l_drawn_word.m C_l_drawn_word.k C_l_drawn_word.b .nil pass0 (pa_cons (pv 1) pa_nil)) (pa_cons (pe_callTy call_tupA (by rfl) z_tuple (by decide +kernel) (pa_cons (pe_lc (own := [("_law_k", 8)]) (g := (gName 8)) rfl sc_law.nd (pi_range1 (by rfl) z_range (pa_cons (pe_call G_l_draw (hr.mono (by decide)) rfl C_l_draw.m C_l_draw.k C_l_draw.b .nil pass0 (pa_cons (pv 1) (pa_cons pe_int pa_nil))) pa_nil)) (blkOk_by (own := [("_law_k", 8)]) (N := N_law) (sc := defScope s_law) (by decide +kernel)) (fun _ _ _ _ _ => (pg_name (i := 8) sc_law.nd rfl (Or.inl rfl))) (fun _ _ _ _ _ => pts_nil) (fun _ _ _ _ _ => (pe_call G_l_byte (hr.mono (by decide)) rfl C_l_byte.m C_l_byte.k C_l_byte.b .nil pass0 (pa_cons (pv 1) pa_nil)))) pa_nil)) pa_nil)) (by rfl))
    (pss_cons (ps_set (i := 5) sc_law.nd rfl (Or.inl rfl) (pe_call G_l_bent (hr.mono (by decide)) rfl C_l_bent.m C_l_bent.k C_l_bent.b .nil pass0 (pa_cons (pv 1) (pa_cons (pv 3) pa_nil))))
    (pss_cons (ps_for PassesOwn.never rfl (pi_list (pe_lst (pa_cons (pv 3) (pa_cons (pv 4) (pa_cons (pv 5) (pa_cons (pe_call G_l_bent (hr.mono (by decide)) rfl C_l_bent.m C_l_bent.k C_l_bent.b .nil pass0 (pa_cons (pv 1) (pa_cons (pv 5) pa_nil))) (pa_cons (pe_call G_l_bent (hr.mono (by decide)) rfl C_l_bent.m C_l_bent.k C_l_bent.b .nil pass0 (pa_cons (pv 1) (pa_cons (pv 4) pa_nil))) (pa_cons (pe_call G_l_odd (hr.mono (by decide)) rfl C_l_odd.m C_l_odd.k C_l_odd.b .nil pass0 (pa_cons (pv 1) pa_nil)) pa_nil)))))))) (pg_name (i := 6) sc_law.nd rfl (Or.inl rfl))
      (pss_cons (ps_set (i := 7) sc_law.nd rfl (Or.inl rfl) (pe_callB (call_reprA hS hgd hu65) (by rfl) z_repr (by decide +kernel) (pa_cons (pv 6) pa_nil)))
      (pss_cons (ps_if (PW.pt (pw_or (pt_not (pt_val (pe_call G_l_same (hr.mono (by decide)) rfl C_l_same.m C_l_same.k C_l_same.b .nil pass0 (pa_cons (pe_call G_is_word (hr.mono (by decide)) rfl C_is_word.m C_is_word.k C_is_word.b .nil pass0 (pa_cons (pv 6) pa_nil)) (pa_cons (pe_call G_l_is_word (hr.mono (by decide)) rfl C_l_is_word.m C_l_is_word.k C_l_is_word.b .nil pass0 (pa_cons (pv 6) pa_nil)) pa_nil))))) (pw_or1 (pt_not (pt_val (pe_call G_l_same (hr.mono (by decide)) rfl C_l_same.m C_l_same.k C_l_same.b .nil pass0 (pa_cons (pe_call G_is_row (hr.mono (by decide)) rfl C_is_row.m C_is_row.k C_is_row.b .nil pass0 (pa_cons (pv 6) pa_nil)) (pa_cons (pe_call G_l_is_row (hr.mono (by decide)) rfl C_l_is_row.m C_l_is_row.k C_l_is_row.b .nil pass0 (pa_cons (pv 6) pa_nil)) pa_nil)))))))) (pss_one (ps_ret pe_bl)) pss_nil)
      (pss_one (ps_if (pt_cmpR op_ne (pe_callB (call_reprA hS hgd hu65) (by rfl) z_repr (by decide +kernel) (pa_cons (pv 6) pa_nil)) (pv 7) (nomark _)) (pss_one (ps_ret pe_bl)) pss_nil)))))
    (pss_one (ps_if (PW.pt (pw_or (pt_cmpR op_notBl (pe_call G_is_word (hr.mono (by decide)) rfl C_is_word.m C_is_word.k C_is_word.b .nil pass0 (pa_cons (pv 3) pa_nil)) pe_bl (nomark _)) (pw_or (pt_cmpR op_notBl (pe_call G_is_row (hr.mono (by decide)) rfl C_is_row.m C_is_row.k C_is_row.b .nil pass0 (pa_cons (pv 4) pa_nil)) pe_bl (nomark _)) (pw_or1 (pt_cmpR op_notBl (pe_call G_is_row (hr.mono (by decide)) rfl C_is_row.m C_is_row.k C_is_row.b .nil pass0 (pa_cons (pe_callTy call_lstA (by rfl) z_list (by decide +kernel) (pa_cons (pv 4) pa_nil)) pa_nil)) pe_bl (nomark _)))))) (pss_one (ps_ret pe_bl)) pss_nil))))))
  (pss_one (ps_ret pe_bl)))), read_of h fun ds os QA EA hf => ?_⟩
    obtain ⟨ns, rfl, rfl, hl, q⟩ := hf
    try dsimp only [cxOf, Cx.nox, Cx.wish]
    show W K _ _ _ ⟨[some (.d (.lst (ns.map D.int))), none, none, none, none, none, none, none, none], []⟩
    refine w_seq (w_asgN ?_)
    repeat (walk_at "b")
    refine ⟨ns, rfl, hl, ?_⟩
    dsimp only [List.set_cons_zero, List.set_cons_succ, List.nil_append, List.length_nil]
    refine w_seq (w_for ?_)
    refine iw_rng1 ?_
    repeat (walk_at "b")
    refine cw_min2 ?_
    repeat (walk_at "b")
    rw [List.length_map]
    refine ⟨by split <;> omega, by split <;> omega, ?_⟩
    have h8 : (12 + if (ns.length : Int) < 20 then (ns.length : Int) else 20).toNat ≤ 32 := by split <;> omega
    generalize (12 + if (ns.length : Int) < 20 then (ns.length : Int) else 20).toNat = turns at h8
    refine ⟨fun i S' => ∃ (o2 o3 o4 o5 o6 o7 o8 : Option Sv) (os : Os), S' = ⟨[some (.d (.lst (ns.map D.int))), some (.o 0), o2, o3, o4, o5, o6, o7, o8], os⟩ ∧ Pn 0 ns (300 * i) [.md (pen ns 0 0)] os, ⟨_, _, _, _, _, _, _, _, rfl, 0, 0, rfl, (by show 0 < 1; decide), (by omega), by decide⟩, ?_, ?_⟩
    · rintro i d S' hd ⟨o2, o3, o4, o5, o6, o7, o8, os, rfl, ho⟩
      obtain ⟨hi, rfl⟩ := rngD_get hd
      refine gw_name ?_
      dsimp only [List.set_cons_zero, List.set_cons_succ]
      refine w_seq (w_par ?_)
      repeat (walk_at "b")
      refine ⟨_, _, _, _, rfl, ho, by omega, fun word os1 w1 w2 w3 w4 ho1 => ?_⟩
      refine aw_cons (ew_cb (aw_cons ?_))
      refine ew_lc (wg_name (by decide)) mg_name ?_
      refine iw_rng1 ?_
      repeat (walk_at "b")
      refine ⟨_, _, _, _, _, rfl, ho1, by omega, by omega, fun cnt os2 c0 c1 ho2 => ?_⟩
      repeat (walk_at "b")
      refine ⟨by omega, by omega, fun n acc os3 => ∃ bs : List Int, acc = bs.map D.int ∧ bs.length = n ∧ (∀ b ∈ bs, 0 ≤ b ∧ b < 256) ∧ Pn 0 ns (300 * i + 11 + 2 * n) [.md (pen ns 0 0)] os3, ⟨[], rfl, rfl, fun b hb => (nomatch hb), ho2.mono (by omega)⟩, ?_, ?_⟩
      · rintro n d acc os3 hd ⟨bs, rfl, hbn, hb, ho3⟩
        obtain ⟨hn, rfl⟩ := rngD_get hd
        refine gw_name ?_
        refine tw_yes (br_T ?_)
        show EW K X0 _ ⟨[some (.d (.lst (ns.map D.int))), some (.o 0), some (.d (.int (0 + (i : Int) * 1))), o3, o4, o5, o6, o7, some (.d (.int (0 + (n : Int) * 1)))], _⟩ _
        repeat (walk_at "b")
        refine ⟨_, _, _, _, rfl, ho3.push _, by omega, fun b os4 b0 b1 ho4 => ?_⟩
        obtain ⟨os5, rfl, ho5⟩ := ho4.pop (by show 0 < 1; decide)
        refine ⟨_, _, rfl, rfl, by rw [List.length_map, sizeLine_eq]; omega, bs ++ [b], by rw [List.map_append]; rfl, by rw [List.length_append, hbn]; rfl, fun c hc => ?_, ho5.mono (by omega)⟩
        rcases List.mem_append.mp hc with z | z
        · exact hb c z
        · rw [List.mem_singleton.mp z]
          exact ⟨b0, b1⟩
      · rintro acc os3 ⟨row, rfl, hrn, hrb, ho3⟩
        rw [rngD_len] at hrn ho3
        have hrl : row.length ≤ 8 := by omega
        refine aw_nil (cw_tupL ?_)
        refine aw_nil ⟨_, _, rfl, ?_⟩
        dsimp only [List.set_cons_zero, List.set_cons_succ]
        have r1 : rowB (.tup (row.map D.int)) = true := by
          refine List.all_eq_true.mpr fun y hy => ?_
          obtain ⟨b, hb, rfl⟩ := List.mem_map.mp hy
          have := hrb b hb
          show (decide (0 ≤ b) && decide (b ≤ 255)) = true
          rw [decide_eq_true this.1, decide_eq_true (by omega)]
          rfl
        have r2 : (D.tup (row.map D.int)).fit (10 ^ 30) = true := fits_all.mpr fun y hy => by
          obtain ⟨b, hb, rfl⟩ := List.mem_map.mp hy
          have := hrb b hb
          exact decide_eq_true (by omega)
        have r3 : (D.tup (row.map D.int)).ln ≤ 20000 := by
          have e : ∀ l : List Int, D.lns (l.map D.int) = 1923 * l.length := fun l => by
            induction l with
            | nil => rfl
            | cons a l ih =>
              show 1921 + 2 + D.lns (l.map D.int) = _
              rw [ih, List.length_cons]
              omega
          show D.lns (row.map D.int) + 3 ≤ _
          rw [e]
          omega
        have r4 : (D.tup (row.map D.int)).dpt ≤ 1 := by
          show D.dpts (row.map D.int) + 1 ≤ 1
          have : D.dpts (row.map D.int) ≤ 0 := dpts_le fun y hy => by
            obtain ⟨b, hb, rfl⟩ := List.mem_map.mp hy
            exact Nat.le_refl _
          omega
        generalize hrow : D.tup (row.map D.int) = rowD at r1 r2 r3 r4
        have w2' : word.fit (10 ^ 30) = true := fit_mono (by decide) word w2
        refine w_seq (w_asg ?_)
        repeat (walk_at "b")
        refine ⟨0, word, ns, _, _, 10 ^ 30, rfl, ho3, w2', ⟨Nat.le_refl _, by decide⟩, by omega, by omega, by omega, fun y1 os4 g1 ho4 => ?_, trivial⟩
        try dsimp only [List.set_cons_zero, List.set_cons_succ]
        refine w_seq (w_for ?_)
        refine iw_list ?_
        repeat (walk_at "b")
        have gl1 := g1.l
        have gd1 := g1.d
        refine ⟨0, y1, ns, _, _, 10 ^ 30 + 1, rfl, ho4, g1.f, ⟨by omega, by decide⟩, by omega, by omega, by omega, fun y2 os5 g2 ho5 => ?_, trivial⟩
        repeat (walk_at "b")
        refine ⟨0, rowD, ns, _, _, 10 ^ 30, rfl, ho5, r2, ⟨Nat.le_refl _, by decide⟩, by omega, by omega, by omega, fun y3 os6 g3 ho6 => ?_, trivial⟩
        repeat (walk_at "b")
        refine ⟨0, ns, _, _, rfl, ho6, by omega, fun y4 os7 f4 l4 d4 ho7 => ?_⟩
        have gl2 := g2.l
        have gd2 := g2.d
        have gl3 := g3.l
        have gd3 := g3.d
        have hall : ∀ d ∈ [word, rowD, y1, y2, y3, y4], Gd (10 ^ 31) 300000 20 d := by
          intro d hd
          simp only [List.mem_cons, List.not_mem_nil, or_false] at hd
          rcases hd with rfl | rfl | rfl | rfl | rfl | rfl
          · exact ⟨fit_mono (by decide) _ w2', by omega, by omega⟩
          · exact ⟨fit_mono (by decide) _ r2, by omega, by omega⟩
          · exact g1.up (by decide) (by omega) (by omega)
          · exact g2.up (by decide) (by omega) (by omega)
          · exact g3.up (by decide) (by omega) (by omega)
          · exact ⟨fit_mono (by decide) _ f4, by omega, by omega⟩
        refine aw_nil ⟨[word, rowD, y1, y2, y3, y4], rfl, small_len (by show 6 ≤ _; decide), ?_⟩
        refine ⟨_, rfl, fun n S' => ∃ o6' o7' : Option Sv, S' = ⟨[some (.d (.lst (ns.map D.int))), some (.o 0), some (.d (.int (0 + (i : Int) * 1))), some (.d word), some (.d rowD), some (.d y1), o6', o7', o8], os7⟩, ⟨_, _, rfl⟩, ?_, ?_⟩
        · rintro n thing S' hth ⟨o6', o7', rfl⟩
          have gt := hall thing (List.mem_of_getElem? hth)
          have gtl := gt.l
          have gtd := gt.d
          refine gw_name ?_
          dsimp only [List.set_cons_zero, List.set_cons_succ]
          repeat (walk_at "b")
          refine cw_reprF (by decide : 10 ^ 31 ≤ 10 ^ 40) gt.f (by omega) (by omega) ?_
          try dsimp only [List.set_cons_zero, List.set_cons_succ]
          repeat (walk_at "b")
          refine ⟨thing, 10 ^ 31, rfl, gt.f, by omega, ?_⟩
          repeat (walk_at "b")
          refine ⟨thing, 10 ^ 31, rfl, gt.f, by omega, ?_⟩
          refine aw_nil ⟨_, _, rfl, ?_⟩
          rw [decide_eq_true rfl]
          refine ⟨_, rfl, br_nT ?_⟩
          repeat (walk_at "b")
          refine ⟨thing, 10 ^ 31, rfl, gt.f, by omega, ?_⟩
          repeat (walk_at "b")
          refine ⟨thing, 10 ^ 31, rfl, gt.f, by omega, ?_⟩
          refine aw_nil ⟨_, _, rfl, ?_⟩
          rw [decide_eq_true rfl]
          refine ⟨_, rfl, br_nT ?_⟩
          repeat (walk_at "b")
          refine cw_reprF (by decide : 10 ^ 31 ≤ 10 ^ 40) gt.f (by omega) (by omega) ?_
          repeat (walk_at "b")
          refine bw_neS ⟨_, rfl, ?_⟩
          refine br_iteN (fun h => absurd rfl h) (fun _ => ?_)
          repeat (walk_at "b")
          exact ⟨_, _, rfl⟩
        · rintro S' ⟨o6', o7', rfl⟩
          repeat (walk_at "b")
          refine ⟨word, 10 ^ 30, rfl, w2', by omega, ?_⟩
          repeat (walk_at "b")
          rw [w1]
          refine br_nT ?_
          repeat (walk_at "b")
          refine ⟨rowD, 10 ^ 30, rfl, r2, by omega, ?_⟩
          repeat (walk_at "b")
          rw [r1]
          refine br_nT ?_
          subst hrow
          repeat (walk_at "b")
          refine cw_lstU ?_
          refine aw_nil ⟨.lst (row.map D.int), 10 ^ 30, rfl, r2, (show (D.lst (row.map D.int)).ln ≤ _ from Nat.le_trans r3 (by decide)), ?_⟩
          repeat (walk_at "b")
          refine br_iteN (fun h => absurd rfl h) (fun _ => ?_)
          repeat (walk_at "b")
          exact ⟨_, _, _, _, _, _, _, _, rfl, ho7.mono (by omega)⟩
    · rintro S' ⟨o2, o3, o4, o5, o6, o7, o8, os, rfl, ho⟩
      repeat (walk_at "b")
      exact q _
end

theorem promise_law {K : PySem.W.Frag} {H : Hp} {a : Addr} {ns : List Int} (hl : ns.length ≤ 63) (h : SqL K H a (ns.map V.int)) : spD K fLaw [.ref a] H (fun v _ => v = .bl true) fun _ _ _ => False := by
  refine ⟨[], [], [.d (.lst (ns.map D.int))], fun d _ => d = .bl true, fun _ _ _ => False, ⟨List.nodup_nil, rfl, fun k a ob h _ => by cases h⟩, .cons (Dx.lst ?_ (DxA.ints ns)) .nil, ⟨ns, rfl, rfl, hl, fun _ => rfl⟩, fun v H' d os' g R r e => ?_, fun _ _ _ _ _ _ _ _ _ _ _ z => z.elim⟩
  · rcases h with z | z
    · exact .inl ⟨fun q => (nomatch q), z⟩
    · exact .inr z
  · subst e
    cases r
    rfl
def dq1 : He.DefD := ⟨("is_whole", none), "is_whole", "is_whole", defArgs s_is_whole, defBody s_is_whole, defScope s_is_whole, [], []⟩
def dq2 : He.DefD := ⟨("is_between", none), "is_between", "is_between", defArgs s_is_between, defBody s_is_between, defScope s_is_between, [], []⟩
def dq3 : He.DefD := ⟨("is_tuple_of", none), "is_tuple_of", "is_tuple_of", defArgs s_is_tuple_of, defBody s_is_tuple_of, defScope s_is_tuple_of, [], []⟩
def dq4 : He.DefD := ⟨("is_row", none), "is_row", "is_row", defArgs s_is_row, defBody s_is_row, defScope s_is_row, [], []⟩
def dq5 : He.DefD := ⟨("registers_of", none), "registers_of", "registers_of", defArgs s_registers_of, defBody s_registers_of, defScope s_registers_of, [], []⟩
def dq6 : He.DefD := ⟨("field_of", none), "field_of", "field_of", defArgs s_field_of, defBody s_field_of, defScope s_field_of, [], []⟩
def dq7 : He.DefD := ⟨("is_word", none), "is_word", "is_word", defArgs s_is_word, defBody s_is_word, defScope s_is_word, [], []⟩
def dq8 : He.DefD := ⟨("has_registers", none), "has_registers", "has_registers", defArgs s_has_registers, defBody s_has_registers, defScope s_has_registers, [], []⟩
def dq9 : He.DefD := ⟨("has_number", none), "has_number", "has_number", defArgs s_has_number, defBody s_has_number, defScope s_has_number, [], []⟩
def dq10 : He.DefD := ⟨("_law_feed", none), "_law_feed", "_law_feed", defArgs s_l_feed, defBody s_l_feed, defScope s_l_feed, [], []⟩
def dq11 : He.DefD := ⟨("_law_draw", none), "_law_draw", "_law_draw", defArgs s_l_draw, defBody s_l_draw, defScope s_l_draw, [], []⟩
def dq12 : He.DefD := ⟨("_law_pick", none), "_law_pick", "_law_pick", defArgs s_l_pick, defBody s_l_pick, defScope s_l_pick, [], []⟩
def dq13 : He.DefD := ⟨("_law_table", none), "_law_table", "_law_table", defArgs s_l_table, defBody s_l_table, defScope s_l_table, [], []⟩
def dq14 : He.DefD := ⟨("_law_drawn_word", none), "_law_drawn_word", "_law_drawn_word", defArgs s_l_drawn_word, defBody s_l_drawn_word, defScope s_l_drawn_word, [], []⟩
def dq15 : He.DefD := ⟨("_law_byte", none), "_law_byte", "_law_byte", defArgs s_l_byte, defBody s_l_byte, defScope s_l_byte, [], []⟩
def dq16 : He.DefD := ⟨("_law_odd", none), "_law_odd", "_law_odd", defArgs s_l_odd, defBody s_l_odd, defScope s_l_odd, [], []⟩
def dq17 : He.DefD := ⟨("_law_bent", none), "_law_bent", "_law_bent", defArgs s_l_bent, defBody s_l_bent, defScope s_l_bent, [], []⟩
def dq18 : He.DefD := ⟨("_law_is_whole", none), "_law_is_whole", "_law_is_whole", defArgs s_l_is_whole, defBody s_l_is_whole, defScope s_l_is_whole, [], []⟩
def dq19 : He.DefD := ⟨("_law_is_row", none), "_law_is_row", "_law_is_row", defArgs s_l_is_row, defBody s_l_is_row, defScope s_l_is_row, [], []⟩
def dq20 : He.DefD := ⟨("_law_is_word", none), "_law_is_word", "_law_is_word", defArgs s_l_is_word, defBody s_l_is_word, defScope s_l_is_word, [], []⟩
def dq21 : He.DefD := ⟨("_law_same", none), "_law_same", "_law_same", defArgs s_l_same, defBody s_l_same, defScope s_l_same, [], []⟩
def dq22 : He.DefD := ⟨("law", none), "law", "law", defArgs s_law, defBody s_law, defScope s_law, [], []⟩
def fnq : List He.DefD := [dq1, dq2, dq3, dq4, dq5, dq6, dq7, dq8, dq9, dq10, dq11, dq12, dq13, dq14, dq15, dq16, dq17, dq18, dq19, dq20, dq21, dq22]
def faq : List He.Fa := [.glo "WORDS", .glo "REGISTERS", .glo "FIELDS", .glo "is_whole", .glo "is_between", .glo "is_tuple_of", .glo "is_row", .glo "registers_of", .glo "field_of", .glo "is_word", .glo "has_registers", .glo "has_number", .glo "_law_feed", .glo "_law_draw", .glo "_law_pick", .glo "_law_table", .glo "_law_drawn_word", .glo "_law_byte", .glo "_law_odd", .glo "_law_bent", .glo "_law_is_whole", .glo "_law_is_row", .glo "_law_is_word", .glo "_law_same", .glo "law", .free "isinstance", .free "int", .free "bool", .free "tuple", .free "str", .free "len", .free "list", .free "all", .free "zip", .free "sorted", .free "range", .free "min", .free "repr", .free "abs"]
def tsq : List TabD := [("WORDS", tbW), ("REGISTERS", tbR)]
def nsq : List TabN := [("FIELDS", tbF)]
def looseq : List Str := ["WORDS", "REGISTERS", "FIELDS", "is_whole", "is_between", "is_tuple_of", "is_row", "registers_of", "field_of", "is_word", "has_registers", "has_number", "_law_feed", "_law_draw", "_law_pick", "_law_table", "_law_drawn_word", "_law_byte", "_law_odd", "_law_bent", "_law_is_whole", "_law_is_row", "_law_is_word", "_law_same"]
abbrev Rq : PySem.W.OpenRow := PySem.W.OpenLaw.row PySem.Challenge.rw_byteround_k03_what_is_a_row_or_a_word
abbrev hkq : PySem.W.Hook := hookM 5 faq fnq tsq nsq
def obq (s : PySem.W.SharedT) : AlM := obsMG 5 faq fnq tsq nsq (HandSHeadRun.getT s)
theorem obq_eq (s : PySem.W.SharedT) : obq s = hkq.obs s.abs := obsMG_eq (HandSHeadRun.getT_eq s)

theorem factsq {P : Program} {w : World} {K : PySem.W.Frag} {h : Heap} {mg : Str → Option Value} {fa : Addr} (X : K.In h) (G : h.Ns mainGlobals mg) (hfa : mg ("law" : Str) = some (.ref fa)) (c : SaysM faq fnq tsq nsq w K) :
    ∃ fd : FuncData, (∀ (s : Shared) (v : Value), BindsTo s fd ⟨[v], []⟩ [("_law_script", v)]) ∧ ∀ base : Heap, K.In base → base.Ns mainGlobals mg → FnG P w K mg base 8 fa fd ["_law_script"] (spD K fLaw) := by
  obtain ⟨fd1, D1⟩ := c.d.def_ 0 (d := dq1) rfl
  obtain ⟨fd2, D2⟩ := c.d.def_ 1 (d := dq2) rfl
  obtain ⟨fd3, D3⟩ := c.d.def_ 2 (d := dq3) rfl
  obtain ⟨fd4, D4⟩ := c.d.def_ 3 (d := dq4) rfl
  obtain ⟨fd5, D5⟩ := c.d.def_ 4 (d := dq5) rfl
  obtain ⟨fd6, D6⟩ := c.d.def_ 5 (d := dq6) rfl
  obtain ⟨fd7, D7⟩ := c.d.def_ 6 (d := dq7) rfl
  obtain ⟨fd8, D8⟩ := c.d.def_ 7 (d := dq8) rfl
  obtain ⟨fd9, D9⟩ := c.d.def_ 8 (d := dq9) rfl
  obtain ⟨fd10, D10⟩ := c.d.def_ 9 (d := dq10) rfl
  obtain ⟨fd11, D11⟩ := c.d.def_ 10 (d := dq11) rfl
  obtain ⟨fd12, D12⟩ := c.d.def_ 11 (d := dq12) rfl
  obtain ⟨fd13, D13⟩ := c.d.def_ 12 (d := dq13) rfl
  obtain ⟨fd14, D14⟩ := c.d.def_ 13 (d := dq14) rfl
  obtain ⟨fd15, D15⟩ := c.d.def_ 14 (d := dq15) rfl
  obtain ⟨fd16, D16⟩ := c.d.def_ 15 (d := dq16) rfl
  obtain ⟨fd17, D17⟩ := c.d.def_ 16 (d := dq17) rfl
  obtain ⟨fd18, D18⟩ := c.d.def_ 17 (d := dq18) rfl
  obtain ⟨fd19, D19⟩ := c.d.def_ 18 (d := dq19) rfl
  obtain ⟨fd20, D20⟩ := c.d.def_ 19 (d := dq20) rfl
  obtain ⟨fd21, D21⟩ := c.d.def_ 20 (d := dq21) rfl
  obtain ⟨fd22, D22⟩ := c.d.def_ 21 (d := dq22) rfl
  have m_WORDS := He.glo_ok X G (c.d.fact 0 (f := .glo "WORDS") rfl)
  have m_REGISTERS := He.glo_ok X G (c.d.fact 1 (f := .glo "REGISTERS") rfl)
  have m_FIELDS := He.glo_ok X G (c.d.fact 2 (f := .glo "FIELDS") rfl)
  have m_is_whole := He.glo_ok X G (c.d.fact 3 (f := .glo "is_whole") rfl)
  have m_is_between := He.glo_ok X G (c.d.fact 4 (f := .glo "is_between") rfl)
  have m_is_tuple_of := He.glo_ok X G (c.d.fact 5 (f := .glo "is_tuple_of") rfl)
  have m_is_row := He.glo_ok X G (c.d.fact 6 (f := .glo "is_row") rfl)
  have m_registers_of := He.glo_ok X G (c.d.fact 7 (f := .glo "registers_of") rfl)
  have m_field_of := He.glo_ok X G (c.d.fact 8 (f := .glo "field_of") rfl)
  have m_is_word := He.glo_ok X G (c.d.fact 9 (f := .glo "is_word") rfl)
  have m_has_registers := He.glo_ok X G (c.d.fact 10 (f := .glo "has_registers") rfl)
  have m_has_number := He.glo_ok X G (c.d.fact 11 (f := .glo "has_number") rfl)
  have m__law_feed := He.glo_ok X G (c.d.fact 12 (f := .glo "_law_feed") rfl)
  have m__law_draw := He.glo_ok X G (c.d.fact 13 (f := .glo "_law_draw") rfl)
  have m__law_pick := He.glo_ok X G (c.d.fact 14 (f := .glo "_law_pick") rfl)
  have m__law_table := He.glo_ok X G (c.d.fact 15 (f := .glo "_law_table") rfl)
  have m__law_drawn_word := He.glo_ok X G (c.d.fact 16 (f := .glo "_law_drawn_word") rfl)
  have m__law_byte := He.glo_ok X G (c.d.fact 17 (f := .glo "_law_byte") rfl)
  have m__law_odd := He.glo_ok X G (c.d.fact 18 (f := .glo "_law_odd") rfl)
  have m__law_bent := He.glo_ok X G (c.d.fact 19 (f := .glo "_law_bent") rfl)
  have m__law_is_whole := He.glo_ok X G (c.d.fact 20 (f := .glo "_law_is_whole") rfl)
  have m__law_is_row := He.glo_ok X G (c.d.fact 21 (f := .glo "_law_is_row") rfl)
  have m__law_is_word := He.glo_ok X G (c.d.fact 22 (f := .glo "_law_is_word") rfl)
  have m__law_same := He.glo_ok X G (c.d.fact 23 (f := .glo "_law_same") rfl)
  have m_law := He.glo_ok X G (c.d.fact 24 (f := .glo "law") rfl)
  have y_isinstance := He.free_ok X G (c.d.fact 25 (f := .free "isinstance") rfl)
  have y_int := He.free_ok X G (c.d.fact 26 (f := .free "int") rfl)
  have y_bool := He.free_ok X G (c.d.fact 27 (f := .free "bool") rfl)
  have y_tuple := He.free_ok X G (c.d.fact 28 (f := .free "tuple") rfl)
  have y_str := He.free_ok X G (c.d.fact 29 (f := .free "str") rfl)
  have y_len := He.free_ok X G (c.d.fact 30 (f := .free "len") rfl)
  have y_list := He.free_ok X G (c.d.fact 31 (f := .free "list") rfl)
  have y_all := He.free_ok X G (c.d.fact 32 (f := .free "all") rfl)
  have y_zip := He.free_ok X G (c.d.fact 33 (f := .free "zip") rfl)
  have y_sorted := He.free_ok X G (c.d.fact 34 (f := .free "sorted") rfl)
  have y_range := He.free_ok X G (c.d.fact 35 (f := .free "range") rfl)
  have y_min := He.free_ok X G (c.d.fact 36 (f := .free "min") rfl)
  have y_repr := He.free_ok X G (c.d.fact 37 (f := .free "repr") rfl)
  have y_abs := He.free_ok X G (c.d.fact 38 (f := .free "abs") rfl)
  have e := hfa.symm.trans m_law
  cases e
  have F1 : Fun K "is_whole" "is_whole" s_is_whole (He.ga K "is_whole") fd1 := fun_D D1
  have b1 := F1.binds (ps := ["thing"]) fun _ _ _ _ _ _ us hl => match us, hl with | [_], _ => rfl
  have C1 : Cal K mg "is_whole" (He.ga K "is_whole") fd1 ["thing"] := ⟨m_is_whole, F1.kp, b1⟩
  have F2 : Fun K "is_between" "is_between" s_is_between (He.ga K "is_between") fd2 := fun_D D2
  have b2 := F2.binds (ps := ["thing", "least", "most"]) fun _ _ _ _ _ _ us hl => match us, hl with | [_, _, _], _ => rfl
  have C2 : Cal K mg "is_between" (He.ga K "is_between") fd2 ["thing", "least", "most"] := ⟨m_is_between, F2.kp, b2⟩
  have F3 : Fun K "is_tuple_of" "is_tuple_of" s_is_tuple_of (He.ga K "is_tuple_of") fd3 := fun_D D3
  have b3 := F3.binds (ps := ["thing", "many"]) fun _ _ _ _ _ _ us hl => match us, hl with | [_, _], _ => rfl
  have C3 : Cal K mg "is_tuple_of" (He.ga K "is_tuple_of") fd3 ["thing", "many"] := ⟨m_is_tuple_of, F3.kp, b3⟩
  have F4 : Fun K "is_row" "is_row" s_is_row (He.ga K "is_row") fd4 := fun_D D4
  have b4 := F4.binds (ps := ["thing"]) fun _ _ _ _ _ _ us hl => match us, hl with | [_], _ => rfl
  have C4 : Cal K mg "is_row" (He.ga K "is_row") fd4 ["thing"] := ⟨m_is_row, F4.kp, b4⟩
  have F5 : Fun K "registers_of" "registers_of" s_registers_of (He.ga K "registers_of") fd5 := fun_D D5
  have b5 := F5.binds (ps := ["name"]) fun _ _ _ _ _ _ us hl => match us, hl with | [_], _ => rfl
  have C5 : Cal K mg "registers_of" (He.ga K "registers_of") fd5 ["name"] := ⟨m_registers_of, F5.kp, b5⟩
  have F6 : Fun K "field_of" "field_of" s_field_of (He.ga K "field_of") fd6 := fun_D D6
  have b6 := F6.binds (ps := ["name"]) fun _ _ _ _ _ _ us hl => match us, hl with | [_], _ => rfl
  have C6 : Cal K mg "field_of" (He.ga K "field_of") fd6 ["name"] := ⟨m_field_of, F6.kp, b6⟩
  have F7 : Fun K "is_word" "is_word" s_is_word (He.ga K "is_word") fd7 := fun_D D7
  have b7 := F7.binds (ps := ["thing"]) fun _ _ _ _ _ _ us hl => match us, hl with | [_], _ => rfl
  have C7 : Cal K mg "is_word" (He.ga K "is_word") fd7 ["thing"] := ⟨m_is_word, F7.kp, b7⟩
  have F8 : Fun K "has_registers" "has_registers" s_has_registers (He.ga K "has_registers") fd8 := fun_D D8
  have b8 := F8.binds (ps := ["name", "registers"]) fun _ _ _ _ _ _ us hl => match us, hl with | [_, _], _ => rfl
  have C8 : Cal K mg "has_registers" (He.ga K "has_registers") fd8 ["name", "registers"] := ⟨m_has_registers, F8.kp, b8⟩
  have F9 : Fun K "has_number" "has_number" s_has_number (He.ga K "has_number") fd9 := fun_D D9
  have b9 := F9.binds (ps := ["name", "number"]) fun _ _ _ _ _ _ us hl => match us, hl with | [_, _], _ => rfl
  have C9 : Cal K mg "has_number" (He.ga K "has_number") fd9 ["name", "number"] := ⟨m_has_number, F9.kp, b9⟩
  have F10 : Fun K "_law_feed" "_law_feed" s_l_feed (He.ga K "_law_feed") fd10 := fun_D D10
  have b10 := F10.binds (ps := ["_law_script"]) fun _ _ _ _ _ _ us hl => match us, hl with | [_], _ => rfl
  have C10 : Cal K mg "_law_feed" (He.ga K "_law_feed") fd10 ["_law_script"] := ⟨m__law_feed, F10.kp, b10⟩
  have F11 : Fun K "_law_draw" "_law_draw" s_l_draw (He.ga K "_law_draw") fd11 := fun_D D11
  have b11 := F11.binds (ps := ["_law_pen", "_law_span"]) fun _ _ _ _ _ _ us hl => match us, hl with | [_, _], _ => rfl
  have C11 : Cal K mg "_law_draw" (He.ga K "_law_draw") fd11 ["_law_pen", "_law_span"] := ⟨m__law_draw, F11.kp, b11⟩
  have F12 : Fun K "_law_pick" "_law_pick" s_l_pick (He.ga K "_law_pick") fd12 := fun_D D12
  have b12 := F12.binds (ps := ["_law_pen", "_law_some"]) fun _ _ _ _ _ _ us hl => match us, hl with | [_, _], _ => rfl
  have C12 : Cal K mg "_law_pick" (He.ga K "_law_pick") fd12 ["_law_pen", "_law_some"] := ⟨m__law_pick, F12.kp, b12⟩
  have F13 : Fun K "_law_table" "_law_table" s_l_table (He.ga K "_law_table") fd13 := fun_D D13
  have b13 := F13.binds (ps := []) fun _ _ _ _ _ _ us hl => match us, hl with | [], _ => rfl
  have C13 : Cal K mg "_law_table" (He.ga K "_law_table") fd13 [] := ⟨m__law_table, F13.kp, b13⟩
  have F14 : Fun K "_law_drawn_word" "_law_drawn_word" s_l_drawn_word (He.ga K "_law_drawn_word") fd14 := fun_D D14
  have b14 := F14.binds (ps := ["_law_pen"]) fun _ _ _ _ _ _ us hl => match us, hl with | [_], _ => rfl
  have C14 : Cal K mg "_law_drawn_word" (He.ga K "_law_drawn_word") fd14 ["_law_pen"] := ⟨m__law_drawn_word, F14.kp, b14⟩
  have F15 : Fun K "_law_byte" "_law_byte" s_l_byte (He.ga K "_law_byte") fd15 := fun_D D15
  have b15 := F15.binds (ps := ["_law_pen"]) fun _ _ _ _ _ _ us hl => match us, hl with | [_], _ => rfl
  have C15 : Cal K mg "_law_byte" (He.ga K "_law_byte") fd15 ["_law_pen"] := ⟨m__law_byte, F15.kp, b15⟩
  have F16 : Fun K "_law_odd" "_law_odd" s_l_odd (He.ga K "_law_odd") fd16 := fun_D D16
  have b16 := F16.binds (ps := ["_law_pen"]) fun _ _ _ _ _ _ us hl => match us, hl with | [_], _ => rfl
  have C16 : Cal K mg "_law_odd" (He.ga K "_law_odd") fd16 ["_law_pen"] := ⟨m__law_odd, F16.kp, b16⟩
  have F17 : Fun K "_law_bent" "_law_bent" s_l_bent (He.ga K "_law_bent") fd17 := fun_D D17
  have b17 := F17.binds (ps := ["_law_pen", "_law_thing"]) fun _ _ _ _ _ _ us hl => match us, hl with | [_, _], _ => rfl
  have C17 : Cal K mg "_law_bent" (He.ga K "_law_bent") fd17 ["_law_pen", "_law_thing"] := ⟨m__law_bent, F17.kp, b17⟩
  have F18 : Fun K "_law_is_whole" "_law_is_whole" s_l_is_whole (He.ga K "_law_is_whole") fd18 := fun_D D18
  have b18 := F18.binds (ps := ["_law_thing", "_law_low", "_law_high"]) fun _ _ _ _ _ _ us hl => match us, hl with | [_, _, _], _ => rfl
  have C18 : Cal K mg "_law_is_whole" (He.ga K "_law_is_whole") fd18 ["_law_thing", "_law_low", "_law_high"] := ⟨m__law_is_whole, F18.kp, b18⟩
  have F19 : Fun K "_law_is_row" "_law_is_row" s_l_is_row (He.ga K "_law_is_row") fd19 := fun_D D19
  have b19 := F19.binds (ps := ["_law_thing"]) fun _ _ _ _ _ _ us hl => match us, hl with | [_], _ => rfl
  have C19 : Cal K mg "_law_is_row" (He.ga K "_law_is_row") fd19 ["_law_thing"] := ⟨m__law_is_row, F19.kp, b19⟩
  have F20 : Fun K "_law_is_word" "_law_is_word" s_l_is_word (He.ga K "_law_is_word") fd20 := fun_D D20
  have b20 := F20.binds (ps := ["_law_thing"]) fun _ _ _ _ _ _ us hl => match us, hl with | [_], _ => rfl
  have C20 : Cal K mg "_law_is_word" (He.ga K "_law_is_word") fd20 ["_law_thing"] := ⟨m__law_is_word, F20.kp, b20⟩
  have F21 : Fun K "_law_same" "_law_same" s_l_same (He.ga K "_law_same") fd21 := fun_D D21
  have b21 := F21.binds (ps := ["_law_found", "_law_due"]) fun _ _ _ _ _ _ us hl => match us, hl with | [_, _], _ => rfl
  have C21 : Cal K mg "_law_same" (He.ga K "_law_same") fd21 ["_law_found", "_law_due"] := ⟨m__law_same, F21.kp, b21⟩
  have F22 : Fun K "law" "law" s_law (He.ga K "law") fd22 := fun_D D22
  obtain ⟨eW, nW, DW⟩ := c.tab 0 (t := ("WORDS", tbW)) rfl
  obtain ⟨eR, nR, DR⟩ := c.tab 1 (t := ("REGISTERS", tbR)) rfl
  have DF : NDict K w (He.ga K "FIELDS") tbF := c.nd 0 (t := ("FIELDS", tbF)) rfl
  have oW := c.kd 0 (t := ("WORDS", tbW)) rfl
  have oR := c.kd 1 (t := ("REGISTERS", tbR)) rfl
  have hS : SysOk K := c.sys
  have bL := FunD.bindsA (ps := ["_law_script"]) D22 fun _ _ _ _ _ _ us hl => match us, hl with | [_], _ => rfl
  refine ⟨fd22, fun s v => bL s [v] rfl, fun base _ _ => ?_⟩
  have h1 : FnOk P w K mg base CX0 1 (He.ga K "is_whole") fd1 ["thing"] (spD K fWhole) := ok_is_whole F1 y_isinstance y_int y_bool
  have h2 : FnOk P w K mg base CX0 2 (He.ga K "is_between") fd2 ["thing", "least", "most"] (spD K fBetw) := ok_is_between F2 h1 C1
  have h3 : FnOk P w K mg base CX0 1 (He.ga K "is_tuple_of") fd3 ["thing", "many"] (spD K fTupOf) := ok_is_tuple_of F3 y_isinstance y_tuple y_len
  have h4 : FnOk P w K mg base CX0 3 (He.ga K "is_row") fd4 ["thing"] (spD K fRow) := ok_is_row F4 y_isinstance y_tuple y_all h2 C2
  have h5 : FnOk P w K mg base CX0 1 (He.ga K "registers_of") fd5 ["name"] (spD K fRegs) := ok_registers_of F5 DW m_WORDS oW DR m_REGISTERS oR
  have h6 : FnOk P w K mg base CX0 1 (He.ga K "field_of") fd6 ["name"] (spD K fField) := ok_field_of F6 DW m_WORDS oW DF m_FIELDS
  have h9 : FnOk P w K mg base CX0 3 (He.ga K "has_number") fd9 ["name", "number"] (spD K fHasN) := ok_has_number F9 h6 C6 h2 C2
  have h8 : FnOk P w K mg base CX0 2 (He.ga K "has_registers") fd8 ["name", "registers"] (spD K fHasR) := ok_has_registers F8 y_isinstance y_str y_len y_all y_zip h5 C5
  have h7 : FnOk P w K mg base CX0 4 (He.ga K "is_word") fd7 ["thing"] (spD K fWord) := ok_is_word F7 y_isinstance y_str DW m_WORDS oW h3 C3 h8 C8 h9 C9
  have h10 : FnOk P w K mg base CX0 1 (He.ga K "_law_feed") fd10 ["_law_script"] (spN K fFeed) := ok_l_feed F10
  have h11 : FnOk P w K mg base CX0 1 (He.ga K "_law_draw") fd11 ["_law_pen", "_law_span"] (spD K fDraw) := ok_l_draw F11 y_len y_abs y_range
  have h12 : FnOk P w K mg base CX0 2 (He.ga K "_law_pick") fd12 ["_law_pen", "_law_some"] (spD K fPick) := ok_l_pick F12 y_len h11 C11
  have hPS : FnOk P w K mg base CX0 2 (He.ga K "_law_pick") fd12 ["_law_pen", "_law_some"] (spD K fPickS) := ok_l_pickS F12 y_len h11 C11
  have hPO : FnOk P w K mg base CX0 2 (He.ga K "_law_pick") fd12 ["_law_pen", "_law_some"] (spD K fPickO) := ok_l_pickO F12 y_len h11 C11
  have h13 : FnOk P w K mg base CX0 1 (He.ga K "_law_table") fd13 [] (spD K fTable) := ok_l_table F13
  have h14 : FnOk P w K mg base CX0 3 (He.ga K "_law_drawn_word") fd14 ["_law_pen"] (spD K fDrawn) := ok_l_drawn_word F14 y_sorted y_int h11 C11 h12 C12 hPS h13 C13
  have h15 : FnOk P w K mg base CX0 2 (He.ga K "_law_byte") fd15 ["_law_pen"] (spD K fByte) := ok_l_byte F15 h11 C11
  have h16 : FnOk P w K mg base CX0 3 (He.ga K "_law_odd") fd16 ["_law_pen"] (spD K fOdd) := ok_l_odd F16 h12 C12
  have h17 : FnOk P w K mg base CX0 7 (He.ga K "_law_bent") fd17 ["_law_pen", "_law_thing"] (spD K (fBent 3)) := ok_l_bent F17 y_isinstance y_tuple y_str y_int y_len y_list y_sorted h11 C11 h12 C12 hPO h13 C13 h16 C16 C17 3
  have h18 : FnOk P w K mg base CX0 1 (He.ga K "_law_is_whole") fd18 ["_law_thing", "_law_low", "_law_high"] (spD K fBetw) := ok_l_is_whole F18 y_isinstance y_int y_bool
  have h19 : FnOk P w K mg base CX0 2 (He.ga K "_law_is_row") fd19 ["_law_thing"] (spD K fRow) := ok_l_is_row F19 y_isinstance y_tuple h18 C18
  have h20 : FnOk P w K mg base CX0 2 (He.ga K "_law_is_word") fd20 ["_law_thing"] (spD K fWord) := ok_l_is_word F20 y_isinstance y_tuple y_str y_int y_len y_range h13 C13 h18 C18
  have h21 : FnOk P w K mg base CX0 1 (He.ga K "_law_same") fd21 ["_law_found", "_law_due"] (spD K fSame) := ok_l_same F21 y_isinstance y_bool
  exact ok_law F22 hS y_len y_min y_range y_repr y_tuple y_list h10 C10 h11 C11 h15 C15 h14 C14 h17 C17 h16 C16 h21 C21 h7 C7 h20 C20 h4 C4 h19 C19

end Ma
/-! BrS: small trees run at the top, behind any continuation; a dict with None and texts as keys filled. -/
namespace BrTop
open PySem PySem.W PySem.Calls PyProof.Rows
/-- the place of such a run: the program, the world, the top's own code and frame -/
structure At where
  P : Program
  w : World
  n0 : Nat
  ann : Option Value
  c0 : Code
  B0 : Frame
  hB : splitAtGen [B0] = none
  ok : ∀ (cur : Sem Fin) (pos : Pos), (match cur with
    | .load .. | .rule .. | .at .. => true
    | .update a _ _ _ => Nat.ble n0 a
    | _ => false) = true → stepOk n0 ann ⟨cur, c0, pos, [B0]⟩ = true
variable {A : At}
abbrev TR (A : At) (N : Nat) (s : Shared) (t : Thread) : Option Shared := topRun treeTable A.P A.w A.n0 A.ann N s t
def Goes (A : At) (m : Nat) {α : Type} (x : Sem α) (s : SharedT) (a : α) (s' : SharedT) : Prop :=
  ∀ (K : α → Sem Fin) (H : Value → Sem Fin) (gd : Bool → Bool) (lv : List Value → List Value) (pos : Pos), ∃ pos' : Pos, ∀ (N : Nat) (r : Shared), TR A N s'.abs ⟨K a, A.c0, pos', [A.B0]⟩ = some r →
    TR A (m + N) s.abs ⟨x.wrap K H gd lv, A.c0, pos, [A.B0]⟩ = some r
theorem top_step {N : Nat} {s s1 : SharedT} {t t1 : Thread} {r : Shared} (h : stepT (denote treeTable) A.P A.w s t = some (s1, t1)) (ok : stepOk A.n0 A.ann t = true) (th : through t = false) (k : TR A N s1.abs t1 = some r) : TR A (N + 1) s.abs t = some r := by
  show topRun _ _ _ _ _ (N + 1) _ _ = _
  unfold topRun
  rw [th, ok, stepT_spec h]
  exact k
theorem Goes.pure {α : Type} {a : α} {s : SharedT} : Goes A 0 (Pure.pure a : Sem α) s a s := fun K H gd lv pos => ⟨pos, fun N r h => by rw [Nat.zero_add]; exact h⟩
theorem Goes.more {α : Type} {m m' : Nat} {x : Sem α} {s s' : SharedT} {a : α} (h : Goes A m x s a s') (le : m ≤ m') : Goes A m' x s a s' := fun K H gd lv pos => by
  obtain ⟨p, q⟩ := h K H gd lv pos
  refine ⟨p, fun N r z => ?_⟩
  have y := topRun_mono (m' - m) _ _ _ _ (q N r z)
  rw [show m + N + (m' - m) = m' + N by omega] at y
  exact y
theorem Goes.bind {α β : Type} {x : Sem α} {f : α → Sem β} {s s1 s2 : SharedT} {a : α} {b : β} {m1 m2 : Nat} (hx : Goes A m1 x s a s1) (hf : Goes A m2 (f a) s1 b s2) : Goes A (m1 + m2) (x >>= f) s b s2 := fun K H gd lv pos => by
  obtain ⟨p1, h1⟩ := hx (fun a => (f a).wrap K H gd lv) H gd lv pos
  obtain ⟨p2, h2⟩ := hf K H gd lv p1
  refine ⟨p2, fun N r h => ?_⟩
  have e : (x >>= f).wrap K H gd lv = x.wrap (fun a => (f a).wrap K H gd lv) H gd lv := by
    rw [Sem.bind_eq_wrap', Sem.wrap_wrap]
    rfl
  rw [e, Nat.add_assoc]
  exact h1 _ _ (h2 _ _ h)
theorem Goes.keep {α : Type} {m : Nat} {x : Sem α} {vs : List Value} {s s' : SharedT} {a : α} (hx : Goes A m x s a s') : Goes A m (x.keep vs) s a s' := fun K H gd lv pos => by
  obtain ⟨p, h⟩ := hx K H gd (fun l => lv (vs ++ l)) pos
  refine ⟨p, fun N r q => ?_⟩
  have e : (x.keep vs).wrap K H gd lv = x.wrap K H gd (fun l => lv (vs ++ l)) := by
    rw [Sem.keep_eq_wrap, Sem.wrap_wrap]
    rfl
  rw [e]
  exact h _ _ q
theorem Goes.holding {α : Type} {m : Nat} {x : Sem α} {vs : List Value} {s s' : SharedT} {a : α} (hx : Goes A m x s a s') : Goes A m (PySem.holding vs x) s a s' := by
  unfold PySem.holding
  split
  · exact hx
  · exact hx.keep
theorem Goes.rule {tag : String} {s : SharedT} : Goes A 1 (PySem.rule tag) s () s := fun K H gd lv pos => ⟨pos, fun N r h => by
  rw [Nat.add_comm]
  exact top_step (s1 := s) (by cases s; rfl) (A.ok _ _ rfl) rfl h⟩
theorem Goes.load {a : Addr} {part : Option Value} {s : SharedT} {o : Obj} (lt : Nat.blt a s.n = true) (g : s.tree.get a = some o) (al : alive o = some o) : Goes A 1 (loadPart a part) s o s := fun K H gd lv pos => ⟨pos, fun N r h => by
  rw [Nat.add_comm]
  refine top_step (s1 := s) ?_ (A.ok _ _ rfl) rfl h
  obtain ⟨T, n, life, gens, drawn, toks, os⟩ := s
  show stepT _ _ _ ⟨T, n, life, gens, drawn, toks, os⟩ ⟨.load a part fun x => (Sem.pure x).wrap K H gd lv, _, _, _⟩ = _
  unfold stepT
  dsimp only at lt g ⊢
  rw [lt, g]
  dsimp only
  rw [al]
  rfl⟩
def setT (s : SharedT) (a : Addr) (f : Obj → Obj) : SharedT := { s with tree := s.tree.set a f }
theorem Goes.update {a : Addr} {part : Option Value} {f : Obj → Obj} {s : SharedT} {o : Obj} (lt : Nat.blt a s.n = true) (g : s.tree.get a = some o) (al : alive o = some o) (hn : Nat.ble A.n0 a = true) : Goes A 1 (updatePart a part f) s () (setT s a f) := fun K H gd lv pos => ⟨pos, fun N r h => by
  rw [Nat.add_comm]
  refine top_step (s1 := setT s a f) ?_ (A.ok _ _ hn) rfl h
  obtain ⟨T, n, life, gens, drawn, toks, os⟩ := s
  show stepT _ _ _ ⟨T, n, life, gens, drawn, toks, os⟩ ⟨.update a part f fun x => (Sem.pure x).wrap K H gd lv, _, _, _⟩ = _
  unfold stepT
  dsimp only at lt g ⊢
  rw [lt, g]
  dsimp only
  rw [al]
  rfl⟩
/-- a piece that was run, behind any continuation -/
theorem Goes.of_seg {α : Type} {x : Sem α} {s s' : SharedT} {a : α} {n : Nat} (res : α → Flow) (fl : Flow)
    (hr : ∀ (gd : Bool → Bool) (lv : List Value → List Value) (pos : Pos), ∃ p', segRunT treeTable A.P A.w A.n0 A.ann 1 n s ⟨x.wrap (fun a => .pure (.done (res a))) deadEnd gd lv, A.c0, pos, [A.B0]⟩ = some (fl, s', A.c0, p'))
    (inj : ∀ b, res b = fl → b = a) : Goes A n x s a s' := fun K H gd lv pos => by
  obtain ⟨p', e⟩ := hr gd lv pos
  obtain ⟨b, eb, h⟩ := seg_top (B := [A.B0]) (K' := K) (H' := H) (gd := gd) (lv := lv) (res := res) A.hB n s.abs ⟨x.wrap (fun a => .pure (.done (res a))) deadEnd gd lv, A.c0, pos, [A.B0]⟩ ⟨x.wrap K H gd lv, A.c0, pos, [A.B0]⟩ fl s'.abs A.c0 p' ⟨rfl, rfl, .inl ⟨rfl, rfl, _, rfl, rfl⟩⟩ (segRun_of e)
  rw [inj b eb] at h
  exact ⟨p', h⟩
end BrTop

namespace BrTop
open PySem PySem.W PySem.Calls PyProof.Rows
variable {A : At} {s : SharedT} {d : Addr} {c : Value} {dd : Option Addr} {es : Array DictEntry} {ep : Nat} {sl : Array (Option Value)}
theorem Goes.entries {part : Option Value} (lt : Nat.blt d s.n = true) (g : s.tree.get d = some ⟨c, dd, .dict es ep, sl⟩) : Goes A 1 (dictEntries d part) s es s := by
  show Goes A (1 + 0) _ _ _ _
  unfold dictEntries
  exact Goes.bind (Goes.load lt g rfl) Goes.pure
theorem Goes.epoch {part : Option Value} (lt : Nat.blt d s.n = true) (g : s.tree.get d = some ⟨c, dd, .dict es ep, sl⟩) : Goes A 1 (dictEpoch d part) s ep s := by
  show Goes A (1 + 0) _ _ _ _
  unfold dictEpoch
  exact Goes.bind (Goes.load lt g rfl) Goes.pure
theorem Goes.forIn {β γ : Type} {k : Nat} {b : β} {f : γ → β → Sem (ForInStep β)} {l : List γ} (h : ∀ x ∈ l, Goes A k (f x b) s (.yield b) s) : Goes A (l.length * k) (ForIn.forIn l b f) s b s := by
  induction l with
  | nil => exact Goes.pure.more (Nat.zero_le _)
  | cons x r ih =>
    rw [List.forIn_cons]
    refine (Goes.bind (h x (List.mem_cons_self ..)) (ih fun y hy => h y (List.mem_cons_of_mem _ hy))).more ?_
    rw [List.length_cons, Nat.succ_mul, Nat.add_comm]
    exact Nat.le_refl _
theorem Goes.walk {m : Nat} {key : Value} {h : Int} (lt : Nat.blt d s.n = true) (g : s.tree.get d = some ⟨c, dd, .dict es ep, sl⟩) (ne : ∀ (i : Nat) (en : DictEntry), es[i]? = some en → Goes A m (eqBool en.key key) s false s) (places : List Nat) : Goes A (places.length * (m + 3)) (dictWalkPlain d key h es places) s none s := by
  unfold dictWalkPlain
  show Goes A (places.length * (m + 3) + 0) _ _ _ _
  refine Goes.bind (a := ⟨none, PUnit.unit⟩) (m1 := places.length * (m + 3)) (m2 := 0) (Goes.forIn (k := m + 3) fun i _ => ?_) Goes.pure
  cases e : es[i]? with
  | none => exact Goes.pure.more (Nat.zero_le _)
  | some en =>
    dsimp only
    split
    · refine (Goes.bind (m2 := m + 2) (Goes.epoch lt g) (Goes.bind (m2 := 2) (ne i en e) (Goes.bind (m2 := 1) (Goes.epoch lt g) ?_))).more (by omega)
      rw [show (ep != ep) = false by simp]
      exact Goes.bind (m2 := 0) Goes.rule Goes.pure
    · exact Goes.pure.more (Nat.zero_le _)
theorem Goes.find {m : Nat} {x : Str} {t : Tok} {h : Int} (lt : Nat.blt d s.n = true) (g : s.tree.get d = some ⟨c, dd, .dict es ep, sl⟩) (mixed : (es.all fun e => isExactStrKey e.key) = false) (byv : ∀ e ∈ es, carriedByValue e.key = true)
    (ne : ∀ (i : Nat) (en : DictEntry), es[i]? = some en → Goes A m (eqBool en.key (.str x t)) s false s) : Goes A (1 + es.size * (m + 3)) (dictFind d (.str x t) h) s none s := by
  unfold dictFind
  refine Goes.holding (Goes.bind (Goes.entries lt g) ?_)
  dsimp only
  rw [mixed]
  have e : ∀ places : List Nat, ((Value.str x t :: places.filterMap fun i => es[i]?.map (·.key)).all carriedByValue) = true := by
    intro places
    rw [List.all_eq_true]
    intro v hv
    rcases List.mem_cons.mp hv with rfl | hv
    · rfl
    · obtain ⟨i, _, q⟩ := List.mem_filterMap.mp hv
      cases e1 : es[i]? with
      | none =>
        rw [e1] at q
        cases q
      | some en =>
        rw [e1] at q
        cases q
        exact byv en (Array.mem_of_getElem? e1)
  simp only [Bool.false_eq_true, if_false]
  rw [if_pos (e _)]
  refine (Goes.walk lt g ne _).more (Nat.mul_le_mul_right _ ?_)
  exact Nat.le_trans (List.length_filter_le _ _) (by rw [List.length_range]; exact Nat.le_refl _)
theorem Goes.putKeys {part : Option Value} {f : Array DictEntry → Array DictEntry} (lt : Nat.blt d s.n = true) (g : s.tree.get d = some ⟨c, dd, .dict es ep, sl⟩) (hn : Nat.ble A.n0 d = true) (sz : (f es).size ≤ sizeLine + 1) :
    Goes A 3 (updateDictKeys d f part) s () (setT s d (Obj.mapDictKeys f)) := by
  have g2 : (setT s d (Obj.mapDictKeys f)).tree.get d = some ⟨c, dd, .dict (f es) (ep + 1), sl⟩ := by
    show (s.tree.set d _).get d = _
    rw [BT.get_set, if_pos rfl, g]
    rfl
  unfold updateDictKeys
  refine Goes.bind (m2 := 2) (Goes.load lt g rfl) ?_
  dsimp only
  refine Goes.bind (m2 := 1) (Goes.update lt g rfl hn) ?_
  unfold lookBehind
  refine Goes.bind (m2 := 0) (Goes.load lt g2 rfl) ?_
  dsimp only
  rw [pastItsLine_dict sz]
  exact Goes.pure
def kv (h : Int) (k v : Value) : Obj → Obj := Obj.mapDictKeys (·.push ⟨h, k, v⟩)
theorem Goes.set {m mh : Nat} {x : Str} {t : Tok} {v : Value} {h : Int} {s0 : SharedT} (lt : Nat.blt d s.n = true) (g : s.tree.get d = some ⟨c, dd, .dict es ep, sl⟩) (hn : Nat.ble A.n0 d = true) (sz : es.size ≤ 100) (mixed : (es.all fun e => isExactStrKey e.key) = false) (byv : ∀ e ∈ es, carriedByValue e.key = true)
    (ne : ∀ en ∈ es, Goes A m (eqBool en.key (.str x t)) s false s) (hh : Goes A mh (pyHash (.str x t)) s0 h s) : Goes A (mh + ((1 + es.size * (m + 3)) + 4)) (dictSet d (.str x t) v) s0 () (setT s d (kv h (.str x t) v)) := by
  unfold dictSet
  refine Goes.holding (Goes.bind hh ?_)
  unfold dictSetHashed
  refine Goes.holding (Goes.bind (Goes.find lt g mixed byv fun i en q => ne en (Array.mem_of_getElem? q)) ?_)
  dsimp only
  refine Goes.bind (m2 := 3) Goes.rule (Goes.putKeys lt g hn ?_)
  rw [Array.size_push]
  exact Nat.le_trans (Nat.succ_le_succ sz) (by decide)
theorem Goes.setN {mh : Nat} {v : Value} {h : Int} {s0 : SharedT} (lt : Nat.blt d s.n = true) (g : s.tree.get d = some ⟨c, dd, .dict #[] ep, sl⟩) (hn : Nat.ble A.n0 d = true) (hh : Goes A mh (pyHash .none) s0 h s) : Goes A (mh + 5) (dictSet d .none v) s0 () (setT s d (kv h .none v)) := by
  unfold dictSet
  refine Goes.holding (Goes.bind (m2 := 5) hh ?_)
  unfold dictSetHashed
  refine Goes.holding (Goes.bind (a := none) (m1 := 1) (m2 := 4) (s1 := s) ?_ ?_)
  · unfold dictFind
    exact Goes.holding (Goes.bind (m2 := 0) (Goes.entries lt g) Goes.pure)
  · dsimp only
    exact Goes.bind (m2 := 3) Goes.rule (Goes.putKeys lt g hn (show 1 ≤ sizeLine + 1 from Nat.le_add_left 1 sizeLine))
theorem get_kv {h : Int} {k v : Value} (g : s.tree.get d = some ⟨c, dd, .dict es ep, sl⟩) : (setT s d (kv h k v)).tree.get d = some ⟨c, dd, .dict (es.push ⟨h, k, v⟩) (ep + 1), sl⟩ := by
  show (s.tree.set d _).get d = _
  rw [BT.get_set, if_pos rfl, g]
  rfl
theorem push_all {R : DictEntry → Prop} {e : DictEntry} (h1 : ∀ en ∈ es, R en) (h2 : R e) : ∀ en ∈ es.push e, R en := fun en m => by
  rcases Array.mem_push.mp m with z | z
  · exact h1 en z
  · rw [z]
    exact h2
theorem push_mixed {f : DictEntry → Bool} {e : DictEntry} (h : es.all f = false) : (es.push e).all f = false := by
  rw [Array.all_push, h]
  rfl
end BrTop

namespace BrTop
open PySem PySem.W PySem.Calls PyProof.Rows HandSHeadRun
theorem left_top {p q : Program} {loose : List PySem.Str} {Xt : Shared → Bool} {α : Type} {Yf : Shared → α} {Ya : World → α} {N M : Nat}
    (e : opening p = plainProg p.main.scope.names) (hN : Nat.ble 600 N = true) (f : ∀ s, fenceModules? p s = some s) (le : Nat.ble M N = true)
    (run : ∀ (w : World) (os : OsState), ∃ s : SharedT, topRun treeTable p w (boot_heap w.params).objs.size (bootAnn w) M ⟨boot_heap w.params, #[], boot_drawn, boot_toks, os⟩ (topStub p) = some s.abs ∧
      (looksF p (boot_heap w.params) s.abs, openSeen q loose (importedModules p.main.body) Xt true s.abs, Yf s.abs) = (true, openGood q loose, Ya w)) : LeftO p q loose Xt Yf Ya N true := fun w => by
  obtain ⟨⟨h, gs, d, k, os⟩, a, a'⟩ := Option.map_eq_some_iff.mp (boot_open e hN f w)
  obtain ⟨rfl, rfl, rfl, rfl⟩ : h = boot_heap w.params ∧ gs = Array.mk [] ∧ d = boot_drawn ∧ k = boot_toks := by simpa using a'
  obtain ⟨s, hs, hv⟩ := run w os
  obtain ⟨l1, l2, l3⟩ : _ ∧ _ ∧ _ := by simpa only [Prod.mk.injEq] using hv
  have r := topRun_mono (N - M) _ _ _ _ hs
  rw [show M + (N - M) = N by have := Nat.le_of_ble_eq_true le; omega] at r
  have l1' : (staticsOk (importedModules p.main.body) (boot_heap w.params) s.abs.heap && namesBound p s.abs.heap && gensDone s.abs && laidKept (boot_heap w.params) s.abs.heap) = true := l1
  have t : topFrom treeTable p w N ⟨boot_heap w.params, Array.mk [], boot_drawn, boot_toks, os⟩ = some s.abs := by
    unfold topFrom
    dsimp only
    rw [boot_ns]
    show (topRun treeTable p w (boot_heap w.params).objs.size (bootAnn w) N ⟨boot_heap w.params, #[], boot_drawn, boot_toks, os⟩ (topStub p)).bind _ = _
    rw [r]
    show (match staticsOk (importedModules p.main.body) (boot_heap w.params) s.abs.heap && namesBound p s.abs.heap && gensDone s.abs && laidKept (boot_heap w.params) s.abs.heap with | true => some s.abs | false => none) = _
    rw [l1']
  unfold openEnds
  rw [a]
  show (topFrom treeTable p w N _).map _ = _
  rw [t]
  exact congrArg some (Prod.ext l2 l3)
/-! ### runs of pieces, by any stepper -/
section
variable (st : SharedT → Thread → Option (SharedT × Thread)) (n0 : Nat) (ann : Option Value)
def goK : Nat → SharedT → Thread → Option (SharedT × Thread)
  | 0, s, t => some (s, t)
  | m + 1, s, t => match through t with
    | true => none
    | false => match stepOk n0 ann t with
      | false => none
      | true => match st s t with
        | some (s', t') => goK m s' t'
        | none => none
def segF (b : Nat) : Nat → SharedT → Thread → Option (Flow × SharedT × Code × Pos)
  | 0, _, _ => none
  | n + 1, s, t => match endAt b t with
    | some f => some (f, s, t.code, t.pos)
    | none => match stepOk n0 ann t with
      | false => none
      | true => match st s t with
        | some (s', t') => frS s' fun s' => segF b n s' t'
        | none => none
end
theorem segF_of {tb : String → Option Builtin} {p : Program} {w : World} {n0 : Nat} {ann : Option Value} {b : Nat} : ∀ {n : Nat} {s : SharedT} {t : Thread}, segF (stepT (denote tb) p w) n0 ann b n s t = segRunT tb p w n0 ann b n s t
  | 0, _, _ => rfl
  | n + 1, s, t => by
    unfold segF segRunT
    cases endAt b t with
    | some f => rfl
    | none =>
      cases stepOk n0 ann t with
      | false => rfl
      | true =>
        dsimp only
        cases stepT (denote tb) p w s t with
        | none => rfl
        | some r =>
          obtain ⟨s', t'⟩ := r
          dsimp only
          rw [frS_eq]
          exact segF_of
theorem st_eq {p : Program} {w : World} : stepT (denote treeTable) p w = stepQ (denQ tabQ) p w := by
  rw [← stepQ_eq, ← denQ_eq, ← tabQ_eq]
theorem goK_top {p : Program} {w : World} {n0 : Nat} {ann : Option Value} : ∀ {m N : Nat} {s s' : SharedT} {t t' : Thread} {r : Shared}, goK (stepT (denote treeTable) p w) n0 ann m s t = some (s', t') →
    topRun treeTable p w n0 ann N s'.abs t' = some r → topRun treeTable p w n0 ann (m + N) s.abs t = some r
  | 0, N, s, s', t, t', r, h, k => by
    have e : (s, t) = (s', t') := Option.some.inj h
    cases e
    rw [Nat.zero_add]
    exact k
  | m + 1, N, s, s', t, t', r, h, k => by
    have h1 : (match through t with
      | true => none
      | false => match stepOk n0 ann t with
        | false => none
        | true => match stepT (denote treeTable) p w s t with
          | some (s', t') => goK (stepT (denote treeTable) p w) n0 ann m s' t'
          | none => none) = some (s', t') := h
    rw [show m + 1 + N = (m + N) + 1 by omega]
    unfold topRun
    cases ht : through t with
    | true =>
      rw [ht] at h1
      cases h1
    | false =>
      rw [ht] at h1
      cases hk : stepOk n0 ann t with
      | false =>
        rw [hk] at h1
        cases h1
      | true =>
        rw [hk] at h1
        dsimp only at h1 ⊢
        cases hs : stepT (denote treeTable) p w s t with
        | none =>
          rw [hs] at h1
          cases h1
        | some r2 =>
          obtain ⟨s2, t2⟩ := r2
          rw [hs] at h1
          rw [stepT_spec hs]
          exact goK_top h1 k
/-- what a run leaves -/
def fst3 (d : SharedT) : Option (Flow × SharedT × Code × Pos) → SharedT
  | some (_, s, _, _) => s
  | none => d
theorem fst3_ok {d : SharedT} {o : Option (Flow × SharedT × Code × Pos)} {f : Flow} {c : Code} {p : Pos} (h : o.map (fun r => (r.1, r.2.2.1, r.2.2.2)) = some (f, c, p)) : o = some (f, fst3 d o, c, p) := by
  cases o with
  | none => cases h
  | some r =>
    obtain ⟨f', s, c', p'⟩ := r
    cases h
    rfl
theorem fst3_ex {d : SharedT} {o : Option (Flow × SharedT × Code × Pos)} {f : Flow} {c : Code} (h : o.map (fun r => (r.1, r.2.2.1)) = some (f, c)) : ∃ p, o = some (f, fst3 d o, c, p) := by
  cases o with
  | none => cases h
  | some r =>
    obtain ⟨f', s, c', p'⟩ := r
    cases h
    exact ⟨p', rfl⟩
def fst2 (d : SharedT) : Option (SharedT × Thread) → SharedT
  | some (s, _) => s
  | none => d
theorem fst2_ok {d : SharedT} {o : Option (SharedT × Thread)} {t : Thread} (h : o.map (·.2) = some t) : o = some (fst2 d o, t) := by
  cases o with
  | none => cases h
  | some r =>
    obtain ⟨s, t'⟩ := r
    cases h
    rfl
theorem Goes.stand {A : At} {pos : Pos} {s : SharedT} : Goes A 1 (standAt pos) s () s := fun K H gd lv p => ⟨pos, fun N r h => by
  rw [Nat.add_comm]
  exact top_step (s1 := s) (by cases s; rfl) (A.ok _ _ rfl) rfl h⟩
theorem ok_all {n0 : Nat} {ann : Option Value} {c0 : Code} {B0 : Frame} (cur : Sem Fin) (pos : Pos) (h : (match cur with
    | .load .. | .rule .. | .at .. => true
    | .update a _ _ _ => Nat.ble n0 a
    | _ => false) = true) : stepOk n0 ann ⟨cur, c0, pos, [B0]⟩ = true := by
  cases cur with
  | update a q f k =>
    have h1 : Nat.ble n0 a = true := h
    show (true && (Nat.ble n0 a || a == mainNs || a == cStatics || ann == some (.ref a))) = true
    rw [h1]
    rfl
  | load => rfl
  | rule => rfl
  | «at» => rfl
  | _ => cases h
end BrTop

namespace BrTop
open PySem PySem.W PySem.Calls PyProof.Rows HandSHeadRun
theorem Goes.of_segF {A : At} {α : Type} {x : Sem α} {s s' : SharedT} {a : α} {n : Nat} (res : α → Flow) (fl : Flow)
    (hr : ∀ (gd : Bool → Bool) (lv : List Value → List Value) (pos : Pos), ∃ p', segF (stepQ (denQ tabQ) A.P A.w) A.n0 A.ann 1 n s ⟨x.wrap (fun a => .pure (.done (res a))) deadEnd gd lv, A.c0, pos, [A.B0]⟩ = some (fl, s', A.c0, p'))
    (inj : ∀ b, res b = fl → b = a) : Goes A n x s a s' := Goes.of_seg res fl (fun gd lv pos => by
  obtain ⟨p, h⟩ := hr gd lv pos
  exact ⟨p, by rw [← segF_of, st_eq]; exact h⟩) inj
theorem Goes.alloc {A : At} {o : Obj} {s : SharedT} (h : ((s.tree.ins s.n o).get s.n).isSome = true) : Goes A 1 (PySem.alloc o) s s.n { s with tree := s.tree.ins s.n o, n := s.n + 1 } := fun K H gd lv pos => ⟨pos, fun N r q => by
  rw [Nat.add_comm]
  refine top_step (s1 := { s with tree := s.tree.ins s.n o, n := s.n + 1 }) ?_ rfl rfl q
  obtain ⟨T, n, life, gens, drawn, toks, os⟩ := s
  show stepT _ _ _ ⟨T, n, life, gens, drawn, toks, os⟩ ⟨.alloc o fun x => (Sem.pure x).wrap K H gd lv, _, _, _⟩ = _
  unfold stepT
  dsimp only at h ⊢
  rw [h]
  rfl⟩
abbrev Rq : PySem.W.OpenRow := PySem.W.OpenLaw.row PySem.Challenge.rw_byteround_k03_what_is_a_row_or_a_word
abbrev Pq : Program := Rq.prog
def Bq : List Stmt := behindTheImports Pq
def envq : Env := { scope := Pq.main.scope, locals := mainNs, globals := mainNs, cells := [], code := .ref 13, frame := some 14 }
def c0q : Code := .body Bq envq
def wq (v : World) (b : Bool) : World := v.withFollow "special-get-raises" b
noncomputable def Aq (v : World) (b : Bool) : At := { P := Pq, w := wq v b, n0 := 11, ann := bootAnn (wq v b), c0 := c0q, B0 := topFrame default, hB := rfl, ok := fun cur pos h => ok_all cur pos h }
noncomputable def t0q (w : World) : BT := match putAll (boot_heap w.params).objs.toList .nil 0 with
  | some (t, _) => t
  | none => .nil
noncomputable def s00q (w : World) (os : OsState) : SharedT := bootT w os (t0q w, 11)
theorem put_q (v : World) (b : Bool) : (putAll (boot_heap (wq v b).params).objs.toList .nil 0).map (·.2) = some 11 := by
  cases b <;> kernel_rfl
noncomputable def k0q (v : World) (b : Bool) (os : OsState) : Option (SharedT × Thread) := goK (stepT (denote treeTable) Pq (wq v b)) 11 (bootAnn (wq v b)) 12 (s00q (wq v b) os) (topStub Pq)
theorem head0 (v : World) (b : Bool) (os : OsState) : (k0q v b os).map (·.2) = some ⟨denote treeTable c0q, c0q, default, [topFrame default]⟩ := by
  cases b <;> kernel_rfl
noncomputable def s0q (v : World) (b : Bool) (os : OsState) : SharedT := fst2 (s00q (wq v b) os) (k0q v b os)
noncomputable def stq (v : World) (b : Bool) : SharedT → Thread → Option (SharedT × Thread) := stepQ (denQ tabQ) Pq (wq v b)
noncomputable def k1q (v : World) (b : Bool) (os : OsState) : Option (Flow × SharedT × Code × Pos) := segF (stq v b) 11 (bootAnn (wq v b)) 1 20 (s0q v b os) (blockOf Bq envq c0q default [topFrame default])
theorem head1 (v : World) (b : Bool) (os : OsState) : (k1q v b os).map (fun r => (r.1, r.2.2.1, r.2.2.2)) = some (.next, c0q, default) := by
  cases b <;> kernel_rfl
noncomputable def s1q (v : World) (b : Bool) (os : OsState) : SharedT := fst3 (s0q v b os) (k1q v b os)
noncomputable def k2q (v : World) (b : Bool) (os : OsState) : Option (Flow × SharedT × Code × Pos) := segF (stq v b) 11 (bootAnn (wq v b)) 1 1500 (s1q v b os) (piecesOf (Bq.take 9) envq c0q default [topFrame default])
theorem head2 (v : World) (b : Bool) (os : OsState) : (k2q v b os).map (fun r => (r.1, r.2.2.1)) = some (.next, c0q) := by
  cases b <;> kernel_rfl
noncomputable def s2q (v : World) (b : Bool) (os : OsState) : SharedT := fst3 (s1q v b os) (k2q v b os)
end BrTop

namespace BrTop
open PySem PySem.W PySem.Calls PyProof.Rows HandSHeadRun
def stF : Stmt := Bq.getD 9 (.Pass ⟨0, 0, 0, 0⟩)
def tsq : List Expr := match stF with | .Assign ts _ _ => ts | _ => []
def vdq : Expr := match stF with | .Assign _ v _ => v | _ => default
def posq : Pos := match stF with | .Assign _ _ p => p | _ => default
def ksq : List (Option Expr) := match vdq with | .Dict ks _ _ => ks | _ => []
def vsq : List Expr := match vdq with | .Dict _ vs _ => vs | _ => []
def dposq : Pos := match vdq with | .Dict _ _ p => p | _ => default
theorem stF_eq : stF = .Assign tsq (.Dict ksq vsq dposq) posq := by kernel_rfl
theorem body_eq : Bq = Bq.take 9 ++ (stF :: Bq.drop 10) := by kernel_rfl
noncomputable def pairsq : List (Sem Value × Sem Value) := ((ksq.filterMap id).map fun k => eval k envq).zip ((evalEach vsq envq).map fun v => do let x ← v; standAt dposq; pure x)
theorem pairs_eq : (evalEachOpt ksq envq).zip ((evalEach vsq envq).map fun v => do let x ← v; standAt dposq; pure x) = pairsq.map fun p => (some p.1, p.2) := by kernel_rfl
theorem pairs_len : pairsq.length = 5 := by kernel_rfl
noncomputable def s3q (v : World) (b : Bool) (os : OsState) : SharedT := { s2q v b os with tree := (s2q v b os).tree.ins (s2q v b os).n { cls := .type "dict", data := .dict #[] }, n := (s2q v b os).n + 1 }
def vsqV : List (Value × Value) := [(.none, .ref 92), (.str "byte" 389, .ref 93), (.str "two" 393, .ref 94), (.str "near" 397, .ref 95), (.str "full" 402, .ref 96)]
def resq (y : List (Value × Value)) : Flow := match decide (y = vsqV) with
  | true => .next
  | false => .brk
noncomputable def k3q (v : World) (b : Bool) (os : OsState) (gd : Bool → Bool) (lv : List Value → List Value) (pos : Pos) : Option (Flow × SharedT × Code × Pos) := segF (stq v b) 11 (bootAnn (wq v b)) 1 300 (s3q v b os) ⟨(evalPairs pairsq).wrap (fun y => .pure (.done (resq y))) deadEnd gd lv, c0q, pos, [topFrame default]⟩
noncomputable def s4q (v : World) (b : Bool) (os : OsState) : SharedT := fst3 (s3q v b os) (k3q v b os id id default)
theorem head3 (v : World) (b : Bool) (os : OsState) (gd : Bool → Bool) (lv : List Value → List Value) (pos : Pos) : (k3q v b os gd lv pos).map (fun r => (r.1, r.2.1, r.2.2.1)) = some (.next, s4q v b os, c0q) := by
  cases b <;> kernel_rfl
end BrTop

namespace BrTop
open PySem PySem.W PySem.Calls PyProof.Rows HandSHeadRun
theorem map3 {o : Option (Flow × SharedT × Code × Pos)} {f : Flow} {s : SharedT} {c : Code} (h : o.map (fun r => (r.1, r.2.1, r.2.2.1)) = some (f, s, c)) : ∃ p, o = some (f, s, c, p) := by
  cases o with
  | none => cases h
  | some r =>
    obtain ⟨f', s', c', p'⟩ := r
    cases h
    exact ⟨p', rfl⟩
theorem Goes.of_map {v : World} {b : Bool} {α : Type} {x : Sem α} {s s' : SharedT} {a : α} {n : Nat} (res : α → Flow) (fl : Flow)
    (hr : ∀ (gd : Bool → Bool) (lv : List Value → List Value) (pos : Pos), (segRunT treeTable Pq (wq v b) 11 (bootAnn (wq v b)) 1 n s ⟨x.wrap (fun a => .pure (.done (res a))) deadEnd gd lv, c0q, pos, [topFrame default]⟩).map (fun r => (r.1, r.2.1, r.2.2.1)) = some (fl, s', c0q))
    (inj : ∀ b, res b = fl → b = a) : Goes (Aq v b) n x s a s' := Goes.of_seg (A := Aq v b) res fl (fun gd lv pos => map3 (hr gd lv pos)) inj
def resB (h : Bool) : Flow := match h with
  | true => .brk
  | false => .next
def tk (s : SharedT) : SharedT := { s with toks := s.toks + 1 }
theorem resB_inj (b : Bool) (h : resB b = .next) : b = false := by
  cases b with
  | false => rfl
  | true => cases h
def resH (h : Int) : Flow := .ret (.int h 0)
theorem resH_inj {h : Int} (b : Int) (q : resH b = resH h) : b = h := by
  injection q with q
  injection q
theorem hash_byte (v : World) (b : Bool) (t : Tok) (s : SharedT) : Goes (Aq v b) 40 (pyHash (.str "byte" t)) s (PyData.keyHash (wq v b).params "byte") (tk s) := Goes.of_map resH (resH (PyData.keyHash (wq v b).params "byte")) (fun gd lv pos => by
  obtain ⟨T, n, life, gens, drawn, toks, os⟩ := s
  cases b <;> kernel_rfl) resH_inj
theorem hash_two (v : World) (b : Bool) (t : Tok) (s : SharedT) : Goes (Aq v b) 40 (pyHash (.str "two" t)) s (PyData.keyHash (wq v b).params "two") (tk s) := Goes.of_map resH (resH (PyData.keyHash (wq v b).params "two")) (fun gd lv pos => by
  obtain ⟨T, n, life, gens, drawn, toks, os⟩ := s
  cases b <;> kernel_rfl) resH_inj
theorem hash_near (v : World) (b : Bool) (t : Tok) (s : SharedT) : Goes (Aq v b) 40 (pyHash (.str "near" t)) s (PyData.keyHash (wq v b).params "near") (tk s) := Goes.of_map resH (resH (PyData.keyHash (wq v b).params "near")) (fun gd lv pos => by
  obtain ⟨T, n, life, gens, drawn, toks, os⟩ := s
  cases b <;> kernel_rfl) resH_inj
theorem hash_full (v : World) (b : Bool) (t : Tok) (s : SharedT) : Goes (Aq v b) 40 (pyHash (.str "full" t)) s (PyData.keyHash (wq v b).params "full") (tk s) := Goes.of_map resH (resH (PyData.keyHash (wq v b).params "full")) (fun gd lv pos => by
  obtain ⟨T, n, life, gens, drawn, toks, os⟩ := s
  cases b <;> kernel_rfl) resH_inj
theorem eq_none_byte (v : World) (b : Bool) (t u : Tok) (s : SharedT) : Goes (Aq v b) 400 (eqBool .none (.str "byte" t)) s false s := Goes.of_map resB .next (fun gd lv pos => by
  obtain ⟨T, n, life, gens, drawn, toks, os⟩ := s
  cases b <;> kernel_rfl) resB_inj
theorem eq_none_two (v : World) (b : Bool) (t u : Tok) (s : SharedT) : Goes (Aq v b) 400 (eqBool .none (.str "two" t)) s false s := Goes.of_map resB .next (fun gd lv pos => by
  obtain ⟨T, n, life, gens, drawn, toks, os⟩ := s
  cases b <;> kernel_rfl) resB_inj
theorem eq_none_near (v : World) (b : Bool) (t u : Tok) (s : SharedT) : Goes (Aq v b) 400 (eqBool .none (.str "near" t)) s false s := Goes.of_map resB .next (fun gd lv pos => by
  obtain ⟨T, n, life, gens, drawn, toks, os⟩ := s
  cases b <;> kernel_rfl) resB_inj
theorem eq_none_full (v : World) (b : Bool) (t u : Tok) (s : SharedT) : Goes (Aq v b) 400 (eqBool .none (.str "full" t)) s false s := Goes.of_map resB .next (fun gd lv pos => by
  obtain ⟨T, n, life, gens, drawn, toks, os⟩ := s
  cases b <;> kernel_rfl) resB_inj
theorem eq_byte_two (v : World) (b : Bool) (t u : Tok) (s : SharedT) : Goes (Aq v b) 400 (eqBool (.str "byte" u) (.str "two" t)) s false s := Goes.of_map resB .next (fun gd lv pos => by
  obtain ⟨T, n, life, gens, drawn, toks, os⟩ := s
  cases b <;> kernel_rfl) resB_inj
theorem eq_byte_near (v : World) (b : Bool) (t u : Tok) (s : SharedT) : Goes (Aq v b) 400 (eqBool (.str "byte" u) (.str "near" t)) s false s := Goes.of_map resB .next (fun gd lv pos => by
  obtain ⟨T, n, life, gens, drawn, toks, os⟩ := s
  cases b <;> kernel_rfl) resB_inj
theorem eq_byte_full (v : World) (b : Bool) (t u : Tok) (s : SharedT) : Goes (Aq v b) 400 (eqBool (.str "byte" u) (.str "full" t)) s false s := Goes.of_map resB .next (fun gd lv pos => by
  obtain ⟨T, n, life, gens, drawn, toks, os⟩ := s
  cases b <;> kernel_rfl) resB_inj
theorem eq_two_near (v : World) (b : Bool) (t u : Tok) (s : SharedT) : Goes (Aq v b) 400 (eqBool (.str "two" u) (.str "near" t)) s false s := Goes.of_map resB .next (fun gd lv pos => by
  obtain ⟨T, n, life, gens, drawn, toks, os⟩ := s
  cases b <;> kernel_rfl) resB_inj
theorem eq_two_full (v : World) (b : Bool) (t u : Tok) (s : SharedT) : Goes (Aq v b) 400 (eqBool (.str "two" u) (.str "full" t)) s false s := Goes.of_map resB .next (fun gd lv pos => by
  obtain ⟨T, n, life, gens, drawn, toks, os⟩ := s
  cases b <;> kernel_rfl) resB_inj
theorem eq_near_full (v : World) (b : Bool) (t u : Tok) (s : SharedT) : Goes (Aq v b) 400 (eqBool (.str "near" u) (.str "full" t)) s false s := Goes.of_map resB .next (fun gd lv pos => by
  obtain ⟨T, n, life, gens, drawn, toks, os⟩ := s
  cases b <;> kernel_rfl) resB_inj
theorem hash_none (v : World) (b : Bool) (s : SharedT) : Goes (Aq v b) 40 (pyHash .none) s (reduceHash 0xFCA86420) (tk s) := Goes.of_map resH (resH (reduceHash 0xFCA86420)) (fun gd lv pos => by
  obtain ⟨T, n, life, gens, drawn, toks, os⟩ := s
  cases b <;> kernel_rfl) resH_inj
end BrTop

namespace BrTop
open PySem PySem.W PySem.Calls PyProof.Rows HandSHeadRun
/-! ### the filling -/
noncomputable def hq (v : World) (b : Bool) (x : PySem.Str) : Int := PyData.keyHash (wq v b).params x
noncomputable def s5q (v : World) (b : Bool) (s : SharedT) : SharedT := setT (tk s) 91 (kv (reduceHash 0xFCA86420) .none (.ref 92))
noncomputable def s6q (v : World) (b : Bool) (s : SharedT) : SharedT := setT (tk (s5q v b s)) 91 (kv (hq v b "byte") (.str "byte" 389) (.ref 93))
noncomputable def s7q (v : World) (b : Bool) (s : SharedT) : SharedT := setT (tk (s6q v b s)) 91 (kv (hq v b "two") (.str "two" 393) (.ref 94))
noncomputable def s8q (v : World) (b : Bool) (s : SharedT) : SharedT := setT (tk (s7q v b s)) 91 (kv (hq v b "near") (.str "near" 397) (.ref 95))
noncomputable def s9q (v : World) (b : Bool) (s : SharedT) : SharedT := setT (tk (s8q v b s)) 91 (kv (hq v b "full") (.str "full" 402) (.ref 96))
theorem nil_all {R : DictEntry → Prop} : ∀ en ∈ (#[] : Array DictEntry), R en := fun en m => absurd m (Array.not_mem_empty en)
theorem mix0 {h : Int} {v : Value} : ((#[] : Array DictEntry).push ⟨h, .none, v⟩).all (fun e => isExactStrKey e.key) = false := by
  rw [Array.all_push]
  exact Bool.and_false _
theorem fill (v : World) (b : Bool) {s : SharedT} (l4 : Nat.blt 91 s.n = true) (g4 : s.tree.get 91 = some ⟨.type "dict", none, .dict #[] 0, #[]⟩) : ∃ m, m ≤ 9000 ∧ Goes (Aq v b) m (do for (k, v) in vsqV do dictSet 91 k v) s () (s9q v b s) := by
  have g5 := get_kv (h := reduceHash 0xFCA86420) (k := .none) (v := .ref 92) (s := tk s) g4
  have g6 := get_kv (h := hq v b "byte") (k := .str "byte" 389) (v := .ref 93) (s := tk (s5q v b s)) g5
  have g7 := get_kv (h := hq v b "two") (k := .str "two" 393) (v := .ref 94) (s := tk (s6q v b s)) g6
  have g8 := get_kv (h := hq v b "near") (k := .str "near" 397) (v := .ref 95) (s := tk (s7q v b s)) g7
  have S5 := Goes.setN (A := Aq v b) (v := .ref 92) (s := tk s) l4 g4 rfl (hash_none v b s)
  have S6 := Goes.more (m' := 2000) (Goes.set (A := Aq v b) (m := 400) (x := "byte") (t := 389) (v := .ref 93) (s := tk (s5q v b s)) l4 g5 rfl (by simp [Array.size_push]) mix0 (push_all nil_all rfl) (push_all nil_all (eq_none_byte v b _ 0 _)) (hash_byte v b 389 (s5q v b s))) (by simp [Array.size_push])
  have S7 := Goes.more (m' := 2000) (Goes.set (A := Aq v b) (m := 400) (x := "two") (t := 393) (v := .ref 94) (s := tk (s6q v b s)) l4 g6 rfl (by simp [Array.size_push]) (push_mixed mix0) (push_all (push_all nil_all rfl) rfl) (push_all (push_all nil_all (eq_none_two v b _ 0 _)) (eq_byte_two v b _ _ _)) (hash_two v b 393 (s6q v b s))) (by simp [Array.size_push])
  have S8 := Goes.more (m' := 2000) (Goes.set (A := Aq v b) (m := 400) (x := "near") (t := 397) (v := .ref 95) (s := tk (s7q v b s)) l4 g7 rfl (by simp [Array.size_push]) (push_mixed (push_mixed mix0)) (push_all (push_all (push_all nil_all rfl) rfl) rfl) (push_all (push_all (push_all nil_all (eq_none_near v b _ 0 _)) (eq_byte_near v b _ _ _)) (eq_two_near v b _ _ _)) (hash_near v b 397 (s7q v b s))) (by simp [Array.size_push])
  have S9 := Goes.more (m' := 2000) (Goes.set (A := Aq v b) (m := 400) (x := "full") (t := 402) (v := .ref 96) (s := tk (s8q v b s)) l4 g8 rfl (by simp [Array.size_push]) (push_mixed (push_mixed (push_mixed mix0))) (push_all (push_all (push_all (push_all nil_all rfl) rfl) rfl) rfl) (push_all (push_all (push_all (push_all nil_all (eq_none_full v b _ 0 _)) (eq_byte_full v b _ _ _)) (eq_two_full v b _ _ _)) (eq_near_full v b _ _ _)) (hash_full v b 402 (s8q v b s))) (by simp [Array.size_push])
  refine ⟨((40 + 5) + 0) + ((2000 + 0) + ((2000 + 0) + ((2000 + 0) + ((2000 + 0) + 0)))) + 0, by decide, ?_⟩
  · refine Goes.bind (a := PUnit.unit) (s1 := s9q v b s) (m1 := ((40 + 5) + 0) + ((2000 + 0) + ((2000 + 0) + ((2000 + 0) + ((2000 + 0) + 0))))) (m2 := 0) ?_ Goes.pure
    unfold vsqV
    rw [List.forIn_cons]
    refine Goes.bind (a := ForInStep.yield PUnit.unit) (Goes.bind S5 Goes.pure) ?_
    dsimp only
    rw [List.forIn_cons]
    refine Goes.bind (a := ForInStep.yield PUnit.unit) (Goes.bind S6 Goes.pure) ?_
    dsimp only
    rw [List.forIn_cons]
    refine Goes.bind (a := ForInStep.yield PUnit.unit) (Goes.bind S7 Goes.pure) ?_
    dsimp only
    rw [List.forIn_cons]
    refine Goes.bind (a := ForInStep.yield PUnit.unit) (Goes.bind S8 Goes.pure) ?_
    dsimp only
    rw [List.forIn_cons]
    refine Goes.bind (a := ForInStep.yield PUnit.unit) (Goes.bind S9 Goes.pure) ?_
    exact Goes.pure
end BrTop

namespace BrTop
open PySem PySem.W PySem.Calls PyProof.Rows HandSHeadRun
theorem at2 (v : World) (b : Bool) (os : OsState) : (Nat.beq (s2q v b os).n 91 && (((s2q v b os).tree.ins (s2q v b os).n { cls := .type "dict", data := .dict #[] }).get (s2q v b os).n).isSome) = true := by
  cases b <;> kernel_rfl
theorem at4 (v : World) (b : Bool) (os : OsState) : (Nat.blt 91 (s4q v b os).n, (s4q v b os).tree.get 91) = (true, some ⟨.type "dict", none, .dict #[] 0, #[]⟩) := by
  cases b <;> kernel_rfl
end BrTop

namespace BrTop
open PySem PySem.W PySem.Calls PyProof.Rows HandSHeadRun
theorem Goes.into {A : At} {α β : Type} {m : Nat} {x : Sem α} {f : α → Sem β} {s s1 : SharedT} {a : α} {K : β → Sem Fin} {H : Value → Sem Fin} {gd : Bool → Bool} {lv : List Value → List Value} (hx : Goes A m x s a s1) (pos : Pos) :
    ∃ pos' : Pos, ∀ (N : Nat) (r : Shared), TR A N s1.abs ⟨(f a).wrap K H gd lv, A.c0, pos', [A.B0]⟩ = some r → TR A (m + N) s.abs ⟨(x >>= f).wrap K H gd lv, A.c0, pos, [A.B0]⟩ = some r := by
  obtain ⟨p1, h1⟩ := hx (fun a => (f a).wrap K H gd lv) H gd lv pos
  refine ⟨p1, fun N r h => ?_⟩
  have e : (x >>= f).wrap K H gd lv = x.wrap (fun a => (f a).wrap K H gd lv) H gd lv := by
    rw [Sem.bind_eq_wrap', Sem.wrap_wrap]
    rfl
  rw [e]
  exact h1 _ _ h
theorem Goes.val {A : At} {α : Type} {m : Nat} {x : Sem α} {s s1 : SharedT} {a a' : α} (e : a = a') (h : Goes A m x s a s1) : Goes A m x s a' s1 := e ▸ h
theorem swaps_ok (v : World) (b : Bool) (s : SharedT) : Goes (Aq v b) 60 (swapsWithSole tsq (.Dict ksq vsq dposq) posq.line envq) s false s := Goes.of_map resB .next (fun gd lv pos => by
  obtain ⟨T, n, life, gens, drawn, toks, os⟩ := s
  cases b <;> kernel_rfl) resB_inj
theorem resq_inj (y : List (Value × Value)) (h : resq y = .next) : y = vsqV := by
  unfold resq at h
  cases e : decide (y = vsqV) with
  | true => exact of_decide_eq_true e
  | false =>
    rw [e] at h
    cases h
theorem pairs_ok (v : World) (b : Bool) (os : OsState) : Goes (Aq v b) 300 (evalPairs pairsq) (s3q v b os) vsqV (s4q v b os) := Goes.of_segF (A := Aq v b) resq .next (fun gd lv pos => map3 (head3 v b os gd lv pos)) resq_inj
theorem pairs_ne : pairsq ≠ [] := fun e => by
  have h := pairs_len
  rw [e] at h
  cases h
theorem dict_ok (v : World) (b : Bool) (os : OsState) : ∃ m, m ≤ 10000 ∧ Goes (Aq v b) m (eval (.Dict ksq vsq dposq) envq) (s2q v b os) (.ref 91) (s9q v b (s4q v b os)) := by
  have a4 := at4 v b os
  obtain ⟨l4, g4⟩ := Prod.mk.inj a4
  obtain ⟨mf, lf, hf⟩ := fill v b l4 g4
  obtain ⟨e1, e2⟩ := Bool.and_eq_true_iff.mp (at2 v b os)
  have n91 : (s2q v b os).n = 91 := Nat.eq_of_beq_eq_true e1
  have al : Goes (Aq v b) 1 (PySem.alloc { cls := .type "dict", data := .dict #[] }) (s2q v b os) 91 (s3q v b os) := Goes.val n91 (Goes.alloc e2)
  refine ⟨1 + ((1 + ((300 + mf) + 0)) + 0), by omega, ?_⟩
  rw [arm_eval_Dict, pairs_eq, dictDisplay_pairs pairsq pairs_ne (by rw [pairs_len]; decide)]
  refine Goes.bind (m1 := 1) (m2 := (1 + ((300 + mf) + 0)) + 0) Goes.stand ?_
  refine Goes.bind (a := 91) (s1 := s9q v b (s4q v b os)) (m1 := 1 + ((300 + mf) + 0)) (m2 := 0) ?_ Goes.pure
  unfold subDict
  refine Goes.bind (m1 := 1) (m2 := (300 + mf) + 0) al ?_
  refine Goes.bind (a := PUnit.unit) (s1 := s9q v b (s4q v b os)) (m1 := 300 + mf) (m2 := 0) (Goes.holding ?_) Goes.pure
  rw [if_pos (by rw [pairs_len]; decide)]
  exact Goes.bind (m1 := 300) (m2 := mf) (pairs_ok v b os) (Goes.holding hf)
end BrTop

namespace BrTop
open PySem PySem.W PySem.Calls PyProof.Rows HandSHeadRun
noncomputable def sufq (val : Value) : Sem Flow := do assignStores envq val (← swappedStores tsq (.Dict ksq vsq dposq) envq) ((assignEach tsq envq).map (·.2))
noncomputable def Kq : Flow → Sem Fin := fun f => match f with
  | .next => (execs (Bq.drop 10) envq).wrap doneF (leaveH envq) id id
  | f => doneF f
theorem run_fields (v : World) (b : Bool) (os : OsState) : ∃ m, m ≤ 11000 ∧ ∀ pos : Pos, ∃ pos' : Pos, ∀ (N : Nat) (r : Shared), TR (Aq v b) N (s9q v b (s4q v b os)).abs ⟨(sufq (.ref 91)).wrap Kq (leaveH envq) id id, c0q, pos', [topFrame default]⟩ = some r →
    TR (Aq v b) (m + N) (s2q v b os).abs (restOf (stF :: Bq.drop 10) envq c0q pos [topFrame default]) = some r := by
  obtain ⟨m, le, hd⟩ := dict_ok v b os
  refine ⟨1 + (60 + m), by omega, fun pos => ?_⟩
  obtain ⟨p1, h1⟩ := Goes.into (A := Aq v b) (f := fun _ => (do
    if ← swapsWithSole tsq (.Dict ksq vsq dposq) posq.line envq then do
      evalThenUse (.Dict ksq vsq dposq) envq fun v => assignAll v ((assignEach tsq envq).map (·.2))
      pure .next
    else do
      let v ← eval (.Dict ksq vsq dposq) envq
      assignStores envq v (← swappedStores tsq (.Dict ksq vsq dposq) envq) ((assignEach tsq envq).map (·.2)) : Sem Flow)) (K := Kq) (H := leaveH envq) (gd := id) (lv := id) (Goes.stand (A := Aq v b) (pos := posq) (s := s2q v b os)) pos
  obtain ⟨p2, h2⟩ := Goes.into (A := Aq v b) (f := fun sw => (do
    if sw then do
      evalThenUse (.Dict ksq vsq dposq) envq fun v => assignAll v ((assignEach tsq envq).map (·.2))
      pure .next
    else do
      let v ← eval (.Dict ksq vsq dposq) envq
      assignStores envq v (← swappedStores tsq (.Dict ksq vsq dposq) envq) ((assignEach tsq envq).map (·.2)) : Sem Flow)) (K := Kq) (H := leaveH envq) (gd := id) (lv := id) (swaps_ok v b (s2q v b os)) p1
  obtain ⟨p3, h3⟩ := Goes.into (A := Aq v b) (f := sufq) (K := Kq) (H := leaveH envq) (gd := id) (lv := id) hd p2
  refine ⟨p3, fun N r h => ?_⟩
  have e : restOf (stF :: Bq.drop 10) envq c0q pos [topFrame default] = ⟨(exec stF envq).wrap Kq (leaveH envq) id id, c0q, pos, [topFrame default]⟩ := by
    unfold restOf
    rw [execs_cons_wrap]
    rfl
  rw [e, stF_eq, arm_exec_Assign, Nat.add_assoc, Nat.add_assoc]
  refine h1 _ _ (h2 _ _ ?_)
  exact h3 _ _ h
end BrTop

namespace BrTop
open PySem PySem.W PySem.Calls PyProof.Rows HandSHeadRun
abbrev qvq : Program := PySem.W.view Pq [29]
noncomputable def k9q (v : World) (b : Bool) (os : OsState) (pos : Pos) : Option SharedT := goF (stq v b) 11 (bootAnn (wq v b)) 1500 (s9q v b (s4q v b os)) ⟨(sufq (.ref 91)).wrap Kq (leaveH envq) id id, c0q, pos, [topFrame default]⟩
theorem tailq (v : World) (b : Bool) (os : OsState) (pos : Pos) : (k9q v b os pos).map (fun s => (looksF Pq (boot_heap (wq v b).params) s.abs, seenQ qvq Ma.looseq (importedModules Pq.main.body) (fun s => xlAt qvq [] s && recOk Rq.toRowW.records s) s.abs, Ma.obq s)) = some (true, openGood qvq Ma.looseq, Ma.hkq.val (wq v b)) := by
  cases b <;> kernel_rfl
end BrTop

namespace BrTop
open PySem PySem.W PySem.Calls PyProof.Rows HandSHeadRun
theorem run_b (v : World) (b : Bool) (os : OsState) : ∃ s : SharedT, topRun treeTable Pq (wq v b) (boot_heap (wq v b).params).objs.size (bootAnn (wq v b)) 20000 ⟨boot_heap (wq v b).params, #[], boot_drawn, boot_toks, os⟩ (topStub Pq) = some s.abs ∧
    (looksF Pq (boot_heap (wq v b).params) s.abs, openSeen qvq Ma.looseq (importedModules Pq.main.body) (fun s => xlAt qvq [] s && recOk Rq.toRowW.records s) true s.abs, Ma.hkq.obs s.abs) = (true, openGood qvq Ma.looseq, Ma.hkq.val (wq v b)) := by
  obtain ⟨⟨T, n⟩, eP, eN⟩ := Option.map_eq_some_iff.mp (put_q v b)
  have e11 : n = 11 := eN
  subst e11
  have eh := putAll_heap eP
  have en : (boot_heap (wq v b).params).objs.size = 11 := by
    rw [← eh]
    exact absHeap_size T 11 _
  have eT : t0q (wq v b) = T := by
    unfold t0q
    rw [eP]
  have eb : (s00q (wq v b) os).abs = ⟨boot_heap (wq v b).params, #[], boot_drawn, boot_toks, os⟩ := by
    unfold s00q
    rw [eT]
    show (⟨absHeap T 11 (boot_heap (wq v b).params).life, #[], boot_drawn, boot_toks, os⟩ : Shared) = _
    rw [eh]
  have p0 := fst2_ok (d := s00q (wq v b) os) (head0 v b os)
  have p1 := fst3_ok (d := s0q v b os) (head1 v b os)
  obtain ⟨q2, p2⟩ := fst3_ex (d := s1q v b os) (head2 v b os)
  obtain ⟨m, le, hf⟩ := run_fields v b os
  obtain ⟨q3, h3⟩ := hf q2
  obtain ⟨s, es, ev⟩ := Option.map_eq_some_iff.mp (tailq v b os q3)
  have r3 : topRun treeTable Pq (wq v b) 11 (bootAnn (wq v b)) 1500 (s9q v b (s4q v b os)).abs ⟨(sufq (.ref 91)).wrap Kq (leaveH envq) id id, c0q, q3, [topFrame default]⟩ = some s.abs := by
    refine goF_ok ?_
    rw [st_eq]
    exact es
  have r2 := h3 _ _ r3
  have g2 : segRun treeTable Pq (wq v b) 11 (bootAnn (wq v b)) 1 1500 (s1q v b os).abs (piecesOf (Bq.take 9) envq c0q default [topFrame default]) = some (.next, (s2q v b os).abs, c0q, q2) := segRun_of (by
    rw [← segF_of, st_eq]
    exact p2)
  have r1 := piece_app g2 r2
  rw [← body_eq] at r1
  have g1 : segRun treeTable Pq (wq v b) 11 (bootAnn (wq v b)) 1 20 (s0q v b os).abs (blockOf Bq envq c0q default [topFrame default]) = some (.next, (s1q v b os).abs, c0q, default) := segRun_of (by
    rw [← segF_of, st_eq]
    exact p1)
  have r0 := piece_block g1 r1
  have r := goK_top p0 r0
  rw [eb] at r
  rw [en]
  have y := topRun_mono (20000 - (12 + (20 + (1500 + (m + 1500))))) _ _ _ _ r
  rw [show 12 + (20 + (1500 + (m + 1500))) + (20000 - (12 + (20 + (1500 + (m + 1500))))) = 20000 by omega] at y
  refine ⟨s, y, ?_⟩
  rw [seenQ_eq]
  rw [← Ma.obq_eq]
  exact ev
theorem run_w (w : World) (os : OsState) : ∃ s : SharedT, topRun treeTable Pq w (boot_heap w.params).objs.size (bootAnn w) 20000 ⟨boot_heap w.params, #[], boot_drawn, boot_toks, os⟩ (topStub Pq) = some s.abs ∧
    (looksF Pq (boot_heap w.params) s.abs, openSeen qvq Ma.looseq (importedModules Pq.main.body) (fun s => xlAt qvq [] s && recOk Rq.toRowW.records s) true s.abs, Ma.hkq.obs s.abs) = (true, openGood qvq Ma.looseq, Ma.hkq.val w) :=
  byRow2 "special-get-raises" (P := fun w => ∃ s : SharedT, topRun treeTable Pq w (boot_heap w.params).objs.size (bootAnn w) 20000 ⟨boot_heap w.params, #[], boot_drawn, boot_toks, os⟩ (topStub Pq) = some s.abs ∧
    (looksF Pq (boot_heap w.params) s.abs, openSeen qvq Ma.looseq (importedModules Pq.main.body) (fun s => xlAt qvq [] s && recOk Rq.toRowW.records s) true s.abs, Ma.hkq.obs s.abs) = (true, openGood qvq Ma.looseq, Ma.hkq.val w)) (fun v => run_b v false os) (fun v => run_b v true os) w
/-- the head by such a run -/
theorem head_top {r : OpenRow} {q : Program} {H : Hook} {M : Nat} {loose : List PySem.Str} {d : DefRec} {kwd : List (PySem.Str × PySem.Expr)}
    (e : opening r.prog = plainProg r.prog.main.scope.names) (f : ∀ s, fenceModules? r.prog s = some s)
    (run : ∀ (w : World) (os : OsState), ∃ s : SharedT, topRun treeTable r.prog w (boot_heap w.params).objs.size (bootAnn w) M ⟨boot_heap w.params, #[], boot_drawn, boot_toks, os⟩ (topStub r.prog) = some s.abs ∧
      (looksF r.prog (boot_heap w.params) s.abs, openSeen q loose (importedModules r.prog.main.body) (fun s => xlAt q [] s && recOk r.toRowW.records s) true s.abs, H.obs s.abs) = (true, openGood q loose, H.val w))
    (hdef : defOf q r.name = some (d, kwd)) (hp : r.prog.theDef r.name = some (d.params, d.body, d.scope)) (hk : kwWritten? d.params.kwonlyargs d.params.kw_defaults = some kwd)
    (hwr : (!r.writes || r.records.isEmpty) = true) (k1 : r.wellSaid = true) (ok : (chainsOk q && opensWell r.prog && (frees r.toRowW && r.within.isEmpty)) = true) (hb : r.prog.bare) (hw : r.toRowW.promised)
    (call : WalkO q loose (XL q []) H.says r.toRowW d kwd fun f vs => PySem.call f vs) : r.Holds := by
  have left : LeftO r.prog q loose (fun s => xlAt q [] s && recOk r.toRowW.records s) H.obs H.val (M + 600) true :=
    left_top (M := M) e (Nat.ble_eq_true_of_le (by omega)) f (Nat.ble_eq_true_of_le (by omega)) run
  exact holds_open (r := r) (q := q) (loose := loose) (XP := XL q []) (YP := H.says) (d := d) (kwd := kwd) left H.of H.keeps (fun s z => xl_of s (Bool.and_eq_true_iff.mp z).1) XL.keeps hdef hp hk (fun s z => recFacts_of (Bool.and_eq_true_iff.mp z).2) hwr k1 ok hb hw call
end BrTop

open PySem PySem.W PySem.Calls PyProof.Rows
set_option maxRecDepth 100000 in
set_option maxHeartbeats 0 in
theorem PySem.Challenge.cw_byteround_k03_what_is_a_row_or_a_word_holds : PySem.Challenge.rw_byteround_k03_what_is_a_row_or_a_word.Holds := by
  w_on; o_law
  refine BrTop.head_top (r := OpenLaw.row PySem.Challenge.rw_byteround_k03_what_is_a_row_or_a_word) (q := BrTop.qvq) (H := Ma.hkq) (M := 20000) (loose := Ma.looseq) (d := HandSHeadRun.topDef (OpenLaw.row PySem.Challenge.rw_byteround_k03_what_is_a_row_or_a_word).prog 29) (kwd := [])
    (by kernel_rfl) (fun s => by kernel_rfl) BrTop.run_w (by kernel_rfl) (by kernel_rfl) (by kernel_rfl) (by rfl) (by first | assumption | decide +kernel) (by decide +kernel) ⟨rfl, rfl, rfl, rfl, rfl, by decide +kernel⟩ ?hw ?hc
  case hw => w_witness2
  case hc =>
    refine Br.walkGE (l := PySem.Challenge.rw_byteround_k03_what_is_a_row_or_a_word) (n := 63) (k := 8) (x := "_law_script") rfl (by decide) (by kernel_rfl) ⟨rfl, by decide, by decide⟩ ?F
    intro w mg fa h Y G hmg0
    obtain ⟨K, KX, c⟩ := Y
    have hmg : mg ("law" : PySem.Str) = some (.ref fa) := by
      have e : (HandSHeadRun.topDef (OpenLaw.row PySem.Challenge.rw_byteround_k03_what_is_a_row_or_a_word).prog 29).name = ("law" : PySem.Str) := by kernel_rfl
      rw [← e]
      exact hmg0
    obtain ⟨fd, hb, hF⟩ := Ma.factsq (P := (PySem.Challenge.rw_byteround_k03_what_is_a_row_or_a_word).prog) (w := w) KX G hmg c
    exact ⟨K, fd, Br.spD K Ma.fLaw, KX, hb, fun H a ns hl hS => Ma.promise_law hl hS, hF⟩
