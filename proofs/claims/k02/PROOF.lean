import PyProof.Rows.All
import Wide.All
import OpenK.AllK
import Wide.FinOn
import HandS.ForMost
import HandS.Exc
import HandS.ExcOwn
import HandS.WordsExc
import HandS.Evl
import HandS.Lambda
import HandS.Wide
import HandS.IsInst
import HandS.Replace
import HandS.RaiseMore
import HandS.Steps
import KE.KEqSeq
import HandS.ExcInit
import KE.KExcIs
import HandS.ExcValue
import HandS.ExcField
import HandS.ExcIs
import HandS.Rev
import HandS.More
import HandS.TupAny
import HandS.Zip
import KE.GoesMore
import KE.GoesZip
import HandS.NoneIn
import HandS.Ends
import PyProof.ReprRoads
import KE.KxField
import HandS.FStr
import HandS.Style
import HandS.Text
import HandS.Codes
import PyProof.CallFns
import PyProof.CallStr
import PyProof.EqKinds
import PyProof.NeKinds
import PyProof.Rows.EqBoolInt
import PyProof.Rows.IntBool
import PyProof.Rows.ReprOcc
import PyProof.StrLawsRepr
import HandS.TupMul
import KE.GoesEnumKw
import HandS.Defaults
import HandS.MakeKwOnly
import PyProof.InstNe
import KE.KExcInit
import HandS.TryOnly
import PyProof.InstSpecial
import HandS.WideBits
import HandS.CallSlots
import HandS.DictComp
import KE.KTupSum
import HandS.NestedK
import KE.KNestM
import HandS.EndBits
import PySem.Challenge.RW_byteround_k02_numbers_as_bytes
import PyProof.P3Eq
set_option Elab.async false
set_option linter.all false
set_option maxRecDepth 100000
set_option maxHeartbeats 4000000
/-! BrA: a def read over plain data and a small store of the things that change. -/
namespace Br
open PySem L2

/-! ### data -/
inductive D where
  | non | bl (b : Bool) | int (i : Int) | str (x : Str) | lst (xs : List D) | tup (xs : List D) | dk (kvs : List (Key × D)) | ob (C : Addr) (fs : List (Str × D)) | xo (C : Addr) (fs : List (Str × D))

/-- all that H has and that isn't at as stays -/
def Go (as : List Addr) (H H' : Hp) : Prop := ∀ a o, H a = some o → a ∉ as → H' a = some o
theorem Go.refl (as : List Addr) (H : Hp) : Go as H H := fun _ _ h _ => h
theorem Go.trans {as : List Addr} {H H1 H2 : Hp} (x : Go as H H1) (y : Go as H1 H2) : Go as H H2 := fun a o h n => y a o (x a o h n) n
theorem Go.new {as : List Addr} {H : Hp} {p : Addr} {o : HO} (h : H p = none) : Go as H (upd H p o) := fun a u e _ => by
  rw [upd_ne (ne_of_none e h)]
  exact e
theorem Go.at {as : List Addr} {H : Hp} {p : Addr} {o : HO} (h : p ∈ as) : Go as H (upd H p o) := fun a u e n => by
  have hne : a ≠ p := fun z => n (z ▸ h)
  rw [upd_ne hne]
  exact e
theorem Go.free {as : List Addr} {H H' : Hp} (g : Go as H H') {a : Addr} (n : a ∉ as) (h : H' a = none) : H a = none := by
  cases e : H a with
  | none => rfl
  | some o =>
    rw [g a o e n] at h
    cases h

/-- written lists, tuples -/
def WrL (K : PySem.W.Frag) (a : Addr) (xs : List V) : Prop :=
  ∃ (o : Obj) (its : Array Value) (n : Nat), K.lookup a = some o ∧ o.cls = .type "list" ∧ o.dict = none ∧ o.data = .seq its n ∧ its.size ≤ sizeLine ∧ Vals xs its.toList
def WrT (K : PySem.W.Frag) (a : Addr) (xs : List V) : Prop :=
  ∃ (o : Obj) (its : Array Value) (n : Nat), K.lookup a = some o ∧ o.cls = .type "tuple" ∧ o.data = .seq its n ∧ its.size ≤ sizeLine ∧ Vals xs its.toList
def QL (K : PySem.W.Frag) (as : List Addr) (H : Hp) (a : Addr) (xs : List V) : Prop := (a ∉ as ∧ Rd H a (.lst xs)) ∨ WrL K a xs
def QT (K : PySem.W.Frag) (as : List Addr) (H : Hp) (a : Addr) (xs : List V) : Prop := (a ∉ as ∧ Rd H a (.tup xs)) ∨ WrT K a xs
theorem QL.sq {K : PySem.W.Frag} {as : List Addr} {H : Hp} {a : Addr} {xs : List V} (h : QL K as H a xs) : SqL K H a xs := by
  rcases h with ⟨_, h⟩ | h
  · exact .inl h
  · exact .inr h
theorem QT.sq {K : PySem.W.Frag} {as : List Addr} {H : Hp} {a : Addr} {xs : List V} (h : QT K as H a xs) : SqT K H a xs := by
  rcases h with ⟨_, h⟩ | h
  · exact .inl h
  · exact .inr h
theorem rd_go {as : List Addr} {H H' : Hp} (g : Go as H H') {a : Addr} {u : HO} (n : a ∉ as) (h : Rd H a u) : Rd H' a u := by
  rcases h with h | ⟨o, h⟩
  · exact .inl (g a _ h n)
  · exact .inr ⟨o, g a _ h n⟩
theorem QL.go {K : PySem.W.Frag} {as : List Addr} {H H' : Hp} (g : Go as H H') {a : Addr} {xs : List V} (h : QL K as H a xs) : QL K as H' a xs := by
  rcases h with ⟨n, h⟩ | h
  · exact .inl ⟨n, rd_go g n h⟩
  · exact .inr h
theorem QT.go {K : PySem.W.Frag} {as : List Addr} {H H' : Hp} (g : Go as H H') {a : Addr} {xs : List V} (h : QT K as H a xs) : QT K as H' a xs := by
  rcases h with ⟨n, h⟩ | h
  · exact .inl ⟨n, rd_go g n h⟩
  · exact .inr h
/-- fewer things that change -/
theorem QL.sub {K : PySem.W.Frag} {as bs : List Addr} {H : Hp} {a : Addr} {xs : List V} (s : ∀ x ∈ bs, x ∈ as) (h : QL K as H a xs) : QL K bs H a xs := by
  rcases h with ⟨n, h⟩ | h
  · exact .inl ⟨fun z => n (s _ z), h⟩
  · exact .inr h
theorem QT.sub {K : PySem.W.Frag} {as bs : List Addr} {H : Hp} {a : Addr} {xs : List V} (s : ∀ x ∈ bs, x ∈ as) (h : QT K as H a xs) : QT K bs H a xs := by
  rcases h with ⟨n, h⟩ | h
  · exact .inl ⟨fun z => n (s _ z), h⟩
  · exact .inr h
theorem rd_some {H : Hp} {a : Addr} {u : HO} (h : Rd H a u) : H a ≠ none := by
  rcases h with h | ⟨o, h⟩ <;> rw [h] <;> intro z <;> cases z
/-- a new thing that changes -/
theorem QL.add {K : PySem.W.Frag} {as : List Addr} {H : Hp} {a p : Addr} {xs : List V} (hp : H p = none) (h : QL K as H a xs) : QL K (as ++ [p]) H a xs := by
  rcases h with ⟨n, h⟩ | h
  · refine .inl ⟨fun z => ?_, h⟩
    rcases List.mem_append.mp z with z | z
    · exact n z
    · rw [List.mem_singleton.mp z] at h
      exact rd_some h hp
  · exact .inr h
theorem QT.add {K : PySem.W.Frag} {as : List Addr} {H : Hp} {a p : Addr} {xs : List V} (hp : H p = none) (h : QT K as H a xs) : QT K (as ++ [p]) H a xs := by
  rcases h with ⟨n, h⟩ | h
  · refine .inl ⟨fun z => ?_, h⟩
    rcases List.mem_append.mp z with z | z
    · exact n z
    · rw [List.mem_singleton.mp z] at h
      exact rd_some h hp
  · exact .inr h

/-- an exception that was caught and kept -/
def Exk (C dd a : Addr) : HO := .ext fun h => ∃ (oe : Obj) (vs : Array Value), h.get? a = some oe ∧ Zc (.ref C) (some dd) oe ∧ oe.data = .fields vs

mutual
inductive Dx (K : PySem.W.Frag) (as : List Addr) (H : Hp) : V → D → Prop
  | non : Dx K as H .non .non
  | bl (b : Bool) : Dx K as H (.bl b) (.bl b)
  | int (i : Int) : Dx K as H (.int i) (.int i)
  | str (x : Str) : Dx K as H (.str x) (.str x)
  | lst {a : Addr} {xs : List V} {ds : List D} : QL K as H a xs → DxA K as H xs ds → Dx K as H (.ref a) (.lst ds)
  | tup {a : Addr} {xs : List V} {ds : List D} : QT K as H a xs → DxA K as H xs ds → Dx K as H (.ref a) (.tup ds)
  | dk {a : Addr} {kvs : List (Key × V)} {kds : List (Key × D)} : a ∉ as → Rd H a (.dK kvs) → DxP K as H kvs kds → Dx K as H (.ref a) (.dk kds)
  | ob {a C dx : Addr} {fs : List (Str × V)} {fds : List (Str × D)} : a ∉ as → dx ∉ as → H a = some (.ins C dx fs) → H dx = some (.own a) → DxF K as H fs fds → Dx K as H (.ref a) (.ob C fds)
  | xo {a C dd : Addr} {fs : List (Str × V)} {fds : List (Str × D)} : a ∉ as → dd ∉ as → H a = some (Exk C dd a) → H dd = some (.xd fs) → DxF K as H fs fds → Dx K as H (.ref a) (.xo C fds)
inductive DxA (K : PySem.W.Frag) (as : List Addr) (H : Hp) : List V → List D → Prop
  | nil : DxA K as H [] []
  | cons {v : V} {vs : List V} {d : D} {ds : List D} : Dx K as H v d → DxA K as H vs ds → DxA K as H (v :: vs) (d :: ds)
inductive DxP (K : PySem.W.Frag) (as : List Addr) (H : Hp) : List (Key × V) → List (Key × D) → Prop
  | nil : DxP K as H [] []
  | cons {k : Key} {v : V} {vs : List (Key × V)} {d : D} {ds : List (Key × D)} : Dx K as H v d → DxP K as H vs ds → DxP K as H ((k, v) :: vs) ((k, d) :: ds)
inductive DxF (K : PySem.W.Frag) (as : List Addr) (H : Hp) : List (Str × V) → List (Str × D) → Prop
  | nil : DxF K as H [] []
  | cons {k : Str} {v : V} {vs : List (Str × V)} {d : D} {ds : List (Str × D)} : Dx K as H v d → DxF K as H vs ds → DxF K as H ((k, v) :: vs) ((k, d) :: ds)
end
section
variable {K : PySem.W.Frag} {as bs : List Addr} {H H' : Hp}
/-- what a reading leans on may be read elsewhere -/
structure Way (K : PySem.W.Frag) (as bs : List Addr) (H H' : Hp) : Prop where
  l : ∀ a xs, QL K as H a xs → QL K bs H' a xs
  t : ∀ a xs, QT K as H a xs → QT K bs H' a xs
  r : ∀ a u, a ∉ as → Rd H a u → a ∉ bs ∧ Rd H' a u
  o : ∀ a u, a ∉ as → H a = some u → a ∉ bs ∧ H' a = some u
mutual
theorem Dx.way (w : Way K as bs H H') : ∀ {v : V} {d : D}, Dx K as H v d → Dx K bs H' v d
  | _, _, .non => .non
  | _, _, .bl b => .bl b
  | _, _, .int i => .int i
  | _, _, .str x => .str x
  | _, _, .lst h r => .lst (w.l _ _ h) (DxA.way w r)
  | _, _, .tup h r => .tup (w.t _ _ h) (DxA.way w r)
  | _, _, .dk n h r => .dk (w.r _ _ n h).1 (w.r _ _ n h).2 (DxP.way w r)
  | _, _, .ob n n2 h h2 r => .ob (w.o _ _ n h).1 (w.o _ _ n2 h2).1 (w.o _ _ n h).2 (w.o _ _ n2 h2).2 (DxF.way w r)
  | _, _, .xo n n2 h h2 r => .xo (w.o _ _ n h).1 (w.o _ _ n2 h2).1 (w.o _ _ n h).2 (w.o _ _ n2 h2).2 (DxF.way w r)
theorem DxA.way (w : Way K as bs H H') : ∀ {v : List V} {d : List D}, DxA K as H v d → DxA K bs H' v d
  | _, _, .nil => .nil
  | _, _, .cons h r => .cons (Dx.way w h) (DxA.way w r)
theorem DxP.way (w : Way K as bs H H') : ∀ {v : List (Key × V)} {d : List (Key × D)}, DxP K as H v d → DxP K bs H' v d
  | _, _, .nil => .nil
  | _, _, .cons h r => .cons (Dx.way w h) (DxP.way w r)
theorem DxF.way (w : Way K as bs H H') : ∀ {v : List (Str × V)} {d : List (Str × D)}, DxF K as H v d → DxF K bs H' v d
  | _, _, .nil => .nil
  | _, _, .cons h r => .cons (Dx.way w h) (DxF.way w r)
end
theorem Way.of_go (g : Go as H H') : Way K as as H H' := ⟨fun _ _ h => h.go g, fun _ _ h => h.go g, fun _ _ n h => ⟨n, rd_go g n h⟩, fun a u n h => ⟨n, g a u h n⟩⟩
theorem Way.of_sub (s : ∀ x ∈ bs, x ∈ as) : Way K as bs H H := ⟨fun _ _ h => h.sub s, fun _ _ h => h.sub s, fun _ _ n h => ⟨fun z => n (s _ z), h⟩, fun _ _ n h => ⟨fun z => n (s _ z), h⟩⟩
theorem Way.of_add {p : Addr} (hp : H p = none) : Way K as (as ++ [p]) H H :=
  ⟨fun _ _ h => h.add hp, fun _ _ h => h.add hp, fun a u n h => ⟨fun z => by
      rcases List.mem_append.mp z with z | z
      · exact n z
      · rw [List.mem_singleton.mp z] at h
        exact rd_some h hp, h⟩,
    fun a u n h => ⟨fun z => by
      rcases List.mem_append.mp z with z | z
      · exact n z
      · rw [List.mem_singleton.mp z, hp] at h
        exact (nomatch h), h⟩⟩
theorem DxA.length : ∀ {v : List V} {d : List D}, DxA K as H v d → v.length = d.length
  | _, _, .nil => rfl
  | _, _, .cons _ r => by rw [List.length_cons, List.length_cons, DxA.length r]
theorem DxA.get : ∀ {v : List V} {d : List D} {i : Nat} {x : D}, DxA K as H v d → d[i]? = some x → ∃ u, v[i]? = some u ∧ Dx K as H u x
  | _, _, _, _, .nil, e => by simp at e
  | _, _, 0, _, .cons h _, e => by simp at e; subst e; exact ⟨_, rfl, h⟩
  | _, _, i + 1, x, .cons _ r, e => by
    obtain ⟨u, h1, h2⟩ := DxA.get (i := i) (x := x) r (by simpa using e)
    exact ⟨u, by simpa using h1, h2⟩
theorem DxA.getV : ∀ {v : List V} {d : List D} {i : Nat} {u : V}, DxA K as H v d → v[i]? = some u → ∃ x, d[i]? = some x ∧ Dx K as H u x
  | _, _, _, _, .nil, e => by simp at e
  | _, _, 0, _, .cons h _, e => by simp at e; subst e; exact ⟨_, rfl, h⟩
  | _, _, i + 1, u, .cons _ r, e => by
    obtain ⟨x, h1, h2⟩ := DxA.getV (i := i) (u := u) r (by simpa using e)
    exact ⟨x, by simpa using h1, h2⟩
theorem DxA.app : ∀ {v w : List V} {d e : List D}, DxA K as H v d → DxA K as H w e → DxA K as H (v ++ w) (d ++ e)
  | _, _, _, _, .nil, s => s
  | _, _, _, _, .cons h r, s => .cons h (DxA.app r s)
theorem DxA.drop : ∀ {v : List V} {d : List D} (n : Nat), DxA K as H v d → DxA K as H (v.drop n) (d.drop n)
  | _, _, 0, h => h
  | _, _, _ + 1, .nil => .nil
  | _, _, n + 1, .cons _ r => DxA.drop n r
theorem DxA.take : ∀ {v : List V} {d : List D} (n : Nat), DxA K as H v d → DxA K as H (v.take n) (d.take n)
  | _, _, 0, _ => .nil
  | _, _, _ + 1, .nil => .nil
  | _, _, n + 1, .cons h r => .cons h (DxA.take n r)
theorem DxA.rev : ∀ {v : List V} {d : List D}, DxA K as H v d → DxA K as H v.reverse d.reverse
  | _, _, .nil => .nil
  | _, _, .cons h r => by
    rw [List.reverse_cons, List.reverse_cons]
    exact DxA.app (DxA.rev r) (.cons h .nil)
theorem DxA.set {u : V} {x : D} (h : Dx K as H u x) : ∀ {v : List V} {d : List D} (i : Nat), DxA K as H v d → DxA K as H (v.set i u) (d.set i x)
  | _, _, _, .nil => .nil
  | _, _, 0, .cons _ r => .cons h r
  | _, _, i + 1, .cons q r => .cons q (DxA.set h i r)
/-- numbers, texts, truths -/
theorem DxA.ints : ∀ (ns : List Int), DxA K as H (ns.map V.int) (ns.map D.int)
  | [] => .nil
  | n :: r => .cons (.int n) (DxA.ints r)
theorem DxA.of_ints : ∀ {v : List V} {ns : List Int}, DxA K as H v (ns.map D.int) → v = ns.map V.int
  | [], [], _ => rfl
  | [], _ :: _, h => nomatch h
  | _ :: _, [], h => nomatch h
  | _ :: _, n :: r, .cons h t => by
    cases h
    rw [DxA.of_ints t]
    rfl
theorem DxA.of_strs : ∀ {v : List V} {ns : List Str}, DxA K as H v (ns.map D.str) → v = ns.map V.str
  | [], [], _ => rfl
  | [], _ :: _, h => nomatch h
  | _ :: _, [], h => nomatch h
  | _ :: _, n :: r, .cons h t => by
    cases h
    rw [DxA.of_strs t]
    rfl
theorem DxA.of_bls : ∀ {v : List V} {ns : List Bool}, DxA K as H v (ns.map D.bl) → v = ns.map V.bl
  | [], [], _ => rfl
  | [], _ :: _, h => nomatch h
  | _ :: _, [], h => nomatch h
  | _ :: _, n :: r, .cons h t => by
    cases h
    rw [DxA.of_bls t]
    rfl
end

/-! ### the store: what changes -/
inductive Ob where
  | ml (xs : List D) | md (kvs : List (Key × D)) | mi (C : Addr) (fs : List (Str × D)) | tb (P : Addr) (q : Str)
def ObR (K : PySem.W.Frag) (as : List Addr) (H : Hp) (a : Addr) : Ob → Prop
  | .ml xs => ∃ vs, H a = some (.lst vs) ∧ DxA K as H vs xs
  | .md kds => ∃ kvs, H a = some (.dK kvs) ∧ DxP K as H kvs kds
  | .mi C fds => ∃ dx fs, H a = some (.ins C dx fs) ∧ dx ∉ as ∧ H dx = some (.own a) ∧ DxF K as H fs fds
  | .tb P q => ∃ ps : Array Value, H a = some (.tbl ps) ∧ a = P ∧ TriplesOk ps.toList ∧ ∀ (pos : Pos) (cv : Value), codeAmong pos ps.toList = some cv → ∃ c, cv = .ref c ∧ c ∉ as ∧ H c = some (LamX.CodeO c q)
theorem ObR.way {K : PySem.W.Frag} {as bs : List Addr} {H H' : Hp} {a : Addr} {o : Ob} (w : Way K as bs H H') (e : ∀ u, H a = some u → H' a = some u) (h : ObR K as H a o) : ObR K bs H' a o := by
  cases o with
  | ml xs =>
    obtain ⟨vs, h1, h2⟩ := h
    exact ⟨vs, e _ h1, h2.way w⟩
  | md kds =>
    obtain ⟨vs, h1, h2⟩ := h
    exact ⟨vs, e _ h1, h2.way w⟩
  | mi C fds =>
    obtain ⟨dx, vs, h1, h2, h3, h4⟩ := h
    exact ⟨dx, vs, e _ h1, (w.o _ _ h2 h3).1, (w.o _ _ h2 h3).2, h4.way w⟩
  | tb P q =>
    obtain ⟨ps, h1, hP, h2, h3⟩ := h
    refine ⟨ps, e _ h1, hP, h2, fun pos cv hc => ?_⟩
    obtain ⟨c, h4, h5, h6⟩ := h3 pos cv hc
    exact ⟨c, h4, (w.o _ _ h5 h6).1, (w.o _ _ h5 h6).2⟩
theorem ObR.some {K : PySem.W.Frag} {as : List Addr} {H : Hp} {a : Addr} {o : Ob} (h : ObR K as H a o) : H a ≠ none := by
  cases o with
  | mi C fds =>
    obtain ⟨dx, vs, h1, _⟩ := h
    rw [h1]
    intro z
    cases z
  | _ =>
    obtain ⟨_, h1, _⟩ := h
    rw [h1]
    intro z
    cases z
/-- what a lambda leans on: it stays where all that isn't of the store stays, and where the store grows -/
structure Stb where
  R : List Addr → Hp → Prop
  go : ∀ {as : List Addr} {H H' : Hp}, R as H → Go as H H' → R as H'
  add : ∀ {as : List Addr} {H : Hp} {p : Addr}, R as H → H p = none → R (as ++ [p]) H
theorem Stb.adds (r : Stb) {H : Hp} : ∀ {nw as : List Addr}, r.R as H → (∀ a ∈ nw, H a = none) → r.R (as ++ nw) H
  | [], as, h, _ => by
    rw [List.append_nil]
    exact h
  | p :: nw, as, h, n => by
    have e : as ++ p :: nw = (as ++ [p]) ++ nw := by simp
    rw [e]
    exact Stb.adds r (r.add h (n p List.mem_cons_self)) fun a ha => n a (List.mem_cons_of_mem _ ha)
/-- a slot's value: data, the k-th thing of the store, a lambda -/
inductive Sv where
  | d (x : D) | o (k : Nat) | fn (f : Addr) (r : Stb)
def SvR (K : PySem.W.Frag) (as : List Addr) (H : Hp) (v : V) : Sv → Prop
  | .d x => Dx K as H v x
  | .o k => ∃ a, as[k]? = some a ∧ v = .ref a
  | .fn f r => v = .ref f ∧ r.R as H
inductive SvA (K : PySem.W.Frag) (as : List Addr) (H : Hp) : List V → List Sv → Prop
  | nil : SvA K as H [] []
  | cons {v : V} {vs : List V} {d : Sv} {ds : List Sv} : SvR K as H v d → SvA K as H vs ds → SvA K as H (v :: vs) (d :: ds)
abbrev Sl := List (Option Sv)
abbrev Os := List Ob
structure Sa where
  s : Sl
  os : Os
/-- the store at as -/
structure Ro (K : PySem.W.Frag) (as : List Addr) (H : Hp) (os : Os) : Prop where
  nd : as.Nodup
  len : as.length = os.length
  own : ∀ (k : Nat) (a : Addr) (ob : Ob), as[k]? = some a → os[k]? = some ob → ObR K as H a ob
structure Re (K : PySem.W.Frag) (as : List Addr) (H : Hp) (σ : St) (S : Sa) : Prop where
  o : Ro K as H S.os
  slen : σ.length = S.s.length
  slot : ∀ (i : Nat) (d : Sv), S.s[i]? = some (some d) → ∃ v, σ[i]? = some (some v) ∧ SvR K as H v d
/-- from as, H to bs, H': what is further is new, what isn't of the store stays -/
structure Stp (as : List Addr) (H : Hp) (bs : List Addr) (H' : Hp) : Prop where
  pre : ∃ nw, bs = as ++ nw ∧ ∀ a ∈ nw, H a = none
  go : Go as H H'
  th : ∀ a, H' a = none → H a = none
section
variable {K : PySem.W.Frag} {as bs cs : List Addr} {H H' H'' : Hp} {σ : St} {S : Sa} {os os' : Os}
theorem Ro.has {a : Addr} (R : Ro K as H os) (ha : a ∈ as) : H a ≠ none := by
  obtain ⟨k, hk, e⟩ := List.mem_iff_getElem.mp ha
  have h1 : as[k]? = some a := by rw [List.getElem?_eq_getElem hk, e]
  have h2 : k < os.length := R.len ▸ hk
  exact (R.own k a os[k] h1 (List.getElem?_eq_getElem h2)).some
theorem Ro.notin {p : Addr} (R : Ro K as H os) (hp : H p = none) : p ∉ as := fun z => R.has z hp
theorem Stp.refl : Stp as H as H := ⟨⟨[], by simp, fun _ h => nomatch h⟩, Go.refl _ _, fun _ h => h⟩
theorem Stp.of_go (g : Go as H H') (R : Ro K as H' os) : Stp as H as H' := ⟨⟨[], by simp, fun _ h => nomatch h⟩, g, fun a h => g.free (R.notin h) h⟩
theorem Stp.sub (s : Stp as H bs H') : ∀ x ∈ as, x ∈ bs := fun x hx => by
  obtain ⟨nw, e, _⟩ := s.pre
  rw [e]
  exact List.mem_append_left _ hx
theorem Stp.nin (s : Stp as H bs H') {a : Addr} (h : H a ≠ none) (n : a ∉ as) : a ∉ bs := fun z => by
  obtain ⟨nw, e, f⟩ := s.pre
  rw [e] at z
  rcases List.mem_append.mp z with z | z
  · exact n z
  · exact h (f a z)
theorem ne_none {α : Type} {o : Option α} {x : α} (h : o = some x) : o ≠ none := by
  rw [h]
  intro z
  cases z
theorem Stp.trans (s : Stp as H bs H') (t : Stp bs H' cs H'') : Stp as H cs H'' := by
  obtain ⟨n1, e1, f1⟩ := s.pre
  obtain ⟨n2, e2, f2⟩ := t.pre
  refine ⟨⟨n1 ++ n2, by rw [e2, e1, List.append_assoc], fun a ha => ?_⟩, fun a o h n => t.go a o (s.go a o h n) (s.nin (ne_none h) n), fun a h => s.th a (t.th a h)⟩
  rcases List.mem_append.mp ha with z | z
  · exact f1 a z
  · exact s.th a (f2 a z)
theorem rd_nn {H : Hp} {a : Addr} {u : HO} (h : Rd H a u) : H a ≠ none := rd_some h
theorem Stp.way (s : Stp as H bs H') : Way K as bs H H' := by
  refine ⟨fun a xs h => ?_, fun a xs h => ?_, fun a u n h => ⟨s.nin (rd_nn h) n, rd_go s.go n h⟩, fun a u n h => ⟨s.nin (ne_none h) n, s.go a u h n⟩⟩
  · rcases h with ⟨n, h⟩ | h
    · exact .inl ⟨s.nin (rd_nn h) n, rd_go s.go n h⟩
    · exact .inr h
  · rcases h with ⟨n, h⟩ | h
    · exact .inl ⟨s.nin (rd_nn h) n, rd_go s.go n h⟩
    · exact .inr h
theorem SvR.stp {v : V} {d : Sv} (s : Stp as H bs H') (h : SvR K as H v d) : SvR K bs H' v d := by
  cases d with
  | d x => exact Dx.way s.way h
  | o k =>
    obtain ⟨a, e, z⟩ := h
    obtain ⟨nw, q, _⟩ := s.pre
    refine ⟨a, ?_, z⟩
    rw [q, List.getElem?_append_left (List.getElem?_eq_some_iff.mp e).1]
    exact e
  | fn f r =>
    obtain ⟨nw, q, n⟩ := s.pre
    refine ⟨h.1, r.go (H := H) ?_ fun a o e m => s.go a o e fun z => m (s.sub a z)⟩
    rw [q]
    exact r.adds h.2 n
theorem SvR.go {v : V} {d : Sv} (g : Go as H H') (h : SvR K as H v d) : SvR K as H' v d := by
  cases d with
  | d x => exact Dx.way (Way.of_go g) h
  | o k => exact h
  | fn f r => exact ⟨h.1, r.go h.2 g⟩
theorem SvR.wayA {v : V} {d : Sv} {p : Addr} (hp : H p = none) (h : SvR K as H v d) : SvR K (as ++ [p]) H v d := by
  cases d with
  | d x => exact Dx.way (Way.of_add hp) h
  | o k =>
    obtain ⟨a, e, z⟩ := h
    refine ⟨a, ?_, z⟩
    rw [List.getElem?_append_left (List.getElem?_eq_some_iff.mp e).1]
    exact e
  | fn f r => exact ⟨h.1, r.add h.2 hp⟩
theorem SvA.go {vs : List V} {ds : List Sv} (g : Go as H H') : SvA K as H vs ds → SvA K as H' vs ds
  | .nil => .nil
  | .cons h r => .cons (h.go g) (SvA.go g r)
theorem Re.go (R : Re K as H σ S) (g : Go as H H') (Q : Ro K as H' os') : Re K as H' σ ⟨S.s, os'⟩ :=
  ⟨Q, R.slen, fun i d h => by
    obtain ⟨v, e, r⟩ := R.slot i d h
    exact ⟨v, e, r.go g⟩⟩
theorem Ro.new {p : Addr} {o : HO} (R : Ro K as H os) (hp : H p = none) : Ro K as (upd H p o) os := by
  refine ⟨R.nd, R.len, fun k a ob h1 h2 => ?_⟩
  refine (R.own k a ob h1 h2).way (Way.of_go (Go.new hp)) fun u e => ?_
  rw [upd_ne (ne_of_none e hp)]
  exact e
end

/-! ### abstract wishes -/
/-- what is wished of an exception: at the heap, over the data -/
structure Xc where
  wx : Value → Option Addr → St → Hp → Prop
  xe : Addr → List (Str × D) → Sa → Prop
/-- none may come -/
def X0 : Xc := ⟨fun _ _ _ _ => False, fun _ _ _ => False⟩
section
variable (K : PySem.W.Frag) (X : Xc)
def XH (as : List Addr) (H : Hp) (σ : St) (s : Sl) : Prop :=
  ∀ H' C dd fs fds os', Go as H H' → Ro K as H' os' → H dd = none → H' dd = some (.xd fs) → DxF K as H' fs fds → X.xe C fds ⟨s, os'⟩ → X.wx (.ref C) (some dd) σ H'
def XS (as : List Addr) (H : Hp) : Prop :=
  ∀ bs H' σ' S' C dd fs fds, Stp as H bs H' → Re K bs H' σ' S' → H dd = none → H' dd = some (.xd fs) → DxF K bs H' fs fds → X.xe C fds S' → X.wx (.ref C) (some dd) σ' H'
def EW (te : TE) (S : Sa) (Q : Sv → Os → Prop) : Prop :=
  ∀ as H σ (Q' : VK), Re K as H σ S → XH K X as H σ S.s → (∀ v H' d os', Go as H H' → Ro K as H' os' → SvR K as H' v d → Q d os' → Q' v H') → te σ H Q'
def TW (tt : TT) (S : Sa) (Q : Bool → Os → Prop) : Prop :=
  ∀ as H σ (Q' : Bool → Hp → Prop), Re K as H σ S → XH K X as H σ S.s → (∀ b H' os', Go as H H' → Ro K as H' os' → Q b os' → Q' b H') → tt σ H Q'
def AW (ta : TA) (S : Sa) (Q : List Sv → Os → Prop) : Prop :=
  ∀ as H σ (Q' : List V → Hp → Prop), Re K as H σ S → XH K X as H σ S.s → (∀ vs H' ds os', Go as H H' → Ro K as H' os' → SvA K as H' vs ds → Q ds os' → Q' vs H') → ta σ H Q'
def OW (to : TO) (S : Sa) (Q : Option Int → Os → Prop) : Prop :=
  ∀ as H σ (Q' : Option Int → Hp → Prop), Re K as H σ S → XH K X as H σ S.s → (∀ o H' os', Go as H H' → Ro K as H' os' → Q o os' → Q' o H') → to σ H Q'
/-- an operation on values -/
def BW (r : R2) (x y : Sv) (os : Os) (Q : Sv → Os → Prop) : Prop :=
  ∀ as H v u (Q' : VK), Ro K as H os → SvR K as H v x → SvR K as H u y → (∀ z H' d os', Go as H H' → Ro K as H' os' → SvR K as H' z d → Q d os' → Q' z H') → r v u H Q'
def UW (r : V → Hp → VK → Prop) (x : Sv) (os : Os) (Q : Sv → Os → Prop) : Prop :=
  ∀ as H v (Q' : VK), Ro K as H os → SvR K as H v x → (∀ z H' d os', Go as H H' → Ro K as H' os' → SvR K as H' z d → Q d os' → Q' z H') → r v H Q'
/-- a call on values -/
def CW (r : List V → Hp → VK → Prop) (xs : List Sv) (os : Os) (Q : Sv → Os → Prop) : Prop :=
  ∀ as H vs (Q' : VK), Ro K as H os → SvA K as H vs xs → (∀ z H' d os', Go as H H' → Ro K as H' os' → SvR K as H' z d → Q d os' → Q' z H') → r vs H Q'
/-- a method on values -/
def MW (r : V → List V → Hp → VK → Prop) (x : Sv) (xs : List Sv) (os : Os) (Q : Sv → Os → Prop) : Prop :=
  ∀ as H v vs (Q' : VK), Ro K as H os → SvR K as H v x → SvA K as H vs xs → (∀ z H' d os', Go as H H' → Ro K as H' os' → SvR K as H' z d → Q d os' → Q' z H') → r v vs H Q'
structure Ea where
  nx : Sa → Prop
  rt : Sv → Os → Prop
  bk : Sa → Prop := fun _ => False
  ct : Sa → Prop := fun _ => False
def W (ts : TS) (E : Ea) (S : Sa) : Prop :=
  ∀ as H σ (D : Ends), Re K as H σ S → XS K X as H →
    (∀ bs H' σ' S', Stp as H bs H' → Re K bs H' σ' S' → E.nx S' → D.nx σ' H') →
    (∀ bs H' v d os', Stp as H bs H' → Ro K bs H' os' → SvR K bs H' v d → E.rt d os' → D.rt v H') →
    (∀ bs H' σ' S', Stp as H bs H' → Re K bs H' σ' S' → E.bk S' → D.bk σ' H') →
    (∀ bs H' σ' S', Stp as H bs H' → Re K bs H' σ' S' → E.ct S' → D.ct σ' H') → ts D σ H
end
section
variable {K : PySem.W.Frag} {X : Xc} {as bs : List Addr} {H H1 : Hp} {σ : St} {s : Sl} {S : Sa} {os os1 : Os}
theorem XH.go (x : XH K X as H σ s) (g : Go as H H1) (R : Ro K as H1 os1) : XH K X as H1 σ s := fun H' C dd fs fds os' g2 R2 n e r z =>
  x H' C dd fs fds os' (g.trans g2) R2 (g.free (R.notin n) n) e r z
theorem XS.stp (x : XS K X as H) (s : Stp as H bs H1) : XS K X bs H1 := fun cs H' σ' S' C dd fs fds t R n e r z => x cs H' σ' S' C dd fs fds (s.trans t) R (s.th _ n) e r z
theorem XS.h (x : XS K X as H) (R : Re K as H σ S) : XH K X as H σ S.s := fun H' C dd fs fds os' g R2 n e r z => x as H' σ ⟨S.s, os'⟩ C dd fs fds (Stp.of_go g R2) (R.go g R2) n e r z
theorem XH.x0 : XH K X0 as H σ s := fun _ _ _ _ _ _ _ _ _ _ _ z => z.elim
theorem XS.x0 : XS K X0 as H := fun _ _ _ _ _ _ _ _ _ _ _ _ _ z => z.elim
end

/-! ### expressions -/
section
variable {K : PySem.W.Frag} {X : Xc} {S : Sa} {os : Os} {Q : Sv → Os → Prop} {ta tb te : TE} {tr : TA}
theorem ew_var {i : Nat} {d : Sv} (h : S.s[i]? = some (some d)) (q : Q d S.os) : EW K X (tVar i) S Q := fun as H σ Q' R x k => by
  obtain ⟨v, e, r⟩ := R.slot i d h
  exact ⟨v, e, k v H d S.os (Go.refl _ _) R.o r q⟩
theorem ew_c {v : V} {d : D} (h : ∀ as H, Dx K as H v d) (q : Q (.d d) S.os) : EW K X (tC v) S Q := fun as H σ Q' R x k => k v H (.d d) S.os (Go.refl _ _) R.o (h as H) q
theorem ew_int {i : Int} (q : Q (.d (.int i)) S.os) : EW K X (tC (.int i)) S Q := ew_c (fun _ _ => .int i) q
theorem ew_str {z : PySem.Str} (q : Q (.d (.str z)) S.os) : EW K X (tC (.str z)) S Q := ew_c (fun _ _ => .str z) q
theorem ew_bl {b : Bool} (q : Q (.d (.bl b)) S.os) : EW K X (tC (.bl b)) S Q := ew_c (fun _ _ => .bl b) q
theorem ew_non (q : Q (.d .non) S.os) : EW K X (tC .non) S Q := ew_c (fun _ _ => .non) q
theorem ew_op {r : R2} (h : EW K X ta S fun x os1 => EW K X tb ⟨S.s, os1⟩ fun y os2 => BW K r x y os2 Q) : EW K X (tOp r ta tb) S Q := fun as H σ Q' R x k =>
  h as H σ _ R x fun v H1 d os1 g1 R1 r1 q1 => q1 as H1 σ _ (R.go g1 R1) (x.go g1 R1) fun u H2 e os2 g2 R2 r2 q2 => q2 as H2 v u Q' R2 (r1.go g2) r2 fun z H3 f os3 g3 R3 r3 q3 => k z H3 f os3 ((g1.trans g2).trans g3) R3 r3 q3
theorem ew_un {r : V → Hp → VK → Prop} (h : EW K X ta S fun x os1 => UW K r x os1 Q) : EW K X (tUn r ta) S Q := fun as H σ Q' R x k =>
  h as H σ _ R x fun v H1 d os1 g1 R1 r1 q1 => q1 as H1 v Q' R1 r1 fun z H3 f os3 g3 R3 r3 q3 => k z H3 f os3 (g1.trans g3) R3 r3 q3
theorem aw_nil {Q : List Sv → Os → Prop} (q : Q [] S.os) : AW K X tNil S Q := fun as H σ Q' R x k => k [] H [] S.os (Go.refl _ _) R.o .nil q
theorem aw_cons {Q : List Sv → Os → Prop} (h : EW K X ta S fun x os1 => AW K X tr ⟨S.s, os1⟩ fun xs os2 => Q (x :: xs) os2) : AW K X (tCons ta tr) S Q := fun as H σ Q' R x k =>
  h as H σ _ R x fun v H1 d os1 g1 R1 r1 q1 => q1 as H1 σ _ (R.go g1 R1) (x.go g1 R1) fun vs H2 ds os2 g2 R2 r2 q2 => k (v :: vs) H2 (d :: ds) os2 (g1.trans g2) R2 (.cons (r1.go g2) r2) q2
theorem ew_cb {r : List V → Hp → VK → Prop} (h : AW K X tr S fun xs os1 => CW K r xs os1 Q) : EW K X (tCB r tr) S Q := fun as H σ Q' R x k =>
  h as H σ _ R x fun vs H1 ds os1 g1 R1 r1 q1 => q1 as H1 vs Q' R1 r1 fun z H3 f os3 g3 R3 r3 q3 => k z H3 f os3 (g1.trans g3) R3 r3 q3
theorem ew_if {t : TT} (h : TW K X t S fun b os1 => if b = true then EW K X ta ⟨S.s, os1⟩ Q else EW K X tb ⟨S.s, os1⟩ Q) : EW K X (tIf t ta tb) S Q := fun as H σ Q' R x k =>
  h as H σ _ R x fun b H1 os1 g1 R1 q1 => by
    cases b with
    | true =>
      show ta σ H1 Q'
      exact (show EW K X ta ⟨S.s, os1⟩ Q from q1) as H1 σ Q' (R.go g1 R1) (x.go g1 R1) fun z H3 f os3 g3 R3 r3 q3 => k z H3 f os3 (g1.trans g3) R3 r3 q3
    | false =>
      show tb σ H1 Q'
      exact (show EW K X tb ⟨S.s, os1⟩ Q from q1) as H1 σ Q' (R.go g1 R1) (x.go g1 R1) fun z H3 f os3 g3 R3 r3 q3 => k z H3 f os3 (g1.trans g3) R3 r3 q3
theorem ew_mono {Q' : Sv → Os → Prop} (h : EW K X te S Q) (m : ∀ d os, Q d os → Q' d os) : EW K X te S Q' := fun as H σ Z R x k =>
  h as H σ Z R x fun v H1 d os1 g1 R1 r1 q1 => k v H1 d os1 g1 R1 r1 (m d os1 q1)
end

/-! ### tests -/
section
variable {K : PySem.W.Frag} {X : Xc} {S : Sa} {Q : Bool → Os → Prop} {ta : TE} {t u : TT}
theorem tw_test (h : EW K X ta S fun x os => ∃ b, x = .d (.bl b) ∧ Q b os) : TW K X (tTest ta) S Q := fun as H σ Q' R x k =>
  h as H σ _ R x fun v H1 d os1 g1 R1 r1 ⟨b, e, q⟩ => by
    subst e
    cases r1
    exact ⟨b, rfl, k b H1 os1 g1 R1 q⟩
theorem tw_B (h : EW K X ta S fun x os => ∃ b, x = .d (.bl b) ∧ Q b os) : TW K X (tB ta) S Q := fun as H σ Q' R x k =>
  h as H σ _ R x fun v H1 d os1 g1 R1 r1 ⟨b, e, q⟩ => by
    subst e
    cases r1
    exact ⟨b, rfl, k b H1 os1 g1 R1 q⟩
theorem tw_and (h : TW K X t S fun b os => if b = true then TW K X u ⟨S.s, os⟩ Q else Q false os) : TW K X (tAnd t u) S Q := fun as H σ Q' R x k =>
  h as H σ _ R x fun b H1 os1 g1 R1 q1 => by
    cases b with
    | true =>
      show u σ H1 Q'
      exact (show TW K X u ⟨S.s, os1⟩ Q from q1) as H1 σ Q' (R.go g1 R1) (x.go g1 R1) fun b H2 os2 g2 R2 q2 => k b H2 os2 (g1.trans g2) R2 q2
    | false =>
      show Q' false H1
      exact k false H1 os1 g1 R1 q1
theorem tw_or (h : TW K X t S fun b os => if b = true then Q true os else TW K X u ⟨S.s, os⟩ Q) : TW K X (tOr t u) S Q := fun as H σ Q' R x k =>
  h as H σ _ R x fun b H1 os1 g1 R1 q1 => by
    cases b with
    | false =>
      show u σ H1 Q'
      exact (show TW K X u ⟨S.s, os1⟩ Q from q1) as H1 σ Q' (R.go g1 R1) (x.go g1 R1) fun b H2 os2 g2 R2 q2 => k b H2 os2 (g1.trans g2) R2 q2
    | true =>
      show Q' true H1
      exact k true H1 os1 g1 R1 q1
theorem tw_not (h : TW K X t S fun b os => Q (!b) os) : TW K X (tNot t) S Q := fun as H σ Q' R x k => h as H σ _ R x fun b H1 os1 g1 R1 q1 => k (!b) H1 os1 g1 R1 q1
end
section
variable {K : PySem.W.Frag} {X : Xc} {S : Sa} {Q : Sv → Os → Prop} {ta tb : TE}
theorem ew_andV (h : EW K X ta S fun x os => ∃ b, x = .d (.bl b) ∧ if b = true then EW K X tb ⟨S.s, os⟩ Q else Q (.d (.bl false)) os) : EW K X (tAndV ta tb) S Q := fun as H σ Q' R x k =>
  h as H σ _ R x fun v H1 d os1 g1 R1 r1 ⟨b, e, q1⟩ => by
    subst e
    cases r1
    refine ⟨b, rfl, ?_⟩
    cases b with
    | true =>
      show tb σ H1 Q'
      exact (show EW K X tb ⟨S.s, os1⟩ Q from q1) as H1 σ Q' (R.go g1 R1) (x.go g1 R1) fun z H3 f os3 g3 R3 r3 q3 => k z H3 f os3 (g1.trans g3) R3 r3 q3
    | false =>
      show Q' (.bl false) H1
      exact k _ H1 (.d (.bl false)) os1 g1 R1 (Dx.bl false) q1
theorem ew_orV (h : EW K X ta S fun x os => ∃ b, x = .d (.bl b) ∧ if b = true then Q (.d (.bl true)) os else EW K X tb ⟨S.s, os⟩ Q) : EW K X (tOrV ta tb) S Q := fun as H σ Q' R x k =>
  h as H σ _ R x fun v H1 d os1 g1 R1 r1 ⟨b, e, q1⟩ => by
    subst e
    cases r1
    refine ⟨b, rfl, ?_⟩
    cases b with
    | false =>
      show tb σ H1 Q'
      exact (show EW K X tb ⟨S.s, os1⟩ Q from q1) as H1 σ Q' (R.go g1 R1) (x.go g1 R1) fun z H3 f os3 g3 R3 r3 q3 => k z H3 f os3 (g1.trans g3) R3 r3 q3
    | true =>
      show Q' (.bl true) H1
      exact k _ H1 (.d (.bl true)) os1 g1 R1 (Dx.bl true) q1
theorem ew_notV (h : EW K X ta S fun x os => ∃ b, x = .d (.bl b) ∧ Q (.d (.bl (!b))) os) : EW K X (tNotV ta) S Q := fun as H σ Q' R x k =>
  h as H σ _ R x fun v H1 d os1 g1 R1 r1 ⟨b, e, q1⟩ => by
    subst e
    cases r1
    exact ⟨b, rfl, k _ H1 (.d (.bl _)) os1 g1 R1 (Dx.bl _) q1⟩
end

/-! ### statements -/
section
variable {K : PySem.W.Frag} {X : Xc} {S : Sa} {E : Ea} {te : TE} {tt : TT} {t u : TS}
theorem w_seq (h : W K X t { E with nx := W K X u E } S) : W K X (tSeq t u) E S := fun as H σ D R x n r b c => by
  refine h as H σ { D with nx := u D } R x (fun bs H1 σ1 S1 s1 R1 q1 => ?_) r b c
  exact q1 bs H1 σ1 D R1 (x.stp s1) (fun cs H2 σ2 S2 s2 R2 q2 => n cs H2 σ2 S2 (s1.trans s2) R2 q2) (fun cs H2 v d os2 s2 R2 r2 q2 => r cs H2 v d os2 (s1.trans s2) R2 r2 q2)
    (fun cs H2 σ2 S2 s2 R2 q2 => b cs H2 σ2 S2 (s1.trans s2) R2 q2) (fun cs H2 σ2 S2 s2 R2 q2 => c cs H2 σ2 S2 (s1.trans s2) R2 q2)
theorem w_next (q : E.nx S) : W K X tNext E S := fun as H σ D R x n r b c => n as H σ S Stp.refl R q
theorem w_brk (q : E.bk S) : W K X tBreak E S := fun as H σ D R x n r b c => b as H σ S Stp.refl R q
theorem w_cont (q : E.ct S) : W K X tCont E S := fun as H σ D R x n r b c => c as H σ S Stp.refl R q
theorem w_ret (h : EW K X te S E.rt) : W K X (tRet te) E S := fun as H σ D R x n r b c => h as H σ _ R (x.h R) fun v H1 d os1 g1 R1 r1 q1 => r as H1 v d os1 (Stp.of_go g1 R1) R1 r1 q1
theorem w_retN (h : E.rt (.d .non) S.os) : W K X tRetN E S := fun as H σ D R x n r b c => r as H .non (.d .non) S.os Stp.refl R.o Dx.non h
theorem w_drop (h : EW K X te S fun _ os => E.nx ⟨S.s, os⟩) : W K X (tDrop te) E S := fun as H σ D R x n r b c => h as H σ _ R (x.h R) fun v H1 d os1 g1 R1 r1 q1 => n as H1 σ _ (Stp.of_go g1 R1) (R.go g1 R1) q1
theorem Re.set {as : List Addr} {H : Hp} {σ : St} {v : V} {d : Sv} (i : Nat) (R : Re K as H σ S) (r : SvR K as H v d) : Re K as H (σ.set i (some v)) ⟨S.s.set i (some d), S.os⟩ :=
  ⟨R.o, by simp [R.slen], fun j e h => by
    have h' : (S.s.set i (some d))[j]? = some (some e) := h
    by_cases hj : i = j
    · subst hj
      by_cases hl : i < S.s.length
      · rw [List.getElem?_set_self hl] at h'
        cases h'
        exact ⟨v, by rw [List.getElem?_set_self (by rw [R.slen]; exact hl)], r⟩
      · rw [List.getElem?_eq_none (by simpa using hl)] at h'
        cases h'
    · rw [List.getElem?_set_ne hj] at h'
      obtain ⟨w, e1, r1⟩ := R.slot j e h'
      exact ⟨w, by rw [List.getElem?_set_ne hj]; exact e1, r1⟩⟩
theorem w_asg {i : Nat} (h : EW K X te S fun d os => E.nx ⟨S.s.set i (some d), os⟩) : W K X (tAsg te (gName i)) E S := fun as H σ D R x n r b c =>
  h as H σ _ R (x.h R) fun v H1 d os1 g1 R1 r1 q1 => n as H1 _ _ (Stp.of_go g1 R1) ((R.go g1 R1).set i r1) q1
theorem w_if (h : TW K X tt S fun b os => if b = true then W K X t E ⟨S.s, os⟩ else W K X u E ⟨S.s, os⟩) : W K X (tIfS tt t u) E S := fun as H σ D R x n r b c =>
  h as H σ _ R (x.h R) fun y H1 os1 g1 R1 q1 => by
    have s1 := Stp.of_go g1 R1
    cases y with
    | true =>
      show t D σ H1
      exact (show W K X t E ⟨S.s, os1⟩ from q1) as H1 σ D (R.go g1 R1) (x.stp s1) (fun cs H2 σ2 S2 s2 R2 q2 => n cs H2 σ2 S2 (s1.trans s2) R2 q2) (fun cs H2 v d os2 s2 R2 r2 q2 => r cs H2 v d os2 (s1.trans s2) R2 r2 q2)
        (fun cs H2 σ2 S2 s2 R2 q2 => b cs H2 σ2 S2 (s1.trans s2) R2 q2) (fun cs H2 σ2 S2 s2 R2 q2 => c cs H2 σ2 S2 (s1.trans s2) R2 q2)
    | false =>
      show u D σ H1
      exact (show W K X u E ⟨S.s, os1⟩ from q1) as H1 σ D (R.go g1 R1) (x.stp s1) (fun cs H2 σ2 S2 s2 R2 q2 => n cs H2 σ2 S2 (s1.trans s2) R2 q2) (fun cs H2 v d os2 s2 R2 r2 q2 => r cs H2 v d os2 (s1.trans s2) R2 r2 q2)
        (fun cs H2 σ2 S2 s2 R2 q2 => b cs H2 σ2 S2 (s1.trans s2) R2 q2) (fun cs H2 σ2 S2 s2 R2 q2 => c cs H2 σ2 S2 (s1.trans s2) R2 q2)
theorem w_mono {E' : Ea} (h : W K X t E S) (n : ∀ S, E.nx S → E'.nx S) (r : ∀ d os, E.rt d os → E'.rt d os) (b : ∀ S, E.bk S → E'.bk S) (c : ∀ S, E.ct S → E'.ct S) : W K X t E' S := fun as H σ D R x kn kr kb kc =>
  h as H σ D R x (fun bs H' σ' S' s R' q => kn bs H' σ' S' s R' (n _ q)) (fun bs H' v d os s R' r' q => kr bs H' v d os s R' r' (r _ _ q)) (fun bs H' σ' S' s R' q => kb bs H' σ' S' s R' (b _ q)) (fun bs H' σ' S' s R' q => kc bs H' σ' S' s R' (c _ q))
/-- never come to -/
theorem w_never (h : False) : W K X t E S := h.elim
end
end Br

/-! BrB: calls, operations on data. -/
namespace Br
open PySem L2

/-! ### data as the library's own -/
mutual
def D.py : D → Option PyData
  | .non => some .none
  | .bl b => some (.bool b)
  | .int i => some (.int i)
  | .str x => some (.str x)
  | .lst xs => (D.pys xs).map .list
  | .tup xs => (D.pys xs).map .tuple
  | .dk _ => none
  | .ob _ _ => none
  | .xo _ _ => none
def D.pys : List D → Option (List PyData)
  | [] => some []
  | x :: r => (D.py x).bind fun p => (D.pys r).map fun ps => p :: ps
end
section
variable {K : PySem.W.Frag} {as : List Addr} {H : Hp}
mutual
theorem Dx.dp1 : ∀ (d : D) (v : V) (p : PyData), Dx K as H v d → d.py = some p → Dp K H v p
  | .non, _, _, h, e => by
    cases h
    have e2 : some PyData.none = some _ := e
    cases e2
    exact .non
  | .bl b, _, _, h, e => by
    cases h
    have e2 : some (PyData.bool b) = some _ := e
    cases e2
    exact .bl b
  | .int b, _, _, h, e => by
    cases h
    have e2 : some (PyData.int b) = some _ := e
    cases e2
    exact .int b
  | .str b, _, _, h, e => by
    cases h
    have e2 : some (PyData.str b) = some _ := e
    cases e2
    exact .str b
  | .lst ds, _, p, h, e => by
    cases h with
    | lst hl hr =>
      have e2 : (D.pys ds).map PyData.list = some p := e
      obtain ⟨ps, q, rfl⟩ := Option.map_eq_some_iff.mp e2
      exact .lst hl.sq (DxA.dp1 ds _ ps hr q)
  | .tup ds, _, p, h, e => by
    cases h with
    | tup hl hr =>
      have e2 : (D.pys ds).map PyData.tuple = some p := e
      obtain ⟨ps, q, rfl⟩ := Option.map_eq_some_iff.mp e2
      exact .tup hl.sq (DxA.dp1 ds _ ps hr q)
  | .dk _, _, p, _, e => by
    have e2 : (none : Option PyData) = some p := e
    cases e2
  | .ob _ _, _, p, _, e => by
    have e2 : (none : Option PyData) = some p := e
    cases e2
  | .xo _ _, _, p, _, e => by
    have e2 : (none : Option PyData) = some p := e
    cases e2
theorem DxA.dp1 : ∀ (ds : List D) (vs : List V) (ps : List PyData), DxA K as H vs ds → D.pys ds = some ps → DpAll K H vs ps
  | [], _, ps, h, e => by
    cases h
    have e2 : some [] = some ps := e
    cases e2
    exact .nil
  | d :: ds, _, ps, h, e => by
    cases h with
    | cons h r =>
      have e2 : ((D.py d).bind fun p => (D.pys ds).map fun ps => p :: ps) = some ps := e
      obtain ⟨p, q1, q2⟩ := Option.bind_eq_some_iff.mp e2
      obtain ⟨qs, q3, q4⟩ := Option.map_eq_some_iff.mp q2
      subst q4
      exact .cons (Dx.dp1 d _ p h q1) (DxA.dp1 ds _ qs r q3)
end
theorem Dx.dp {v : V} {d : D} {p : PyData} (h : Dx K as H v d) (e : d.py = some p) : Dp K H v p := Dx.dp1 d v p h e
end

/-! ### promises over data -/
abbrev Xa := Addr → List (Str × D) → Os → Prop
abbrev FD := List Sv → Os → (D → Os → Prop) → Xa → Prop
/-- the promise: from the arguments' data and the store to the answer's -/
def spD (K : PySem.W.Frag) (f : FD) : Sp := fun vs H Q E => ∃ (as : List Addr) (os : Os) (ds : List Sv) (QA : D → Os → Prop) (EA : Xa), Ro K as H os ∧ SvA K as H vs ds ∧ f ds os QA EA ∧
  (∀ v H' d os', Go as H H' → Ro K as H' os' → Dx K as H' v d → QA d os' → Q v H') ∧
  (∀ C dd H' fs fds os', Go as H H' → Ro K as H' os' → H dd = none → H' dd = some (.xd fs) → DxF K as H' fs fds → EA C fds os' → E (.ref C) (some dd) H')
section
variable {K : PySem.W.Frag} {as bs : List Addr} {H H' : Hp} {os os' : Os}
/-- back to the caller's things -/
theorem Ro.back (s : Stp as H bs H') (n : as.length = os.length) (R : Ro K bs H' os') : Ro K as H' (os'.take os.length) := by
  obtain ⟨nw, e, _⟩ := s.pre
  have hl : os.length ≤ os'.length := by rw [← R.len, ← n, e, List.length_append]; omega
  refine ⟨?_, by rw [n, List.length_take]; omega, fun k a ob h1 h2 => ?_⟩
  · have q := R.nd
    rw [e] at q
    exact (List.nodup_append.mp q).1
  · have hk : k < as.length := (List.getElem?_eq_some_iff.mp h1).1
    have h1' : bs[k]? = some a := by rw [e, List.getElem?_append_left hk]; exact h1
    have h2' : os'[k]? = some ob := by rw [List.getElem?_take_of_lt (by omega)] at h2; exact h2
    exact (R.own k a ob h1' h2').way (Way.of_sub s.sub) fun _ z => z
/-- what a return hands out -/
def RetOk (n : Nat) (QA : D → Os → Prop) : Sv → Os → Prop := fun x os' => match x with
  | .d d => QA d (os'.take n)
  | .o k => n ≤ k ∧ ∃ xs, os'[k]? = some (.ml xs) ∧ QA (.lst xs) (os'.take n)
  | .fn _ _ => False
theorem ret_back {QA : D → Os → Prop} {v : V} {x : Sv} {Q : VK} (s : Stp as H bs H') (n : as.length = os.length) (R : Ro K bs H' os') (r : SvR K bs H' v x) (q : RetOk os.length QA x os')
    (k : ∀ v H' d os', Go as H H' → Ro K as H' os' → Dx K as H' v d → QA d os' → Q v H') : Q v H' := by
  cases x with
  | d d => exact k v H' d _ s.go (R.back s n) (Dx.way (Way.of_sub s.sub) r) q
  | o j =>
    obtain ⟨hj, xs, e, q⟩ := q
    obtain ⟨a, ea, rfl⟩ := r
    obtain ⟨vs, h1, h2⟩ := R.own j a _ ea e
    obtain ⟨nw, eb, hf⟩ := s.pre
    have ha : a ∉ as := fun z => by
      obtain ⟨i, hi, ei⟩ := List.mem_iff_getElem.mp z
      have h3 : bs[i]? = some a := by rw [eb, List.getElem?_append_left hi, List.getElem?_eq_getElem hi, ei]
      have h4 : i = j := by
        obtain ⟨l1, m1⟩ := List.getElem?_eq_some_iff.mp h3
        obtain ⟨l2, m2⟩ := List.getElem?_eq_some_iff.mp ea
        exact (List.getElem_inj R.nd).mp (m1.trans m2.symm)
      omega
    exact k _ H' _ _ s.go (R.back s n) (.lst (.inl ⟨ha, .inl h1⟩) (h2.way (Way.of_sub s.sub))) q
  | fn f r => exact q.elim
def startS (N : List Str) (ds : List Sv) : Sl := ds.map some ++ List.replicate (N.length - ds.length) none
theorem SvA.length : ∀ {vs : List V} {ds : List Sv}, SvA K as H vs ds → vs.length = ds.length
  | _, _, .nil => rfl
  | _, _, .cons _ r => by rw [List.length_cons, List.length_cons, SvA.length r]
theorem SvA.get : ∀ {v : List V} {d : List Sv} {i : Nat} {x : Sv}, SvA K as H v d → d[i]? = some x → ∃ u, v[i]? = some u ∧ SvR K as H u x
  | _, _, _, _, .nil, e => by simp at e
  | _, _, 0, _, .cons h _, e => by simp at e; subst e; exact ⟨_, rfl, h⟩
  | _, _, i + 1, x, .cons _ r, e => by
    obtain ⟨u, h1, h2⟩ := SvA.get (i := i) (x := x) r (by simpa using e)
    exact ⟨u, by simpa using h1, h2⟩
theorem re_start {N : List Str} {vs : List V} {ds : List Sv} (R : Ro K as H os) (r : SvA K as H vs ds) : Re K as H (L2.start N vs) ⟨startS N ds, os⟩ := by
  have hl := r.length
  refine ⟨R, by unfold L2.start startS; simp [hl], fun i d h => ?_⟩
  have h' : (startS N ds)[i]? = some (some d) := h
  unfold startS at h'
  by_cases hi : i < ds.length
  · rw [List.getElem?_append_left (by simpa using hi), List.getElem?_map] at h'
    cases e : ds[i]? with
    | none => rw [e] at h'; cases h'
    | some y =>
      rw [e] at h'
      cases h'
      obtain ⟨u, h1, h2⟩ := r.get e
      refine ⟨u, ?_, h2⟩
      unfold L2.start
      rw [List.getElem?_append_left (by simpa [hl] using hi), List.getElem?_map, h1]
      rfl
  · rw [List.getElem?_append_right (by simpa using hi), List.getElem?_replicate] at h'
    split at h' <;> cases h'
/-- a body's abstract reading is a reading of the promise -/
theorem read_of {N : List Str} {f : FD} {t : TS} {vs : List V} {Q : VK} {E : XK} (h : spD K f vs H Q E)
    (w : ∀ ds os QA EA, f ds os QA EA → W K ⟨fun cls d _ H => E cls d H, fun C fds S => EA C fds (S.os.take os.length)⟩ t { nx := fun S => RetOk os.length QA (.d .non) S.os, rt := RetOk os.length QA } ⟨startS N ds, os⟩) : t { nx := fun _ H' => Q .non H', rt := Q } (L2.start N vs) H := by
  obtain ⟨as, os, ds, QA, EA, R, r, hf, kq, ke⟩ := h
  refine w ds os QA EA hf as H _ _ (re_start R r) (fun bs H' σ' S' C dd fs fds s R' n e r' z => ?_) (fun bs H' σ' S' s R' q => ?_) (fun bs H' v d os' s R' r' q => ?_) (fun _ _ _ _ _ _ q => q.elim) fun _ _ _ _ _ _ q => q.elim
  · exact ke C dd H' fs fds _ s.go (R'.o.back s R.len) n e (DxF.way (Way.of_sub s.sub) r') z
  · exact ret_back s R.len R'.o (v := .non) (x := .d .non) Dx.non q kq
  · exact ret_back s R.len R' r' q kq
end

/-! ### a call of a def -/
section
variable {K : PySem.W.Frag} {X : Xc} {S : Sa} {Q : Sv → Os → Prop} {ta : TA} {f : FD}
theorem SvA.nilr {as : List Addr} {H : Hp} : ∀ {vs : List V} {ds : List Sv}, SvA K as H vs ds → SvA K as H (vs ++ []) ds := fun h => by
  rw [List.append_nil]
  exact h
theorem ew_call (h : AW K X ta S fun ds os => f ds os (fun d os' => Q (.d d) os') fun _ _ _ => False) : EW K X (tCall (spD K f) [] E0 ta) S Q := fun as H σ Q' R x k =>
  h as H σ _ R x fun vs H1 ds os1 g1 R1 r1 q1 => ⟨as, os1, ds, _, _, R1, r1.nilr, q1, fun v H2 d os2 g2 R2 r2 q2 => k v H2 (.d d) os2 (g1.trans g2) R2 r2 q2, fun _ _ _ _ _ _ _ _ _ _ _ z => z.elim⟩
/-- one that may raise -/
theorem ew_callS {wx : WX} {xe : Addr → List (Str × D) → Sa → Prop} (h : AW K ⟨wx, xe⟩ ta S fun ds os => f ds os (fun d os' => Q (.d d) os') fun C fds os' => xe C fds ⟨S.s, os'⟩) : EW K ⟨wx, xe⟩ (tCallS (spD K f) (WE wx) ta) S Q := fun as H σ Q' R x k =>
  h as H σ _ R x fun vs H1 ds os1 g1 R1 r1 q1 => ⟨as, os1, ds, _, _, R1, r1, q1, fun v H2 d os2 g2 R2 r2 q2 => k v H2 (.d d) os2 (g1.trans g2) R2 r2 q2,
    fun C dd H2 fs fds os2 g2 R2 n2 e2 r2 z => x H2 C dd fs fds os2 (g1.trans g2) R2 (g1.free (R1.notin n2) n2) e2 r2 z⟩
end

/-! ### operations on values -/
section
variable {K : PySem.W.Frag} {os : Os} {Q : Sv → Os → Prop}
theorem bw_pure {r : R2} {x y : Sv} {z : D} (h : ∀ as H v u (Q' : VK), Ro K as H os → SvR K as H v x → SvR K as H u y → (∀ v, Dx K as H v z → Q' v H) → r v u H Q') (q : Q (.d z) os) : BW K r x y os Q :=
  fun as H v u Q' R rx ry k => h as H v u Q' R rx ry fun w rw => k w H (.d z) os (Go.refl _ _) R rw q
theorem cw_pure {r : List V → Hp → VK → Prop} {xs : List Sv} {z : D} (h : ∀ as H vs (Q' : VK), Ro K as H os → SvA K as H vs xs → (∀ v, Dx K as H v z → Q' v H) → r vs H Q') (q : Q (.d z) os) : CW K r xs os Q :=
  fun as H vs Q' R r k => h as H vs Q' R r fun w rw => k w H (.d z) os (Go.refl _ _) R rw q
/-- what gives a new object -/
theorem cw_new {r : List V → Hp → VK → Prop} {xs : List Sv} {z : D}
    (h : ∀ as H vs (Q' : VK), Ro K as H os → SvA K as H vs xs → (∀ p o, H p = none → Dx K as (upd H p o) (.ref p) z → Q' (.ref p) (upd H p o)) → (∀ v, Dx K as H v z → Q' v H) → r vs H Q') (q : Q (.d z) os) : CW K r xs os Q :=
  fun as H vs Q' R r k => h as H vs Q' R r (fun p o hp rw => k (.ref p) (upd H p o) (.d z) os (Go.new hp) (R.new hp) rw q) fun w rw => k w H (.d z) os (Go.refl _ _) R rw q
theorem bw_new {r : R2} {x y : Sv} {z : D}
    (h : ∀ as H v u (Q' : VK), Ro K as H os → SvR K as H v x → SvR K as H u y → (∀ p o, H p = none → Dx K as (upd H p o) (.ref p) z → Q' (.ref p) (upd H p o)) → (∀ v, Dx K as H v z → Q' v H) → r v u H Q') (q : Q (.d z) os) : BW K r x y os Q :=
  fun as H v u Q' R rx ry k => h as H v u Q' R rx ry (fun p o hp rw => k (.ref p) (upd H p o) (.d z) os (Go.new hp) (R.new hp) rw q) fun w rw => k w H (.d z) os (Go.refl _ _) R rw q
/-- ints -/
theorem bw_i0 {g : Int → Int → Int} {i j : Int} (q : Q (.d (.int (g i j))) os) : BW K (rI0 fun i j => .int (g i j)) (.d (.int i)) (.d (.int j)) os Q :=
  bw_pure (fun as H v u Q' R rx ry k => by
    cases rx
    cases ry
    exact ⟨i, j, rfl, rfl, k _ (.int _)⟩) q
theorem bw_ib {g : Int → Int → Bool} {i j : Int} (q : Q (.d (.bl (g i j))) os) : BW K (rI0 fun i j => .bl (g i j)) (.d (.int i)) (.d (.int j)) os Q :=
  bw_pure (fun as H v u Q' R rx ry k => by
    cases rx
    cases ry
    exact ⟨i, j, rfl, rfl, k _ (.bl _)⟩) q
theorem bw_i {C : Int → Int → Prop} {g : Int → Int → Int} {i j : Int} (c : C i j) (q : Q (.d (.int (g i j))) os) : BW K (rI C fun i j => .int (g i j)) (.d (.int i)) (.d (.int j)) os Q :=
  bw_pure (fun as H v u Q' R rx ry k => by
    cases rx
    cases ry
    exact ⟨i, j, rfl, rfl, c, k _ (.int _)⟩) q
/-- texts -/
def rCatS : R2 := fun x y H Q => ∃ i j, x = .str i ∧ y = .str j ∧ i.length + j.length ≤ sizeLine ∧ Q (.str (i ++ j)) H
theorem bw_catS {i j : Str} (c : i.length + j.length ≤ sizeLine) (q : Q (.d (.str (i ++ j))) os) : BW K rCatS (.d (.str i)) (.d (.str j)) os Q :=
  bw_pure (fun as H v u Q' R rx ry k => by
    cases rx
    cases ry
    exact ⟨i, j, rfl, rfl, c, k _ (.str _)⟩) q
theorem bw_inS {c : Nat} {z : Str} (q : Q (.d (.bl (decide (c ∈ z.cps.toList)))) os) : BW K rInS (.d (.str ⟨#[c]⟩)) (.d (.str z)) os Q :=
  bw_pure (fun as H v u Q' R rx ry k => by
    cases rx
    cases ry
    exact ⟨c, z, rfl, rfl, k _ (.bl _)⟩) q
theorem bw_notInS {c : Nat} {z : Str} (q : Q (.d (.bl (!decide (c ∈ z.cps.toList)))) os) : BW K rNotInS (.d (.str ⟨#[c]⟩)) (.d (.str z)) os Q :=
  bw_pure (fun as H v u Q' R rx ry k => by
    cases rx
    cases ry
    exact ⟨c, z, rfl, rfl, k _ (.bl _)⟩) q
theorem bw_eqS {i j : Str} (q : Q (.d (.bl (decide (i = j)))) os) : BW K rEq (.d (.str i)) (.d (.str j)) os Q :=
  bw_pure (fun as H v u Q' R rx ry k => by
    cases rx
    cases ry
    have e : decide (V.str i = V.str j) = decide (i = j) := by simp
    exact ⟨rfl, by rw [e]; exact k _ (.bl _)⟩) q
theorem bw_neS {i j : Str} (q : Q (.d (.bl (!decide (i = j)))) os) : BW K rNe (.d (.str i)) (.d (.str j)) os Q :=
  bw_pure (fun as H v u Q' R rx ry k => by
    cases rx
    cases ry
    have e : decide (V.str i = V.str j) = decide (i = j) := by simp
    exact ⟨rfl, by rw [e]; exact k _ (.bl _)⟩) q
theorem bw_eqI {i j : Int} (q : Q (.d (.bl (decide (i = j)))) os) : BW K rEq (.d (.int i)) (.d (.int j)) os Q :=
  bw_pure (fun as H v u Q' R rx ry k => by
    cases rx
    cases ry
    have e : decide (V.int i = V.int j) = decide (i = j) := by simp
    exact ⟨rfl, by rw [e]; exact k _ (.bl _)⟩) q
theorem bw_neI {i j : Int} (q : Q (.d (.bl (!decide (i = j)))) os) : BW K rNe (.d (.int i)) (.d (.int j)) os Q :=
  bw_pure (fun as H v u Q' R rx ry k => by
    cases rx
    cases ry
    have e : decide (V.int i = V.int j) = decide (i = j) := by simp
    exact ⟨rfl, by rw [e]; exact k _ (.bl _)⟩) q
/-- data at any depth -/
theorem bw_eqD {x y : D} {p r : PyData} (hx : x.py = some p) (hy : y.py = some r) (sp : SeqAt.shaped p = true) (sr : SeqAt.shaped r = true) (q : Q (.d (.bl (PyData.eqv p r))) os) : BW K (rEqD K) (.d x) (.d y) os Q :=
  bw_pure (fun as H v u Q' R rx ry k => ⟨p, r, Dx.dp rx hx, Dx.dp ry hy, sp, sr, k _ (.bl _)⟩) q
theorem bw_neD {x y : D} {p r : PyData} (hx : x.py = some p) (hy : y.py = some r) (sp : SeqAt.shaped p = true) (sr : SeqAt.shaped r = true) (q : Q (.d (.bl (!PyData.eqv p r))) os) : BW K (rNeD K) (.d x) (.d y) os Q :=
  bw_pure (fun as H v u Q' R rx ry k => ⟨p, r, Dx.dp rx hx, Dx.dp ry hy, sp, sr, k _ (.bl _)⟩) q
/-- an item -/
theorem DxA.atI {as : List Addr} {H : Hp} {vs : List V} {ds : List D} {i : Int} {z : D} (r : DxA K as H vs ds) (h : L2.atI ds i = some z) : ∃ u, L2.atI vs i = some u ∧ Dx K as H u z := by
  unfold L2.atI at h ⊢
  rw [r.length]
  cases e : ixN ds.length i with
  | none => rw [e] at h; cases h
  | some j =>
    rw [e] at h
    exact r.get h
theorem bw_ixL {xs : List D} {i : Int} {z : D} (h : L2.atI xs i = some z) (q : Q (.d z) os) : BW K (rIxL K) (.d (.lst xs)) (.d (.int i)) os Q :=
  bw_pure (fun as H v u Q' R rx ry k => by
    cases rx with
    | lst hl hr =>
      cases ry
      obtain ⟨u, e, r⟩ := hr.atI h
      exact ⟨_, _, i, u, rfl, rfl, hl.sq, e, k _ r⟩) q
theorem bw_ixT {xs : List D} {i : Int} {z : D} (h : L2.atI xs i = some z) (q : Q (.d z) os) : BW K (rIxT K) (.d (.tup xs)) (.d (.int i)) os Q :=
  bw_pure (fun as H v u Q' R rx ry k => by
    cases rx with
    | tup hl hr =>
      cases ry
      obtain ⟨u, e, r⟩ := hr.atI h
      exact ⟨_, _, i, u, rfl, rfl, hl.sq, e, k _ r⟩) q
theorem bw_ixS {s : Str} {i : Int} {c : Nat} (hz : s.length ≤ sizeLine) (h : L2.atI s.cps.toList i = some c) (q : Q (.d (.str ⟨#[c]⟩)) os) : BW K rIxS (.d (.str s)) (.d (.int i)) os Q :=
  bw_pure (fun as H v u Q' R rx ry k => by
    cases rx
    cases ry
    exact ⟨s, i, c, rfl, rfl, hz, h, k _ (.str _)⟩) q
/-- lengths -/
def rLen (K : PySem.W.Frag) : List V → Hp → VK → Prop := fun xs H Q => ∃ p ys, xs = [.ref p] ∧ (SqL K H p ys ∨ SqT K H p ys) ∧ Q (.int ys.length) H
def rLenT : List V → Hp → VK → Prop := fun xs H Q => ∃ z, xs = [.str z] ∧ z.length ≤ sizeLine ∧ Q (.int z.length) H
theorem cw_lenL {xs : List D} (q : Q (.d (.int (xs.length : Int))) os) : CW K (rLen K) [.d (.lst xs)] os Q :=
  cw_pure (fun as H vs Q' R r k => by
    cases r with
    | cons h t =>
      cases t
      cases h with
      | lst hl hr =>
        refine ⟨_, _, rfl, .inl hl.sq, ?_⟩
        rw [hr.length]
        exact k _ (.int _)) q
theorem cw_lenU {xs : List D} (q : Q (.d (.int (xs.length : Int))) os) : CW K (rLen K) [.d (.tup xs)] os Q :=
  cw_pure (fun as H vs Q' R r k => by
    cases r with
    | cons h t =>
      cases t
      cases h with
      | tup hl hr =>
        refine ⟨_, _, rfl, .inr hl.sq, ?_⟩
        rw [hr.length]
        exact k _ (.int _)) q
theorem cw_lenS {z : Str} (hz : z.length ≤ sizeLine) (q : Q (.d (.int (z.length : Int))) os) : CW K rLenT [.d (.str z)] os Q :=
  cw_pure (fun as H vs Q' R r k => by
    cases r with
    | cons h t =>
      cases t
      cases h
      exact ⟨z, rfl, hz, k _ (.int _)⟩) q
/-- tuple(a list), list(..) -/
def rTupOf (K : PySem.W.Frag) : List V → Hp → VK → Prop := fun xs H Q => ∃ p ys, xs = [.ref p] ∧ ((SqL K H p ys ∧ ∀ l, H l = none → Q (.ref l) (upd H l (.tup ys))) ∨ (SqT K H p ys ∧ Q (.ref p) H))
theorem dx_newT {as : List Addr} {H : Hp} {p : Addr} {vs : List V} {ds : List D} (R : Ro K as H os) (hp : H p = none) (r : DxA K as H vs ds) : Dx K as (upd H p (.tup vs)) (.ref p) (.tup ds) :=
  .tup (.inl ⟨R.notin hp, .inl upd_same⟩) (r.way (Way.of_go (Go.new hp)))
theorem dx_newL {as : List Addr} {H : Hp} {p : Addr} {vs : List V} {ds : List D} (R : Ro K as H os) (hp : H p = none) (r : DxA K as H vs ds) : Dx K as (upd H p (.lst vs)) (.ref p) (.lst ds) :=
  .lst (.inl ⟨R.notin hp, .inl upd_same⟩) (r.way (Way.of_go (Go.new hp)))
theorem cw_tupL {xs : List D} (q : Q (.d (.tup xs)) os) : CW K (rTupOf K) [.d (.lst xs)] os Q :=
  cw_new (fun as H vs Q' R r k1 k2 => by
    cases r with
    | cons h t =>
      cases t
      cases h with
      | lst hl hr => exact ⟨_, _, rfl, .inl ⟨hl.sq, fun l hl => k1 l _ hl (dx_newT R hl hr)⟩⟩) q
theorem cw_tupU {xs : List D} (q : Q (.d (.tup xs)) os) : CW K (rTupOf K) [.d (.tup xs)] os Q :=
  cw_new (fun as H vs Q' R r k1 k2 => by
    cases r with
    | cons h t =>
      cases t
      cases h with
      | tup hl hr => exact ⟨_, _, rfl, .inr ⟨hl.sq, k2 _ (.tup hl hr)⟩⟩) q
def rListOf (K : PySem.W.Frag) : List V → Hp → VK → Prop := fun xs H Q => ∃ p ys, xs = [.ref p] ∧ (SqL K H p ys ∨ SqT K H p ys) ∧ ∀ l, H l = none → Q (.ref l) (upd H l (.lst ys))
theorem cw_lstL {xs : List D} (q : Q (.d (.lst xs)) os) : CW K (rListOf K) [.d (.lst xs)] os Q :=
  cw_new (fun as H vs Q' R r k1 k2 => by
    cases r with
    | cons h t =>
      cases t
      cases h with
      | lst hl hr => exact ⟨_, _, rfl, .inl hl.sq, fun l hl => k1 l _ hl (dx_newL R hl hr)⟩) q
theorem cw_lstU {xs : List D} (q : Q (.d (.lst xs)) os) : CW K (rListOf K) [.d (.tup xs)] os Q :=
  cw_new (fun as H vs Q' R r k1 k2 => by
    cases r with
    | cons h t =>
      cases t
      cases h with
      | tup hl hr => exact ⟨_, _, rfl, .inr hl.sq, fun l hl => k1 l _ hl (dx_newL R hl hr)⟩) q
/-- abs, min, max, int -/
def rAbs : List V → Hp → VK → Prop := fun xs H Q => ∃ i, xs = [.int i] ∧ Q (.int (if i < 0 then -i else i)) H
theorem cw_abs {i : Int} (q : Q (.d (.int (if i < 0 then -i else i))) os) : CW K rAbs [.d (.int i)] os Q :=
  cw_pure (fun as H vs Q' R r k => by
    cases r with
    | cons h t =>
      cases t
      cases h
      exact ⟨i, rfl, k _ (.int _)⟩) q
def rMin2 : List V → Hp → VK → Prop := fun xs H Q => ∃ i j, xs = [.int i, .int j] ∧ Q (.int (if j < i then j else i)) H
theorem cw_min2 {i j : Int} (q : Q (.d (.int (if j < i then j else i))) os) : CW K rMin2 [.d (.int i), .d (.int j)] os Q :=
  cw_pure (fun as H vs Q' R r k => by
    cases r with
    | cons h t =>
      cases t with
      | cons h2 t =>
        cases t
        cases h
        cases h2
        exact ⟨i, j, rfl, k _ (.int _)⟩) q
def rInt1 : List V → Hp → VK → Prop := fun xs H Q => (∃ i, xs = [.int i] ∧ Q (.int i) H) ∨ ∃ k, xs = [.bl k] ∧ Q (.int (if k then 1 else 0)) H
theorem cw_intI {i : Int} (q : Q (.d (.int i)) os) : CW K rInt1 [.d (.int i)] os Q :=
  cw_pure (fun as H vs Q' R r k => by
    cases r with
    | cons h t =>
      cases t
      cases h
      exact .inl ⟨i, rfl, k _ (.int _)⟩) q
theorem cw_intB {b : Bool} (q : Q (.d (.int (if b then 1 else 0))) os) : CW K rInt1 [.d (.bl b)] os Q :=
  cw_pure (fun as H vs Q' R r k => by
    cases r with
    | cons h t =>
      cases t
      cases h
      exact .inr ⟨b, rfl, k _ (.int _)⟩) q
end
section
variable {X : Cx}
theorem op_addS : OpR X (binaryOp .Add) rCatS := op_add_str
theorem call_lenA : CallR X (.builtin "len") (rLen X.K) := call_len_seq
theorem call_lenS1 : CallR X (.builtin "len") rLenT := call_len_str
theorem call_tupA : CallR X (.type "tuple") (rTupOf X.K) := call_tuple_of
theorem call_lstA : CallR X (.type "list") (rListOf X.K) := call_list_of
theorem call_absA (hc : X.calm = true) : CallR X (.builtin "abs") rAbs := by first | exact call_abs | exact call_abs hc
theorem call_min2A (hc : X.calm = true) : CallR X (.builtin "min") rMin2 := call_min2 hc
theorem call_intA : CallR X (.type "int") rInt1 := call_int1
end

/-! ### displays, slices -/
section
variable {K : PySem.W.Frag} {X : Xc} {S : Sa} {Q : Sv → Os → Prop} {ta : TA} {te : TE} {tl th : TO}
inductive AllD : List Sv → List D → Prop
  | nil : AllD [] []
  | cons {x : D} {xs : List Sv} {ds : List D} : AllD xs ds → AllD (.d x :: xs) (x :: ds)
theorem AllD.dx {as : List Addr} {H : Hp} : ∀ {vs : List V} {xs : List Sv} {ds : List D}, AllD xs ds → SvA K as H vs xs → DxA K as H vs ds
  | _, _, _, .nil, .nil => .nil
  | _, _, _, .cons a, .cons h r => .cons h (AllD.dx a r)
theorem ew_lst (h : AW K X ta S fun xs os => ∃ ds, AllD xs ds ∧ ds.length ≤ sizeLine ∧ Q (.d (.lst ds)) os) : EW K X (tLst ta) S Q := fun as H σ Q' R x k =>
  h as H σ _ R x fun vs H1 xs os1 g1 R1 r1 ⟨ds, a, hl, q⟩ => ⟨by rw [(a.dx r1).length]; exact hl, fun p hp => k (.ref p) _ (.d (.lst ds)) os1 (g1.trans (Go.new hp)) (R1.new hp) (dx_newL R1 hp (a.dx r1)) q⟩
theorem ew_tup (h : AW K X ta S fun xs os => ∃ ds, AllD xs ds ∧ ds.length ≤ sizeLine ∧ Q (.d (.tup ds)) os) : EW K X (tTup ta) S Q := fun as H σ Q' R x k =>
  h as H σ _ R x fun vs H1 xs os1 g1 R1 r1 ⟨ds, a, hl, q⟩ => ⟨by rw [(a.dx r1).length]; exact hl, fun p hp => k (.ref p) _ (.d (.tup ds)) os1 (g1.trans (Go.new hp)) (R1.new hp) (dx_newT R1 hp (a.dx r1)) q⟩
theorem ow_none {Q : Option Int → Os → Prop} (q : Q none S.os) : OW K X tNoPart S Q := fun as H σ Q' R x k => k none H S.os (Go.refl _ _) R.o q
theorem ow_some {Q : Option Int → Os → Prop} (h : EW K X te S fun x os => ∃ i, x = .d (.int i) ∧ Q (some i) os) : OW K X (tPart te) S Q := fun as H σ Q' R x k =>
  h as H σ _ R x fun v H1 d os1 g1 R1 r1 ⟨i, e, q⟩ => by
    subst e
    cases r1
    exact ⟨i, rfl, k (some i) H1 os1 g1 R1 q⟩
def SW (K : PySem.W.Frag) (r : V → Option Int → Option Int → Hp → VK → Prop) (x : Sv) (lo hi : Option Int) (os : Os) (Q : Sv → Os → Prop) : Prop :=
  ∀ as H v (Q' : VK), Ro K as H os → SvR K as H v x → (∀ z H' d os', Go as H H' → Ro K as H' os' → SvR K as H' z d → Q d os' → Q' z H') → r v lo hi H Q'
theorem ew_sl {r : V → Option Int → Option Int → Hp → VK → Prop} (h : EW K X te S fun x os1 => OW K X tl ⟨S.s, os1⟩ fun lo os2 => OW K X th ⟨S.s, os2⟩ fun hi os3 => SW K r x lo hi os3 Q) : EW K X (tSl r te tl th) S Q := fun as H σ Q' R x k =>
  h as H σ _ R x fun v H1 d os1 g1 R1 r1 q1 => q1 as H1 σ _ (R.go g1 R1) (x.go g1 R1) fun lo H2 os2 g2 R2 q2 => q2 as H2 σ _ (R.go (g1.trans g2) R2) (x.go (g1.trans g2) R2) fun hi H3 os3 g3 R3 q3 =>
    q3 as H3 v Q' R3 (r1.go (g2.trans g3)) fun z H4 e os4 g4 R4 r4 q4 => k z H4 e os4 (((g1.trans g2).trans g3).trans g4) R4 r4 q4
theorem sw_S {z : Str} {lo hi : Option Int} {os : Os} (hz : z.length ≤ sizeLine) (q : Q (.d (.str (cutS z lo hi))) os) : SW K rSlS (.d (.str z)) lo hi os Q := fun as H v Q' R r k => by
  cases r
  exact ⟨z, rfl, hz, k _ H (.d (.str _)) os (Go.refl _ _) R (Dx.str _) q⟩
def cutD (xs : List D) (lo hi : Option Int) : List D := (xs.drop (HT.sIx xs.length 0 lo)).take (HT.sIx xs.length xs.length hi - HT.sIx xs.length 0 lo)
theorem cut_dx {as : List Addr} {H : Hp} {vs : List V} {ds : List D} (r : DxA K as H vs ds) (lo hi : Option Int) : DxA K as H (cutV vs lo hi) (cutD ds lo hi) := by
  unfold cutV cutD
  rw [r.length]
  exact (r.drop _).take _
theorem sw_L {xs : List D} {lo hi : Option Int} {os : Os} (q : Q (.d (.lst (cutD xs lo hi))) os) : SW K (rSlL K) (.d (.lst xs)) lo hi os Q := fun as H v Q' R r k => by
  cases r with
  | lst hl hr => exact ⟨_, _, rfl, hl.sq, fun p hp => k _ _ (.d (.lst _)) os (Go.new hp) (R.new hp) (dx_newL R hp (cut_dx hr lo hi)) q⟩
end
end Br

/-! BrC: what is walked, targets, loops, comprehensions, the store's dicts and lists. -/
namespace Br
open PySem L2

/-! ### what is walked -/
/-- J walks over ds, whatever comes later -/
def ItD (K : PySem.W.Frag) (J : It) (as : List Addr) (H : Hp) (ds : List D) : Prop :=
  ∀ bs H2 os, Stp as H bs H2 → Ro K bs H2 os → ∀ i, (∀ d, ds[i]? = some d → J.go i H2 ∧ ∀ x H3, J.yld i H2 x H3 → Go bs H2 H3 ∧ Ro K bs H3 os ∧ Dx K bs H3 x d) ∧ (ds.length ≤ i → J.stop i H2)
def IW (K : PySem.W.Frag) (X : Xc) (wi : TI) (S : Sa) (Q : List D → Os → Prop) : Prop :=
  ∀ as H σ (R' : It → Hp → Prop), Re K as H σ S → XH K X as H σ S.s → (∀ J H' ds os', Go as H H' → Ro K as H' os' → ItD K J as H' ds → Q ds os' → R' J H') → wi σ H R'
section
variable {K : PySem.W.Frag} {X : Xc} {S : Sa} {tl : TE} {ta : TA} {Q : List D → Os → Prop}
theorem iw_list (h : EW K X tl S fun x os => ∃ ds, x = .d (.lst ds) ∧ Q ds os) : IW K X (iList K tl) S Q := fun as H σ R' R x k =>
  h as H σ _ R x fun v H1 d os1 g1 R1 r1 ⟨ds, e, q⟩ => by
    subst e
    cases r1 with
    | @lst a xs _ hl hr =>
      refine ⟨a, rfl, ⟨xs, hl.sq⟩, k (Itl K a) H1 ds os1 g1 R1 (fun bs H2 os s R2 i => ?_) q⟩
      have hl2 := s.way.l _ _ hl
      have hr2 := hr.way s.way
      refine ⟨fun d hd => ?_, fun hn => ⟨xs, hl2.sq, by rw [hr.length]; exact hn⟩⟩
      obtain ⟨u, e1, e2⟩ := hr2.get hd
      refine ⟨⟨xs, u, hl2.sq, e1⟩, fun y H3 hy => ?_⟩
      obtain ⟨rfl, hy⟩ := hy
      have z := hy xs hl2.sq
      rw [e1] at z
      cases z
      exact ⟨Go.refl _ _, R2, e2⟩
theorem iw_tup (h : EW K X tl S fun x os => ∃ ds, x = .d (.tup ds) ∧ Q ds os) : IW K X (iTup K tl) S Q := fun as H σ R' R x k =>
  h as H σ _ R x fun v H1 d os1 g1 R1 r1 ⟨ds, e, q⟩ => by
    subst e
    cases r1 with
    | @tup a xs _ hl hr =>
      refine ⟨a, rfl, ⟨xs, hl.sq⟩, k (Itt K a) H1 ds os1 g1 R1 (fun bs H2 os s R2 i => ?_) q⟩
      have hl2 := s.way.t _ _ hl
      have hr2 := hr.way s.way
      refine ⟨fun d hd => ?_, fun hn => ⟨xs, hl2.sq, by rw [hr.length]; exact hn⟩⟩
      obtain ⟨u, e1, e2⟩ := hr2.get hd
      refine ⟨⟨xs, u, hl2.sq, e1⟩, fun y H3 hy => ?_⟩
      obtain ⟨rfl, hy⟩ := hy
      have z := hy xs hl2.sq
      rw [e1] at z
      cases z
      exact ⟨Go.refl _ _, R2, e2⟩
/-- lo, lo + c, .. -/
def rngD (lo c : Int) (n : Nat) : List D := (List.range n).map fun i => D.int (lo + (i : Nat) * c)
theorem rngD_get {lo c : Int} {n i : Nat} {d : D} (h : (rngD lo c n)[i]? = some d) : i < n ∧ d = .int (lo + (i : Nat) * c) := by
  unfold rngD at h
  rw [List.getElem?_map] at h
  obtain ⟨j, h1, h2⟩ := Option.map_eq_some_iff.mp h
  obtain ⟨h3, h4⟩ := List.getElem?_eq_some_iff.mp h1
  rw [List.getElem_range] at h4
  rw [List.length_range] at h3
  subst h4
  exact ⟨h3, h2.symm⟩
theorem rngD_len {lo c : Int} {n : Nat} : (rngD lo c n).length = n := by unfold rngD; simp
theorem iw_rng1 (h : AW K X ta S fun xs os => ∃ j : Int, xs = [.d (.int j)] ∧ -(2 ^ 62) ≤ j ∧ j < 2 ^ 62 ∧ Q (rngD 0 1 j.toNat) os) : IW K X (iRng1 ta) S Q := fun as H σ R' R x k =>
  h as H σ _ R x fun vs H1 ds os1 g1 R1 r1 ⟨j, e, h1, h2, q⟩ => by
    subst e
    cases r1 with
    | cons r1 rn =>
      cases rn
      cases r1
      refine ⟨j, rfl, h1, h2, k _ H1 _ os1 g1 R1 (fun bs H2 os s R2 i => ⟨fun d hd => ?_, fun hn => ?_⟩) q⟩
      · obtain ⟨hi, rfl⟩ := rngD_get hd
        refine ⟨hi, fun y H3 hy => ?_⟩
        obtain ⟨rfl, rfl⟩ := hy
        refine ⟨Go.refl _ _, R2, ?_⟩
        rw [Int.mul_one]
        exact .int _
      · rw [rngD_len] at hn
        exact hn
theorem iw_rng2 (h : AW K X ta S fun xs os => ∃ i j : Int, xs = [.d (.int i), .d (.int j)] ∧ (-(2 ^ 62) ≤ i ∧ i < 2 ^ 62 ∧ -(2 ^ 62) ≤ j ∧ j < 2 ^ 62) ∧ Q (rngD i 1 (j - i).toNat) os) : IW K X (iRng2 ta) S Q := fun as H σ R' R x k =>
  h as H σ _ R x fun vs H1 ds os1 g1 R1 r1 ⟨i0, j, e, h1, q⟩ => by
    subst e
    cases r1 with
    | cons r1 rn =>
      cases rn with
      | cons r2 rn =>
        cases rn
        cases r1
        cases r2
        refine ⟨i0, j, rfl, h1, k _ H1 _ os1 g1 R1 (fun bs H2 os s R2 i => ⟨fun d hd => ?_, fun hn => ?_⟩) q⟩
        · obtain ⟨hi, rfl⟩ := rngD_get hd
          refine ⟨hi, fun y H3 hy => ?_⟩
          obtain ⟨rfl, rfl⟩ := hy
          refine ⟨Go.refl _ _, R2, ?_⟩
          rw [Int.mul_one]
          exact .int _
        · rw [rngD_len] at hn
          exact hn
theorem iw_rng3 (h : AW K X ta S fun xs os => ∃ (i j c : Int) (n : Nat), xs = [.d (.int i), .d (.int j), .d (.int c)] ∧ RgC i j c n ∧ Q (rngD i c n) os) : IW K X (iRng3 ta) S Q := fun as H σ R' R x k =>
  h as H σ _ R x fun vs H1 ds os1 g1 R1 r1 ⟨i0, j, c, n, e, h1, q⟩ => by
    subst e
    cases r1 with
    | cons r1 rn =>
      cases rn with
      | cons r2 rn =>
        cases rn with
        | cons r3 rn =>
          cases rn
          cases r1
          cases r2
          cases r3
          refine ⟨i0, j, c, n, rfl, h1, k _ H1 _ os1 g1 R1 (fun bs H2 os s R2 i => ⟨fun d hd => ?_, fun hn => ?_⟩) q⟩
          · obtain ⟨hi, rfl⟩ := rngD_get hd
            refine ⟨hi, fun y H3 hy => ?_⟩
            obtain ⟨rfl, rfl⟩ := hy
            exact ⟨Go.refl _ _, R2, .int _⟩
          · rw [rngD_len] at hn
            exact hn
theorem iw_str (h : EW K X tl S fun x os => ∃ z : Str, x = .d (.str z) ∧ Q (z.cps.toList.map fun c => D.str ⟨#[c]⟩) os) : IW K X (iStr tl) S Q := fun as H σ R' R x k =>
  h as H σ _ R x fun v H1 d os1 g1 R1 r1 ⟨z, e, q⟩ => by
    subst e
    cases r1
    refine ⟨z, rfl, k (Its z) H1 _ os1 g1 R1 (fun bs H2 os s R2 i => ⟨fun d hd => ?_, fun hn => ?_⟩) q⟩
    · rw [List.getElem?_map] at hd
      obtain ⟨c, h1, h2⟩ := Option.map_eq_some_iff.mp hd
      have h1' : z.cps[i]? = some c := by rw [← Array.getElem?_toList]; exact h1
      have hi : i < z.cps.size := (Array.getElem?_eq_some_iff.mp h1').1
      refine ⟨hi, fun y H3 hy => ?_⟩
      obtain ⟨rfl, c', e1, rfl⟩ := hy
      rw [h1'] at e1
      cases e1
      subst h2
      exact ⟨Go.refl _ _, R2, .str _⟩
    · rw [List.length_map, Array.length_toList] at hn
      exact hn
end

/-! ### targets -/
def GW (K : PySem.W.Frag) (g : TG) (d : Sv) (S : Sa) (Q : Sa → Prop) : Prop :=
  ∀ as H σ v (Q' : St → Hp → Prop), Re K as H σ S → SvR K as H v d → (∀ σ' S', Re K as H σ' S' → Q S' → Q' σ' H) → g v σ H Q'
def GsW (K : PySem.W.Frag) (g : TGs) (ds : List D) (S : Sa) (Q : Sa → Prop) : Prop :=
  ∀ as H σ vs (Q' : St → Hp → Prop), Re K as H σ S → DxA K as H vs ds → (∀ σ' S', Re K as H σ' S' → Q S' → Q' σ' H) → g vs σ H Q'
section
variable {K : PySem.W.Frag} {X : Xc} {S : Sa} {Q : Sa → Prop} {g : TG} {gs : TGs}
theorem gw_name {j : Nat} {d : Sv} (q : Q ⟨S.s.set j (some d), S.os⟩) : GW K (gName j) d S Q := fun as H σ v Q' R r k => k _ _ (R.set j r) q
theorem gw_tup {n : Nat} {xs : List D} (hn : xs.length = n) (h : GsW K gs xs S Q) : GW K (gTup K n gs) (.d (.tup xs)) S Q := fun as H σ v Q' R r k => by
  cases r with
  | tup hl hr => exact ⟨_, _, rfl, hl.sq, by rw [hr.length]; exact hn, h as H σ _ Q' R hr k⟩
theorem gs_nil (q : Q S) : GsW K gNil [] S Q := fun as H σ vs Q' R r k => by
  cases r
  exact ⟨rfl, k σ S R q⟩
theorem gs_cons {d : D} {ds : List D} (h : GW K g (.d d) S fun S' => GsW K gs ds S' Q) : GsW K (gCons g gs) (d :: ds) S Q := fun as H σ vs Q' R r k => by
  cases r with
  | cons r1 r2 => exact ⟨_, _, rfl, h as H σ _ _ R r1 fun σ' S' R' q => q as H σ' _ Q' R' r2 k⟩
/-- x, y = e -/
theorem w_asgG {te : TE} {E : Ea} (h : EW K X te S fun d os => GW K g d ⟨S.s, os⟩ E.nx) : W K X (tAsg te g) E S := fun as H σ D R x n r b c =>
  h as H σ _ R (x.h R) fun v H1 d os1 g1 R1 r1 q1 => q1 as H1 σ v _ (R.go g1 R1) r1 fun σ' S' R' q => n as H1 σ' S' (Stp.of_go g1 R1) R' q
theorem w_par {i j : Nat} {ta : TA} {E : Ea} (h : AW K X ta S fun ds os => ∃ x y, ds = [x, y] ∧ E.nx ⟨(S.s.set i (some x)).set j (some y), os⟩) : W K X (tPar i j ta) E S := fun as H σ D R x n r b c =>
  h as H σ _ R (x.h R) fun vs H1 ds os1 g1 R1 r1 ⟨y, z, e, q⟩ => by
    subst e
    cases r1 with
    | cons r1 rn =>
      cases rn with
      | cons r2 rn =>
        cases rn
        exact ⟨_, _, rfl, n as H1 _ _ (Stp.of_go g1 R1) (((R.go g1 R1).set i r1).set j r2) q⟩
end

/-! ### for -/
section
variable {K : PySem.W.Frag} {X : Xc} {S : Sa} {E : Ea} {wi : TI} {g : TG} {tb : TS}
theorem w_for (h : IW K X wi S fun ds os => ∃ Pv : Nat → Sa → Prop, Pv 0 ⟨S.s, os⟩ ∧
      (∀ i d S', ds[i]? = some d → Pv i S' → GW K g (.d d) S' (W K X tb { nx := Pv (i + 1), ct := Pv (i + 1), bk := E.nx, rt := E.rt })) ∧ ∀ S', Pv ds.length S' → E.nx S') : W K X (tFor wi g tb) E S := fun as H σ D R x n r b c =>
  h as H σ _ R (x.h R) fun J H1 ds os1 g1 R1 it ⟨Pv, p0, turn, fin⟩ => by
    have s1 : Stp as H as H1 := Stp.of_go g1 R1
    refine ⟨fun i m σ H2 => m = ds.length - i ∧ i ≤ ds.length ∧ ∃ bs S', Stp as H1 bs H2 ∧ Re K bs H2 σ S' ∧ Pv i S', ⟨_, rfl, Nat.zero_le _, as, _, Stp.refl, R.go g1 R1, p0⟩, ?_⟩
    rintro i m σ2 H2 ⟨rfl, hi, bs, S2, s2, R2, p⟩
    by_cases hlt : i < ds.length
    · have hd : ds[i]? = some ds[i] := List.getElem?_eq_getElem hlt
      obtain ⟨hgo, hy⟩ := (it bs H2 S2.os s2 R2.o i).1 _ hd
      refine .inr ⟨hgo, fun σ' H' => ∃ cs S', Stp as H1 cs H' ∧ Re K cs H' σ' S' ∧ Pv (i + 1) S', fun σ' H' z => ⟨ds.length - (i + 1), by omega, rfl, hlt, z⟩, fun y H3 hyl => ?_⟩
      obtain ⟨g3, R3, r3⟩ := hy y H3 hyl
      have s3 : Stp bs H2 bs H3 := Stp.of_go g3 R3
      refine turn i _ S2 hd p bs H3 σ2 y _ (R2.go g3 R3) r3 fun σ4 S4 R4 w => ?_
      refine w bs H3 σ4 _ R4 ((x.stp s1).stp (s2.trans s3)) (fun cs H5 σ5 S5 s5 R5 q5 => ⟨cs, S5, (s2.trans s3).trans s5, R5, q5⟩) (fun cs H5 v d os5 s5 R5 r5 q5 => r cs H5 v d os5 (((s1.trans s2).trans s3).trans s5) R5 r5 q5)
        (fun cs H5 σ5 S5 s5 R5 q5 => n cs H5 σ5 S5 (((s1.trans s2).trans s3).trans s5) R5 q5) (fun cs H5 σ5 S5 s5 R5 q5 => ⟨cs, S5, (s2.trans s3).trans s5, R5, q5⟩)
    · have e : i = ds.length := by omega
      subst e
      exact .inl ⟨(it bs H2 S2.os s2 R2.o _).2 (Nat.le_refl _), n bs H2 σ2 S2 (s1.trans s2) R2 (fin S2 p)⟩
/-- while, by a word that falls -/
theorem w_while {tc : TT} (Pv : Nat → Sa → Prop) (m0 : Nat) (p0 : Pv m0 S)
    (turn : ∀ m S', Pv m S' → TW K X tc S' fun b os => if b = true then W K X tb { nx := fun S2 => ∃ m', m' < m ∧ Pv m' S2, ct := fun S2 => ∃ m', m' < m ∧ Pv m' S2, bk := E.nx, rt := E.rt } ⟨S'.s, os⟩ else E.nx ⟨S'.s, os⟩) : W K X (tWhile tc tb) E S := fun as H σ D R x n r b c => by
  refine ⟨fun m σ H2 => ∃ bs S', Stp as H bs H2 ∧ Re K bs H2 σ S' ∧ Pv m S', ⟨m0, as, S, Stp.refl, R, p0⟩, ?_⟩
  rintro m σ2 H2 ⟨bs, S2, s2, R2, p⟩
  refine turn m S2 p bs H2 σ2 _ R2 ((x.stp s2).h R2) fun y H3 os3 g3 R3 q => ?_
  have s3 : Stp bs H2 bs H3 := Stp.of_go g3 R3
  cases y with
  | false =>
    show D.nx σ2 H3
    exact n bs H3 σ2 _ (s2.trans s3) (R2.go g3 R3) q
  | true =>
    show ∃ N : St → Hp → Prop, _
    refine ⟨fun σ' H' => ∃ m', m' < m ∧ ∃ cs S', Stp as H cs H' ∧ Re K cs H' σ' S' ∧ Pv m' S', fun σ' H' ⟨m', l, z⟩ => ⟨m', l, z⟩, ?_⟩
    refine (show W K X tb _ _ from q) bs H3 σ2 _ (R2.go g3 R3) (x.stp (s2.trans s3)) (fun cs H5 σ5 S5 s5 R5 ⟨m', l, q5⟩ => ⟨m', l, cs, S5, (s2.trans s3).trans s5, R5, q5⟩) (fun cs H5 v d os5 s5 R5 r5 q5 => r cs H5 v d os5 ((s2.trans s3).trans s5) R5 r5 q5)
      (fun cs H5 σ5 S5 s5 R5 q5 => n cs H5 σ5 S5 ((s2.trans s3).trans s5) R5 q5) (fun cs H5 σ5 S5 s5 R5 ⟨m', l, q5⟩ => ⟨m', l, cs, S5, (s2.trans s3).trans s5, R5, q5⟩)
end

/-! ### comprehensions -/
def wipeS (s : Sl) : List Nat → Sl
  | [] => s
  | v :: vs => (wipeS s vs).set v none
section
variable {K : PySem.W.Frag} {X : Xc} {S : Sa} {Q : Sv → Os → Prop} {wi : TI} {g : TG} {tt : TT} {te : TE}
theorem wipe_in {σ : St} {i : Nat} : ∀ {vs : List Nat}, i ∈ vs → (wipe σ vs)[i]? = if i < σ.length then some none else none
  | [], h => nomatch h
  | v :: vs, h => by
    show ((wipe σ vs).set v none)[i]? = _
    by_cases hv : v = i
    · subst hv
      rw [List.getElem?_set, wipe_length]
      simp
    · rw [List.getElem?_set_ne hv]
      rcases List.mem_cons.mp h with e | h
      · exact absurd e.symm hv
      · exact wipe_in h
theorem wipe_out1 {σ : St} {i : Nat} : ∀ {vs : List Nat}, i ∉ vs → (wipe σ vs)[i]? = σ[i]?
  | [], _ => rfl
  | v :: vs, h => by
    have h1 : v ≠ i := fun e => h (by rw [e]; exact List.mem_cons_self)
    show ((wipe σ vs).set v none)[i]? = _
    rw [List.getElem?_set_ne h1]
    exact wipe_out1 fun z => h (List.mem_cons_of_mem _ z)
theorem wipe_ext {σ τ : St} {vs : List Nat} (hl : τ.length = σ.length) (h : ∀ i, i ∉ vs → τ[i]? = σ[i]?) : wipe τ vs = wipe σ vs := by
  refine List.ext_getElem? fun i => ?_
  by_cases hi : i ∈ vs
  · rw [wipe_in hi, wipe_in hi, hl]
  · rw [wipe_out1 hi, wipe_out1 hi, h i hi]
theorem re_wipe {as : List Addr} {H : Hp} {σ : St} {s : Sl} {os : Os} : ∀ {vs : List Nat}, Re K as H σ ⟨s, os⟩ → Re K as H (wipe σ vs) ⟨wipeS s vs, os⟩
  | [], R => R
  | v :: vs, R => by
    have ih := re_wipe (vs := vs) R
    refine ⟨R.o, by show ((wipe σ vs).set v none).length = ((wipeS s vs).set v none).length; simpa using ih.slen, fun i d h => ?_⟩
    have h' : ((wipeS s vs).set v none)[i]? = some (some d) := h
    by_cases hv : v = i
    · subst hv
      by_cases hl : v < (wipeS s vs).length
      · rw [List.getElem?_set_self hl] at h'
        cases h'
      · rw [List.getElem?_eq_none (by simpa using hl)] at h'
        cases h'
    · rw [List.getElem?_set_ne hv] at h'
      obtain ⟨u, e, r⟩ := ih.slot i d h'
      exact ⟨u, by show ((wipe σ vs).set v none)[i]? = _; rw [List.getElem?_set_ne hv]; exact e, r⟩
/-- a target that stores at vs alone -/
def Wg (g : TG) (vs : List Nat) : Prop := ∀ v σ H Q, g v σ H Q → g v σ H fun σ2 H2 => Q σ2 H2 ∧ σ2.length = σ.length ∧ ∀ i, i ∉ vs → σ2[i]? = σ[i]?
def Wgs (g : TGs) (vs : List Nat) : Prop := ∀ v σ H Q, g v σ H Q → g v σ H fun σ2 H2 => Q σ2 H2 ∧ σ2.length = σ.length ∧ ∀ i, i ∉ vs → σ2[i]? = σ[i]?
theorem wg_name {j : Nat} {vs : List Nat} (h : j ∈ vs) : Wg (gName j) vs := fun v σ H Q q => ⟨q, by simp, fun i hi => List.getElem?_set_ne fun (e : j = i) => hi (e ▸ h)⟩
theorem wgs_nil {vs : List Nat} : Wgs gNil vs := fun v σ H Q q => ⟨q.1, q.2, rfl, fun _ _ => rfl⟩
/-- what follows may be widened -/
def Mg (g : TG) : Prop := ∀ v σ H (Q Q' : St → Hp → Prop), (∀ σ H, Q σ H → Q' σ H) → g v σ H Q → g v σ H Q'
def Mgs (g : TGs) : Prop := ∀ v σ H (Q Q' : St → Hp → Prop), (∀ σ H, Q σ H → Q' σ H) → g v σ H Q → g v σ H Q'
theorem mg_name {j : Nat} : Mg (gName j) := fun v σ H Q Q' k q => k _ _ q
theorem mgs_nil : Mgs gNil := fun v σ H Q Q' k q => ⟨q.1, k _ _ q.2⟩
theorem mgs_cons {g : TG} {gs : TGs} (a : Mg g) (b : Mgs gs) : Mgs (gCons g gs) := fun v σ H Q Q' k ⟨x, r, e, q⟩ => ⟨x, r, e, a _ _ _ _ _ (fun σ2 H2 z => b _ _ _ _ _ k z) q⟩
theorem mg_tup {n : Nat} {gs : TGs} (b : Mgs gs) : Mg (gTup K n gs) := fun v σ H Q Q' k ⟨a, xs, e1, e2, e3, q⟩ => ⟨a, xs, e1, e2, e3, b _ _ _ _ _ k q⟩
theorem wgs_cons {g : TG} {gs : TGs} {vs : List Nat} (m : Mg g) (mb : Mgs gs) (a : Wg g vs) (b : Wgs gs vs) : Wgs (gCons g gs) vs := fun v σ H Q ⟨x, r, e, q⟩ =>
  ⟨x, r, e, m _ _ _ _ _ (fun σ2 H2 ⟨z, l, o⟩ => mb _ _ _ _ _ (fun σ3 H3 ⟨y, l2, o2⟩ => ⟨y, l2.trans l, fun i hi => (o2 i hi).trans (o i hi)⟩) (b _ _ _ _ z)) (a _ _ _ _ q)⟩
theorem wg_tup {n : Nat} {gs : TGs} {vs : List Nat} (b : Wgs gs vs) : Wg (gTup K n gs) vs := fun v σ H Q ⟨a, xs, e1, e2, e3, q⟩ => ⟨a, xs, e1, e2, e3, b _ _ _ _ q⟩
theorem ro_add {as : List Addr} {H : Hp} {os : Os} {p : Addr} (R : Ro K as H os) (hp : H p = none) : Ro K (as ++ [p]) (upd H p (.lst [])) (os ++ [.ml []]) := by
  have R' := R.new (o := .lst []) hp
  refine ⟨?_, by simp [R.len], fun k a ob h1 h2 => ?_⟩
  · refine List.nodup_append.mpr ⟨R.nd, List.nodup_cons.mpr ⟨by simp, List.nodup_nil⟩, fun a ha b hb e => ?_⟩
    rw [List.mem_singleton.mp hb] at e
    exact R.notin hp (e ▸ ha)
  · by_cases hk : k < as.length
    · rw [List.getElem?_append_left hk] at h1
      rw [List.getElem?_append_left (by rw [← R.len]; exact hk)] at h2
      refine (R.own k a ob h1 h2).way ?_ fun u e => ?_
      · have w1 : Way K as (as ++ [p]) H H := Way.of_add hp
        have w2 : Way K (as ++ [p]) (as ++ [p]) H (upd H p (.lst [])) := Way.of_go (Go.at (by simp))
        exact ⟨fun a xs z => w2.l _ _ (w1.l _ _ z), fun a xs z => w2.t _ _ (w1.t _ _ z), fun a u n z => let ⟨n1, z1⟩ := w1.r _ _ n z; w2.r _ _ n1 z1, fun a u n z => let ⟨n1, z1⟩ := w1.o _ _ n z; w2.o _ _ n1 z1⟩
      · rw [upd_ne (ne_of_none e hp)]
        exact e
    · have hk2 : k = as.length := by
        have := (List.getElem?_eq_some_iff.mp h1).1
        rw [List.length_append] at this
        simp at this
        omega
      subst hk2
      rw [List.getElem?_append_right (Nat.le_refl _)] at h1
      rw [R.len, List.getElem?_append_right (Nat.le_refl _)] at h2
      simp at h1 h2
      subst h1
      subst h2
      exact ⟨[], upd_same, .nil⟩
theorem ro_drop {as : List Addr} {H : Hp} {os : Os} {p : Addr} {ob : Ob} (R : Ro K (as ++ [p]) H (os ++ [ob])) : Ro K as H os ∧ ObR K as H p ob ∧ p ∉ as := by
  have hl : as.length = os.length := by
    have := R.len
    simpa using this
  have sub : ∀ x ∈ as, x ∈ as ++ [p] := fun x h => List.mem_append_left _ h
  have hnd := List.nodup_append.mp R.nd
  refine ⟨⟨hnd.1, hl, fun k a ob h1 h2 => ?_⟩, ?_, fun z => hnd.2.2 p z p (by simp) rfl⟩
  · have hk := (List.getElem?_eq_some_iff.mp h1).1
    exact (R.own k a ob (by rw [List.getElem?_append_left hk]; exact h1) (by rw [List.getElem?_append_left (by omega)]; exact h2)).way (Way.of_sub sub) fun _ e => e
  · refine (R.own as.length p ob (by simp) (by rw [hl]; simp)).way (Way.of_sub sub) fun _ e => e
/-- the store's last list has grown -/
theorem ro_grow {as : List Addr} {H : Hp} {os : Os} {p : Addr} {vs : List V} {xs : List D} {v : V} {d : D} (R : Ro K (as ++ [p]) H (os ++ [.ml xs])) (e : H p = some (.lst vs)) (r : Dx K (as ++ [p]) H v d) :
    Ro K (as ++ [p]) (upd H p (.lst (vs ++ [v]))) (os ++ [.ml (xs ++ [d])]) := by
  have g : Go (as ++ [p]) H (upd H p (.lst (vs ++ [v]))) := Go.at (by simp)
  have hl : as.length = os.length := by
    have := R.len
    simpa using this
  have hnd := List.nodup_append.mp R.nd
  refine ⟨R.nd, by simp [hl], fun k a ob h1 h2 => ?_⟩
  by_cases hk : k < as.length
  · have h1' := h1
    rw [List.getElem?_append_left hk] at h1
    rw [List.getElem?_append_left (by omega)] at h2
    refine (R.own k a ob h1' (by rw [List.getElem?_append_left (by omega)]; exact h2)).way (Way.of_go g) fun u q => ?_
    have hne : a ≠ p := fun z => hnd.2.2 a (List.mem_of_getElem? h1) p (by simp) z
    rw [upd_ne hne]
    exact q
  · have hk2 : k = as.length := by
      have := (List.getElem?_eq_some_iff.mp h1).1
      rw [List.length_append] at this
      simp at this
      omega
    subst hk2
    rw [List.getElem?_append_right (Nat.le_refl _)] at h1
    rw [hl, List.getElem?_append_right (Nat.le_refl _)] at h2
    simp at h1 h2
    subst h1
    subst h2
    obtain ⟨ws, e2, r2⟩ := (ro_drop R).2.1
    rw [e] at e2
    cases e2
    have hown := R.own as.length p (.ml xs) (by simp) (by rw [hl]; simp)
    obtain ⟨ws, e3, r3⟩ := hown
    rw [e] at e3
    cases e3
    exact ⟨_, upd_same, DxA.app (r3.way (Way.of_go g)) (.cons (r.way (Way.of_go g)) .nil)⟩
theorem ew_lc {vs : List Nat} (hg : Wg g vs) (hm : Mg g) (h : IW K X wi S fun ds os => ∃ Pv : Nat → List D → Os → Prop, Pv 0 [] os ∧
      (∀ i d acc os', ds[i]? = some d → Pv i acc os' → GW K g (.d d) ⟨wipeS S.s vs, os' ++ [.ml acc]⟩ fun S2 => TW K X0 tt S2 fun b os2 =>
        if b = true then EW K X0 te ⟨S2.s, os2⟩ fun y os3 => ∃ z os4, y = .d z ∧ os3 = os4 ++ [.ml acc] ∧ acc.length < sizeLine ∧ Pv (i + 1) (acc ++ [z]) os4 else ∃ os4, os2 = os4 ++ [.ml acc] ∧ Pv (i + 1) acc os4) ∧
      ∀ acc os', Pv ds.length acc os' → Q (.d (.lst acc)) os') : EW K X (tLc wi g tt te vs) S Q := fun as H σ Q' R x k =>
  h as H σ _ R x fun J H1 ds os1 g1 R1 it ⟨Pv, p0, turn, fin⟩ Dl hD => by
    have R1' := R.go g1 R1
    refine ⟨fun i m H2 => m = ds.length - i ∧ i ≤ ds.length ∧ ∃ acc os2, Stp as H1 (as ++ [Dl]) H2 ∧ Re K (as ++ [Dl]) H2 σ ⟨S.s, os2 ++ [.ml acc]⟩ ∧ Pv i acc os2, ⟨_, rfl, Nat.zero_le _, [], os1, ?_, ?_, p0⟩, ?_⟩
    · exact ⟨⟨[Dl], rfl, fun a ha => by rw [List.mem_singleton.mp ha]; exact hD⟩, Go.new hD, fun a ha => by
        by_cases e : a = Dl
        · rw [e]
          exact hD
        · rw [upd_ne e] at ha
          exact ha⟩
    · refine ⟨ro_add R1 hD, R1'.slen, fun i d hd => ?_⟩
      obtain ⟨u, e, r⟩ := R1'.slot i d hd
      refine ⟨u, e, ?_⟩
      have r2 := r.wayA hD
      exact r2.go (Go.at (by simp))
    rintro i m H2 ⟨rfl, hi, acc, os2, s2, R2, p⟩
    by_cases hlt : i < ds.length
    · have hd : ds[i]? = some ds[i] := List.getElem?_eq_getElem hlt
      obtain ⟨hgo, hy⟩ := (it _ H2 _ s2 R2.o i).1 _ hd
      refine .inr ⟨hgo, fun H' => ∃ acc os3, Stp as H1 (as ++ [Dl]) H' ∧ Re K (as ++ [Dl]) H' σ ⟨S.s, os3 ++ [.ml acc]⟩ ∧ Pv (i + 1) acc os3, fun H' z => ⟨ds.length - (i + 1), by omega, rfl, hlt, z⟩, fun y H3 hyl => ?_⟩
      obtain ⟨g3, R3, r3⟩ := hy y H3 hyl
      have R3' := R2.go g3 R3
      have s3 : Stp as H1 (as ++ [Dl]) H3 := s2.trans (Stp.of_go g3 R3)
      have base := turn i _ acc os2 hd p (as ++ [Dl]) H3 (wipe σ vs) y (fun σ2 H4 => H4 = H3 ∧ ∃ S2, Re K (as ++ [Dl]) H3 σ2 S2 ∧ TW K X0 tt S2 fun b os2 =>
        if b = true then EW K X0 te ⟨S2.s, os2⟩ fun y os3 => ∃ z os4, y = .d z ∧ os3 = os4 ++ [.ml acc] ∧ acc.length < sizeLine ∧ Pv (i + 1) (acc ++ [z]) os4 else ∃ os4, os2 = os4 ++ [.ml acc] ∧ Pv (i + 1) acc os4) (re_wipe R3') r3 fun σ2 S2 R4 q => ⟨rfl, S2, R4, q⟩
      refine hm _ _ _ _ _ ?_ (hg _ _ _ _ base)
      rintro σ2 H4 ⟨⟨rfl, S2, R4, tw⟩, hl, ho⟩
      refine ⟨(wipe_ext hl fun i hi => ho i hi).trans (wipe_ext (wipe_length σ vs) fun i hi => wipe_out1 hi), ?_⟩
      refine tw _ H4 σ2 _ R4 XH.x0 fun b H5 os5 g5 R5 q5 => ?_
      have s5 := s3.trans (Stp.of_go g5 R5)
      cases b with
      | false =>
        obtain ⟨os4, rfl, q6⟩ := (show ∃ os4, os5 = os4 ++ [.ml acc] ∧ Pv (i + 1) acc os4 from q5)
        show ∃ acc os3, _
        exact ⟨acc, os4, s5, R3'.go g5 R5, q6⟩
      | true =>
        show te σ2 H5 _
        refine (show EW K X0 te ⟨S2.s, os5⟩ _ from q5) _ H5 σ2 _ (R4.go g5 R5) XH.x0 fun u H6 e os6 g6 R6 r6 ⟨z, os7, ez, eo, hz, q7⟩ => ?_
        subst ez
        subst eo
        obtain ⟨ws, ew, rw'⟩ := (ro_drop R6).2.1
        refine ⟨ws, ew, by rw [rw'.length]; exact hz, acc ++ [z], os7, ?_, ?_, q7⟩
        · exact (s5.trans (Stp.of_go g6 R6)).trans (Stp.of_go (Go.at (by simp)) (ro_grow R6 ew r6))
        · exact (R3'.go (g5.trans g6) R6).go (Go.at (by simp)) (ro_grow R6 ew r6)
    · have e : i = ds.length := by omega
      subst e
      obtain ⟨Rd, ob, nin⟩ := ro_drop R2.o
      obtain ⟨ws, ew, rw'⟩ := ob
      exact .inl ⟨(it _ H2 _ s2 R2.o _).2 (Nat.le_refl _), k (.ref Dl) H2 (.d (.lst acc)) os2 (g1.trans s2.go) Rd (Dx.lst (.inl ⟨nin, .inl ew⟩) rw') (fin acc os2 p)⟩
theorem tw_yes {S : Sa} {Q : Bool → Os → Prop} (q : Q true S.os) : TW K X tYes S Q := fun as H σ Q' R x k => k true H S.os (Go.refl _ _) R.o q
end
end Br

/-! BrE: the store's dicts; a def that makes one; rooms; a law's end. -/
namespace Br
open PySem L2

/-! ### the store's dicts -/
def keyD : Key → D
  | .inl i => .int i
  | .inr x => .str x
def lookD (kvs : List (Key × D)) (k : Key) : Option D := (kvs.find? fun kv => decide (kv.1 = k)).map (·.2)
def putD (kvs : List (Key × D)) (k : Key) (v : D) : List (Key × D) :=
  if (kvs.any fun kv => decide (kv.1 = k)) = true then kvs.map (fun kv => if kv.1 = k then (kv.1, v) else kv) else kvs ++ [(k, v)]
section
variable {K : PySem.W.Frag} {as : List Addr} {H : Hp}
theorem key_v {v : V} {k : Key} (h : Dx K as H v (keyD k)) : v = kV k := by
  cases k with
  | inl i =>
    cases h
    rfl
  | inr x =>
    cases h
    rfl
theorem DxP.length : ∀ {vs : List (Key × V)} {ds : List (Key × D)}, DxP K as H vs ds → vs.length = ds.length
  | _, _, .nil => rfl
  | _, _, .cons _ r => by rw [List.length_cons, List.length_cons, DxP.length r]
theorem DxP.look {k : Key} : ∀ {vs : List (Key × V)} {ds : List (Key × D)} {z : D}, DxP K as H vs ds → lookD ds k = some z → ∃ v, valV vs k = some v ∧ Dx K as H v z
  | _, _, _, .nil, e => by simp [lookD] at e
  | _, _, z, .cons (k := k2) (v := v) (d := d) (ds := ds) (vs := vs) h r, e => by
    by_cases hk : k2 = k
    · have e2 : some d = some z := by rw [← e]; simp [lookD, List.find?_cons, hk]
      cases e2
      exact ⟨v, valV_pos (p := (k2, v)) hk, h⟩
    · have e2 : lookD ds k = some z := by rw [← e]; simp [lookD, List.find?_cons, hk]
      obtain ⟨u, h1, h2⟩ := DxP.look r e2
      exact ⟨u, by rw [valV_neg (p := (k2, v)) hk]; exact h1, h2⟩
theorem DxP.any {k : Key} : ∀ {vs : List (Key × V)} {ds : List (Key × D)}, DxP K as H vs ds → (vs.any fun kv => decide (kv.1 = k)) = (ds.any fun kv => decide (kv.1 = k))
  | _, _, .nil => rfl
  | _, _, .cons _ r => by rw [List.any_cons, List.any_cons, DxP.any r]
theorem DxP.mapk {k : Key} {u : V} {z : D} (h : Dx K as H u z) : ∀ {vs : List (Key × V)} {ds : List (Key × D)}, DxP K as H vs ds → DxP K as H (vs.map fun kv => if kv.1 = k then (kv.1, u) else kv) (ds.map fun kv => if kv.1 = k then (kv.1, z) else kv)
  | _, _, .nil => .nil
  | _, _, .cons (k := k2) h2 r => by
    rw [List.map_cons, List.map_cons]
    by_cases hk : k2 = k
    · rw [if_pos hk, if_pos hk]
      exact .cons h (DxP.mapk h r)
    · rw [if_neg hk, if_neg hk]
      exact .cons h2 (DxP.mapk h r)
theorem DxP.app : ∀ {v w : List (Key × V)} {d e : List (Key × D)}, DxP K as H v d → DxP K as H w e → DxP K as H (v ++ w) (d ++ e)
  | _, _, _, _, .nil, s => s
  | _, _, _, _, .cons h r, s => .cons h (DxP.app r s)
theorem DxP.put {k : Key} {u : V} {z : D} {vs : List (Key × V)} {ds : List (Key × D)} (h : Dx K as H u z) (r : DxP K as H vs ds) : DxP K as H (putK vs k u) (putD ds k z) := by
  unfold putK putD
  rw [r.any (k := k)]
  split
  · exact DxP.mapk h r
  · exact DxP.app r (.cons h .nil)
/-- a thing of the store is written -/
theorem ro_set {os : Os} {k : Nat} {a : Addr} {o : HO} {ob : Ob} (R : Ro K as H os) (ha : as[k]? = some a) (h : ObR K as (upd H a o) a ob) : Ro K as (upd H a o) (os.set k ob) := by
  have hm : a ∈ as := List.mem_of_getElem? ha
  refine ⟨R.nd, by rw [List.length_set]; exact R.len, fun j b ob2 h1 h2 => ?_⟩
  by_cases hj : k = j
  · subst hj
    rw [ha] at h1
    cases h1
    by_cases hl : k < os.length
    · rw [List.getElem?_set_self hl] at h2
      cases h2
      exact h
    · rw [List.getElem?_eq_none (by simpa using hl)] at h2
      cases h2
  · rw [List.getElem?_set_ne hj] at h2
    refine (R.own j b ob2 h1 h2).way (Way.of_go (Go.at hm)) fun u e => ?_
    have hne : b ≠ a := fun z => by
      subst z
      obtain ⟨l1, m1⟩ := List.getElem?_eq_some_iff.mp h1
      obtain ⟨l2, m2⟩ := List.getElem?_eq_some_iff.mp ha
      exact hj ((List.getElem_inj R.nd).mp (m2.trans m1.symm))
    rw [upd_ne hne]
    exact e
end
section
variable {K : PySem.W.Frag} {X : Xc} {S : Sa} {Q : Sv → Os → Prop} {td ty tv : TE} {E : Ea}
theorem ew_dget (h : EW K X td S fun x os1 => EW K X ty ⟨S.s, os1⟩ fun y os2 => ∃ k kvs key z, x = .o k ∧ os2[k]? = some (.md kvs) ∧ y = .d (keyD key) ∧ lookD kvs key = some z ∧ Q (.d z) os2) : EW K X (tDGet td ty) S Q := fun as H σ Q' R x k =>
  h as H σ _ R x fun v H1 d os1 g1 R1 r1 q1 => q1 as H1 σ _ (R.go g1 R1) (x.go g1 R1) fun u H2 e os2 g2 R2 r2 ⟨j, kvs, key, z, ex, eo, ey, el, q2⟩ => by
    subst ex
    subst ey
    obtain ⟨a, ea, rfl⟩ := r1
    obtain ⟨vs, h1, h2⟩ := R2.own j a _ ea eo
    obtain ⟨w, h3, h4⟩ := h2.look el
    have hk := key_v r2
    subst hk
    refine ⟨a, w, rfl, ?_, k w H2 (.d z) os2 (g1.trans g2) R2 h4 q2⟩
    rw [← h3]
    exact DGet.k h1
theorem w_dput (h : EW K X tv S fun v os1 => EW K X td ⟨S.s, os1⟩ fun x os2 => EW K X ty ⟨S.s, os2⟩ fun y os3 => ∃ k kvs key z, v = .d z ∧ x = .o k ∧ os3[k]? = some (.md kvs) ∧ y = .d (keyD key) ∧ kvs.length ≤ 1000 ∧
    E.nx ⟨S.s, os3.set k (.md (putD kvs key z))⟩) : W K X (sDPut td ty tv) E S := fun as H σ D R x n r b c =>
  h as H σ _ R (x.h R) fun v H1 d os1 g1 R1 r1 q1 => q1 as H1 σ _ (R.go g1 R1) ((x.h R).go g1 R1) fun u H2 e os2 g2 R2 r2 q2 => q2 as H2 σ _ (R.go (g1.trans g2) R2) ((x.h R).go (g1.trans g2) R2) fun y H3 f os3 g3 R3 r3 ⟨j, kvs, key, z, ev, ex, eo, ey, hl, q3⟩ => by
    subst ev
    subst ex
    subst ey
    obtain ⟨a, ea, rfl⟩ := r2
    obtain ⟨vs, h1, h2⟩ := R3.own j a _ ea eo
    have hk := key_v r3
    subst hk
    have hm : a ∈ as := List.mem_of_getElem? ea
    have rz : Dx K as H3 v z := (r1.go (g2.trans g3) : SvR K as H3 v (.d z))
    have R4 : Ro K as (upd H3 a (.dK (putK vs key v))) (os3.set j (.md (putD kvs key z))) := ro_set R3 ea ⟨_, upd_same, DxP.way (Way.of_go (Go.at hm)) (h2.put rz)⟩
    have g4 : Go as H (upd H3 a (.dK (putK vs key v))) := ((g1.trans g2).trans g3).trans (Go.at hm)
    have hz : vs.length < sizeLine := by
      rw [h2.length]
      exact Nat.lt_of_le_of_lt hl (by decide)
    exact ⟨a, _, rfl, DPut.k h1 hz, n as _ σ _ (Stp.of_go g4 R4) (R.go g4 R4) q3⟩
end

section
variable {K : PySem.W.Frag} {X : Xc} {S : Sa} {Q : Sv → Os → Prop} {td tv : TE} {E : Ea} {z : Str}
/-- by a written text -/
theorem ew_dgetS (h : EW K X td S fun v os1 => ∃ k kvs d, v = .o k ∧ os1[k]? = some (.md kvs) ∧ lookD kvs (.inr z) = some d ∧ Q (.d d) os1) : EW K X (tDGet td (tC (.str z))) S Q :=
  ew_dget (ew_mono h fun x os1 ⟨k, kvs, d, ex, eo, el, q⟩ => ew_str ⟨k, kvs, .inr z, d, ex, eo, rfl, el, q⟩)
theorem w_dputS (h : EW K X tv S fun v os1 => EW K X td ⟨S.s, os1⟩ fun x os2 => ∃ k kvs d kv2 os3, v = .d d ∧ x = .o k ∧ os2[k]? = some (.md kvs) ∧ kvs.length ≤ 1000 ∧ putD kvs (.inr z) d = kv2 ∧ os2.set k (.md kv2) = os3 ∧ E.nx ⟨S.s, os3⟩) : W K X (sDPut td (tC (.str z)) tv) E S :=
  w_dput (ew_mono h fun v os1 h1 => ew_mono h1 fun x os2 ⟨k, kvs, d, kv2, os3, ev, ex, eo, hl, e1, e2, q⟩ => ew_str ⟨k, kvs, .inr z, d, ev, ex, eo, rfl, hl, by rw [e1, e2]; exact q⟩)
end

/-! ### a def that makes a thing of the store -/
abbrev FN := List Sv → Os → (Ob → Os → Prop) → Prop
def spN (K : PySem.W.Frag) (f : FN) : Sp := fun vs H Q _ => ∃ (as : List Addr) (os : Os) (ds : List Sv) (QN : Ob → Os → Prop), Ro K as H os ∧ SvA K as H vs ds ∧ f ds os QN ∧
  ∀ p H' ob os', Stp as H (as ++ [p]) H' → Ro K (as ++ [p]) H' (os' ++ [ob]) → QN ob os' → Q (.ref p) H'
def RetN (n : Nat) (QN : Ob → Os → Prop) : Sv → Os → Prop := fun x os' => x = .o n ∧ os'.length = n + 1 ∧ ∃ ob, os'[n]? = some ob ∧ QN ob (os'.take n)
theorem take_last {α : Type} {l : List α} {n : Nat} {x : α} (h : l.length = n + 1) (e : l[n]? = some x) : l.take n ++ [x] = l := by
  obtain ⟨hn, e2⟩ := List.getElem?_eq_some_iff.mp e
  rw [← e2]
  have : l.take (n + 1) = l := List.take_of_length_le (by omega)
  rw [← List.take_append_getElem hn] at this
  exact this
theorem readN_of {K : PySem.W.Frag} {N : List Str} {f : FN} {t : TS} {vs : List V} {H : Hp} {Q : VK} {E : XK} (h : spN K f vs H Q E)
    (w : ∀ ds os QN, f ds os QN → W K X0 t { nx := fun S => False, rt := RetN os.length QN } ⟨startS N ds, os⟩) : t { nx := fun _ H' => Q .non H', rt := Q } (L2.start N vs) H := by
  obtain ⟨as, os, ds, QN, R, r, hf, k⟩ := h
  refine w ds os QN hf as H _ _ (re_start R r) XS.x0 (fun _ _ _ _ _ _ q => q.elim) (fun bs H' v d os' s R' r' q => ?_) (fun _ _ _ _ _ _ q => q.elim) fun _ _ _ _ _ _ q => q.elim
  obtain ⟨rfl, hl, ob, e, q⟩ := q
  obtain ⟨a, ea, rfl⟩ := r'
  obtain ⟨nw, eb, hf⟩ := s.pre
  have hb : bs = as ++ [a] := by
    have h1 : bs.length = os.length + 1 := R'.len.trans hl
    have h2 : as.length = os.length := R.len
    rw [eb, List.length_append] at h1
    match nw, h1 with
    | [b], _ =>
      rw [eb, ← h2, List.getElem?_append_right (Nat.le_refl _)] at ea
      simp at ea
      rw [eb, ea]
    | [], h1 => simp at h1; omega
    | _ :: _ :: _, h1 => simp at h1; omega
  subst hb
  exact k a H' ob _ s (by rw [take_last hl e]; exact R') q
section
variable {K : PySem.W.Frag} {X : Xc} {S : Sa}
/-- x = f(..), f making a thing -/
theorem w_asgN {ta : TA} {i : Nat} {f : FN} {E : Ea} (h : AW K X ta S fun ds os => f ds os fun ob os' => E.nx ⟨S.s.set i (some (.o os'.length)), os' ++ [ob]⟩) : W K X (tAsg (tCall (spN K f) [] E0 ta) (gName i)) E S := fun as H σ D R x n r b c =>
  h as H σ _ R (x.h R) fun vs H1 ds os1 g1 R1 r1 q1 => ⟨as, os1, ds, _, R1, r1.nilr, q1, fun p H2 ob os2 s2 R2 q2 => by
    have s1 : Stp as H as H1 := Stp.of_go g1 R1
    have hl : as.length = os2.length := by
      have := R2.len
      simpa using this
    have R3 : Re K (as ++ [p]) H2 σ ⟨S.s, os2 ++ [ob]⟩ := ⟨R2, R.slen, fun j d hd => by
      obtain ⟨u, e, z⟩ := R.slot j d hd
      exact ⟨u, e, z.stp (s1.trans s2)⟩⟩
    exact n _ H2 _ _ (s1.trans s2) (R3.set i (v := .ref p) (d := .o os2.length) ⟨p, by rw [← hl]; simp, rfl⟩) q2⟩
/-- pairs of a display -/
inductive PrR (K : PySem.W.Frag) (as : List Addr) (H : Hp) : List (V × V) → List (D × D) → Prop
  | nil : PrR K as H [] []
  | cons {x y : V} {a b : D} {ps : List (V × V)} {ds : List (D × D)} : Dx K as H x a → Dx K as H y b → PrR K as H ps ds → PrR K as H ((x, y) :: ps) ((a, b) :: ds)
def DW (K : PySem.W.Frag) (X : Xc) (trs : List (TE × TE)) (S : Sa) (Q : List (D × D) → Os → Prop) : Prop :=
  ∀ as H σ (Q' : List (V × V) → Hp → Prop), Re K as H σ S → XH K X as H σ S.s → (∀ ps H' ds os', Go as H H' → Ro K as H' os' → PrR K as H' ps ds → Q ds os' → Q' ps H') → tPairs trs σ H Q'
theorem dw_nil {Q : List (D × D) → Os → Prop} (q : Q [] S.os) : DW K X [] S Q := fun as H σ Q' R x k => k [] H [] S.os (Go.refl _ _) R.o .nil q
theorem dw_cons {Q : List (D × D) → Os → Prop} {tk tv : TE} {trs : List (TE × TE)} (h : EW K X tk S fun x os1 => EW K X tv ⟨S.s, os1⟩ fun y os2 => ∃ a b, x = .d a ∧ y = .d b ∧ DW K X trs ⟨S.s, os2⟩ fun ds os3 => Q ((a, b) :: ds) os3) : DW K X ((tk, tv) :: trs) S Q := fun as H σ Q' R x k =>
  h as H σ _ R x fun v H1 d os1 g1 R1 r1 q1 => q1 as H1 σ _ (R.go g1 R1) (x.go g1 R1) fun u H2 e os2 g2 R2 r2 ⟨a, b, ea, eb, q2⟩ => by
    subst ea
    subst eb
    have ra : Dx K as H2 v a := (r1.go g2 : SvR K as H2 v (.d a))
    have rb : Dx K as H2 u b := r2
    exact q2 as H2 σ _ (R.go (g1.trans g2) R2) (x.go (g1.trans g2) R2) fun ps H3 ds os3 g3 R3 r3 q3 => k _ H3 _ os3 ((g1.trans g2).trans g3) R3 (.cons (ra.way (Way.of_go g3)) (rb.way (Way.of_go g3)) r3) q3
def mergeD (kvs more : List (Key × D)) : List (Key × D) := more.foldl (fun acc kv => putD acc kv.1 kv.2) kvs
theorem merge_dx {as : List Addr} {H : Hp} : ∀ {more : List (Key × V)} {md : List (Key × D)} {kvs : List (Key × V)} {kds : List (Key × D)}, DxP K as H more md → DxP K as H kvs kds → DxP K as H (mergeK kvs more) (mergeD kds md)
  | _, _, _, _, .nil, s => s
  | _, _, _, _, .cons (k := k) (v := v) (vs := vs) (d := d) (ds := ds) h r, s => merge_dx (kvs := putK _ k v) (kds := putD _ k d) r (s.put h)
theorem pr_keys {as : List Addr} {H : Hp} : ∀ {ps : List (V × V)} {kds : List (Key × D)}, PrR K as H ps (kds.map fun kv => (keyD kv.1, kv.2)) → ∃ kvs : List (Key × V), ps = kvs.map (fun kv => (kV kv.1, kv.2)) ∧ DxP K as H kvs kds
  | [], [], _ => ⟨[], rfl, .nil⟩
  | [], _ :: _, h => nomatch h
  | _ :: _, [], h => nomatch h
  | (x, y) :: ps, (k, d) :: kds, .cons h1 h2 r => by
    obtain ⟨kvs, e, z⟩ := pr_keys (kds := kds) r
    have hk := key_v h1
    subst hk
    subst e
    exact ⟨(k, y) :: kvs, rfl, .cons h2 z⟩
/-- a new dict at p -/
theorem ro_addD {as : List Addr} {H : Hp} {os : Os} {p : Addr} (R : Ro K as H os) (hp : H p = none) : Ro K (as ++ [p]) (upd H p (.dK [])) (os ++ [.md []]) := by
  refine ⟨List.nodup_append.mpr ⟨R.nd, List.nodup_cons.mpr ⟨by simp, List.nodup_nil⟩, fun a ha b hb e => ?_⟩, by simp [R.len], fun k a ob h1 h2 => ?_⟩
  · rw [List.mem_singleton.mp hb] at e
    exact R.notin hp (e ▸ ha)
  · have w1 : Way K as (as ++ [p]) H H := Way.of_add hp
    have w2 : Way K (as ++ [p]) (as ++ [p]) H (upd H p (.dK [])) := Way.of_go (Go.at (by simp))
    by_cases hk : k < as.length
    · rw [List.getElem?_append_left hk] at h1
      rw [List.getElem?_append_left (by rw [← R.len]; exact hk)] at h2
      refine ((R.own k a ob h1 h2).way w1 fun _ e => e).way w2 fun u e => ?_
      rw [upd_ne (ne_of_none e hp)]
      exact e
    · have hk2 : k = as.length := by
        have := (List.getElem?_eq_some_iff.mp h1).1
        rw [List.length_append] at this
        simp at this
        omega
      subst hk2
      rw [List.getElem?_append_right (Nat.le_refl _)] at h1
      rw [R.len, List.getElem?_append_right (Nat.le_refl _)] at h2
      simp at h1 h2
      subst h1
      subst h2
      exact ⟨[], upd_same, .nil⟩
theorem stp_add {as : List Addr} {H : Hp} {p : Addr} {o : HO} (hp : H p = none) : Stp as H (as ++ [p]) (upd H p o) :=
  ⟨⟨[p], rfl, fun a ha => by rw [List.mem_singleton.mp ha]; exact hp⟩, Go.new hp, fun a ha => by
    by_cases e : a = p
    · rw [e]
      exact hp
    · rw [upd_ne e] at ha
      exact ha⟩
theorem w_retDisp {trs : List (TE × TE)} {E : Ea} (h : DW K X0 trs ⟨S.s, S.os ++ [.md []]⟩ fun ds os3 => ∃ os4 kds, os3 = os4 ++ [.md []] ∧ ds = kds.map (fun kv => (keyD kv.1, kv.2)) ∧ kds.length ≤ 15 ∧ E.rt (.o S.os.length) (os4 ++ [.md (mergeD [] kds)])) :
    W K X (tRet (tDisp trs)) E S := fun as H σ D R x n r b c p hp => by
  have R1 : Re K (as ++ [p]) (upd H p (.dK [])) σ ⟨S.s, S.os ++ [.md []]⟩ := ⟨ro_addD R.o hp, R.slen, fun j d hd => by
    obtain ⟨u, e, z⟩ := R.slot j d hd
    exact ⟨u, e, z.stp (stp_add hp)⟩⟩
  refine h _ _ σ _ R1 XH.x0 fun ps H2 ds os3 g2 R2 r2 ⟨os4, kds, e3, ed, hl, q⟩ => ?_
  subst e3
  subst ed
  obtain ⟨kvs, ek, rk⟩ := pr_keys r2
  have hlen : as.length = os4.length := by
    have := R2.len
    simpa using this
  have hpos : (as ++ [p])[as.length]? = some p := by simp
  obtain ⟨ws, e1, e2⟩ := R2.own as.length p (.md []) hpos (by rw [hlen]; simp)
  cases e2
  have g3 : Go (as ++ [p]) H2 (upd H2 p (.dK (mergeK [] kvs))) := Go.at (by simp)
  have R3 : Ro K (as ++ [p]) (upd H2 p (.dK (mergeK [] kvs))) (os4 ++ [.md (mergeD [] kds)]) := by
    have z := ro_set (ob := .md (mergeD [] kds)) R2 hpos ⟨mergeK [] kvs, upd_same, DxP.way (Way.of_go g3) (merge_dx rk .nil)⟩
    rw [hlen, List.set_append_right _ _ (Nat.le_refl _)] at z
    simpa using z
  have sN : Stp as H (as ++ [p]) (upd H2 p (.dK (mergeK [] kvs))) := ((stp_add hp).trans (Stp.of_go g2 R2)).trans (Stp.of_go g3 R3)
  refine ⟨e1, kvs, ek, by rw [rk.length]; exact hl, r _ _ (.ref p) (.o S.os.length) _ sN R3 ⟨p, by rw [← R.o.len]; simp, rfl⟩ q⟩
end
end Br

/-! BrT: small words for the readings. -/
namespace Br
open PySem L2
theorem br_ite {c : Prop} [Decidable c] {A B : Prop} (h1 : c → A) (h2 : ¬ c → B) : if decide c = true then A else B := by
  by_cases h : c
  · rw [decide_eq_true h]
    exact h1 h
  · rw [decide_eq_false h]
    exact h2 h
theorem br_iteN {c : Prop} [Decidable c] {A B : Prop} (h1 : ¬ c → A) (h2 : c → B) : if (!decide c) = true then A else B := by
  by_cases h : c
  · rw [decide_eq_true h]
    exact h2 h
  · rw [decide_eq_false h]
    exact h1 h
theorem br_iteB {b : Bool} {A B : Prop} (h1 : b = true → A) (h2 : b = false → B) : if b = true then A else B := by
  cases b with
  | true => exact h1 rfl
  | false => exact h2 rfl
theorem br_T {A B : Prop} (h : A) : if true = true then A else B := h
theorem br_F {A B : Prop} (h : B) : if false = true then A else B := h
theorem set_set {os : Os} {k : Nat} {a b : Ob} : (os.set k a).set k b = os.set k b := List.set_set ..
theorem get_set {os : Os} {k : Nat} {a b : Ob} (h : os[k]? = some a) : (os.set k b)[k]? = some b := List.getElem?_set_self (List.getElem?_eq_some_iff.mp h).1
theorem c_div {i j : Int} (h : 0 < j) (h2 : j < 2 ^ 8000) : CDivW i j := wide_div (b := 8000) h (by omega) (by decide) (by decide)
theorem c_mul {i j : Int} (a b : Nat) (ha : i.natAbs < 2 ^ a) (hb : j.natAbs < 2 ^ b) (h0 : 0 < a) (h1 : 0 < b) (h : a + b ≤ 1000000) : CMulW i j := wide_mul ha hb h0 h1 h
theorem alld1 {x : D} : AllD [.d x] [x] := .cons .nil
theorem small_len {n : Nat} (h : n ≤ 1000000) : n ≤ sizeLine := Nat.le_trans h (by decide)
theorem pys_ints : ∀ ns : List Int, D.pys (ns.map D.int) = some (ns.map PyData.int)
  | [] => rfl
  | n :: r => by
    show ((D.py (.int n)).bind fun p => (D.pys (r.map D.int)).map fun ps => p :: ps) = _
    rw [pys_ints r]
    rfl
theorem bw_neNil {K : PySem.W.Frag} {os : Os} {Q : Sv → Os → Prop} {ns : List Int} (q : Q (.d (.bl (!ns.isEmpty))) os) : BW K (rNeD K) (.d (.lst (ns.map D.int))) (.d (.lst [])) os Q := by
  refine bw_neD (p := .list (ns.map PyData.int)) (r := .list []) ?_ rfl (PySem.W.ke_shaped_ints ns) (PySem.W.ke_shaped_ints []) ?_
  · show (D.pys (ns.map D.int)).map PyData.list = _
    rw [pys_ints]
    rfl
  · cases ns with
    | nil => exact q
    | cons n r => exact q
theorem at_mod {ns : List Int} {n : Int} (h : ns ≠ []) : ∃ c, L2.atI (ns.map D.int) (n % ((ns.map D.int).length : Int)) = some (.int c) := by
  have hl : 0 < ns.length := List.length_pos_iff.mpr h
  have e : ((ns.map D.int).length : Int) = (ns.length : Int) := by rw [List.length_map]
  have h1 : 0 ≤ n % (ns.length : Int) := Int.emod_nonneg _ (by omega)
  have h2 : n % (ns.length : Int) < (ns.length : Int) := Int.emod_lt_of_pos _ (by omega)
  have hk : (n % (ns.length : Int)).toNat < ns.length := by omega
  obtain ⟨j, hj⟩ : ∃ j : Nat, n % (ns.length : Int) = (j : Int) := ⟨(n % (ns.length : Int)).toNat, by omega⟩
  have hj2 : j < ns.length := by omega
  refine ⟨ns[j], ?_⟩
  rw [e, hj]
  exact atI_nat (by rw [List.getElem?_map, List.getElem?_eq_getElem hj2]; rfl)
theorem w_cut {K : PySem.W.Frag} {X : Xc} {S : Sa} {E : Ea} {t u : TS} (Mid : Sa → Prop) (h1 : W K X t { E with nx := Mid } S) (h2 : ∀ S', Mid S' → W K X u E S') : W K X (tSeq t u) E S :=
  w_seq (w_mono h1 h2 (fun _ _ z => z) (fun _ z => z) fun _ z => z)
theorem w_join {K : PySem.W.Frag} {X : Xc} {S S2 : Sa} {E : Ea} {t u : TS} {b : Bool} (Mid : Sa → Prop) (h1 : if b = true then W K X t { E with nx := Mid } S else W K X u { E with nx := Mid } S2) (h2 : ∀ S', Mid S' → E.nx S') : if b = true then W K X t E S else W K X u E S2 := by
  cases b with
  | true => exact w_mono (show W K X t { E with nx := Mid } S from h1) h2 (fun _ _ z => z) (fun _ z => z) fun _ z => z
  | false => exact w_mono (show W K X u { E with nx := Mid } S2 from h1) h2 (fun _ _ z => z) (fun _ z => z) fun _ z => z
theorem ret_set {os : Os} {k : Nat} {ob : Ob} {d : D} {QA : D → Os → Prop} (q : QA d (os.set k ob)) : RetOk os.length QA (.d d) (os.set k ob) := by
  show QA d ((os.set k ob).take os.length)
  rw [List.take_of_length_le (by rw [List.length_set]; exact Nat.le_refl _)]
  exact q
theorem ret_same {os : Os} {d : D} {QA : D → Os → Prop} (q : QA d os) : RetOk os.length QA (.d d) os := by
  show QA d (os.take os.length)
  rw [List.take_length]
  exact q
theorem c_divS {i j : Int} (h : 0 < j) (h2 : j < 2 ^ 64) : CDivW i j := wide_div (b := 64) h (by omega) (by decide) (by decide)
theorem c_mulS {i j : Int} (h1 : -(2 ^ 200) < i ∧ i < 2 ^ 200) (h2 : -(2 ^ 200) < j ∧ j < 2 ^ 200) : CMulW i j := wide_mul (a := 200) (b := 200) (by omega) (by omega) (by decide) (by decide) (by decide)
/-- a display's things, as data -/
def unD : List Sv → Option (List D)
  | [] => some []
  | .d x :: r => (unD r).map fun ds => x :: ds
  | .o _ :: _ => none
  | .fn _ _ :: _ => none
theorem unD_all : ∀ {xs : List Sv} {ds : List D}, unD xs = some ds → AllD xs ds
  | [], ds, h => by
    have e : some [] = some ds := h
    cases e
    exact .nil
  | .d x :: r, ds, h => by
    have e : (unD r).map (fun ds => x :: ds) = some ds := h
    obtain ⟨es, e1, rfl⟩ := Option.map_eq_some_iff.mp e
    exact .cons (unD_all e1)
  | .o _ :: _, ds, h => by
    have e : (none : Option (List D)) = some ds := h
    cases e
  | .fn _ _ :: _, ds, h => by
    have e : (none : Option (List D)) = some ds := h
    cases e
section
variable {K : PySem.W.Frag} {X : Xc} {S : Sa} {Q : Sv → Os → Prop} {ta : TA}
theorem ew_lst2 (h : AW K X ta S fun xs os => ∃ ds, unD xs = some ds ∧ ds.length ≤ sizeLine ∧ Q (.d (.lst ds)) os) : EW K X (tLst ta) S Q :=
  ew_lst fun as H σ Q' R x k => h as H σ Q' R x fun vs H1 xs os1 g1 R1 r1 ⟨ds, e, q⟩ => k vs H1 xs os1 g1 R1 r1 ⟨ds, unD_all e, q⟩
theorem ew_tup2 (h : AW K X ta S fun xs os => ∃ ds, unD xs = some ds ∧ ds.length ≤ sizeLine ∧ Q (.d (.tup ds)) os) : EW K X (tTup ta) S Q :=
  ew_tup fun as H σ Q' R x k => h as H σ Q' R x fun vs H1 xs os1 g1 R1 r1 ⟨ds, e, q⟩ => k vs H1 xs os1 g1 R1 r1 ⟨ds, unD_all e, q⟩
end
end Br

/-! BrU: kinds asked, texts joined, looked through; an exception made and raised. -/
namespace Br
open PySem L2
/-- the kind of data -/
def D.ty : D → Option String
  | .non => some "NoneType"
  | .bl _ => some "bool"
  | .int _ => some "int"
  | .str _ => some "str"
  | .lst _ => some "list"
  | .tup _ => some "tuple"
  | .dk _ => some "dict"
  | .ob _ _ => none
  | .xo _ _ => none
section
variable {K : PySem.W.Frag} {X : Xc} {S : Sa} {Q : Sv → Os → Prop} {te to : TE} {ta : TA}
theorem dx_ty {as : List Addr} {H : Hp} {v : V} {d : D} {n : String} (r : Dx K as H v d) (e : d.ty = some n) : TyX K H v (.type n) := by
  cases r with
  | non => cases e; exact .base .non
  | bl b => cases e; exact .base (.bl b)
  | int i => cases e; exact .base (.int i)
  | str x => cases e; exact .base (.str x)
  | lst hl hr =>
    cases e
    rcases hl with ⟨_, h | ⟨o, h⟩⟩ | ⟨o, its, k, h, c, _⟩
    · exact .base (.lst h)
    · exact .base (.frz h)
    · exact .kList h c
  | tup hl hr =>
    cases e
    rcases hl with ⟨_, h | ⟨o, h⟩⟩ | ⟨o, its, k, h, c, _⟩
    · exact .base (.tup h)
    · exact .fTuple h
    · exact .kTuple h c
  | dk n h hr =>
    cases e
    rcases h with h | ⟨o, h⟩
    · exact .base (.dK h)
    · exact .fDict h
  | ob => cases e
  | xo => cases e
/-- isinstance(x, a built-in type) -/
theorem ew_isi {n : String} (h : EW K X te S fun x os => ∃ d a r, x = .d d ∧ d.ty = some a ∧ kitB a n = some r ∧ Q (.d (.bl r)) os) : EW K X (tCB (rIsi K) (tCons te (tCons (tC (.ty n)) tNil))) S Q := fun as H σ Q' R x k =>
  h as H σ _ R x fun v H1 d os1 g1 R1 r1 ⟨e, a, r, ed, ea, er, q⟩ => by
    subst ed
    exact ⟨v, .ty n, .type a, .type n, r, rfl, .ty n, dx_ty r1 ea, kit_ty er, k (.bl r) H1 (.d (.bl r)) os1 g1 R1 (Dx.bl r) q⟩
/-- sep.join(a list of texts) -/
theorem ew_join (h : EW K X to S fun x os => ∃ a : Str, x = .d (.str a) ∧ EW K X te ⟨S.s, os⟩ fun y os2 => ∃ ys : List Str, y = .d (.lst (ys.map D.str)) ∧ (ys.map (·.length)).sum + ys.length * a.length ≤ 16777216 ∧ Q (.d (.str (Txt.join a ys))) os2) :
    EW K X (tM1 (fun x xs H Q => ∃ a p, ∃ ys : List Str, x = .str a ∧ xs = [.ref p] ∧ (SqL K H p (ys.map V.str) ∨ SqT K H p (ys.map V.str)) ∧ (ys.map (·.length)).sum + ys.length * a.length ≤ 16777216 ∧ Q (.str (Txt.join a ys)) H) to te) S Q := fun as H σ Q' R x k =>
  h as H σ _ R x fun v H1 d os1 g1 R1 r1 ⟨a, ed, h2⟩ => by
    subst ed
    cases r1
    refine ⟨⟨a, rfl⟩, h2 as H1 σ _ (R.go g1 R1) (x.go g1 R1) fun u H2 e os2 g2 R2 r2 ⟨ys, ey, hl, q⟩ => ?_⟩
    subst ey
    cases r2 with
    | @lst p vs _ hl2 hr =>
      have ev := DxA.of_strs hr
      subst ev
      exact ⟨a, p, ys, rfl, rfl, .inl hl2.sq, hl, k _ H2 (.d (.str _)) os2 (g1.trans g2) R2 (Dx.str _) q⟩
/-- a.index(b) -/
theorem ew_sindex (h : EW K X to S fun x os => ∃ a : Str, x = .d (.str a) ∧ EW K X te ⟨S.s, os⟩ fun y os2 => ∃ (b : Str) (i : Nat), y = .d (.str b) ∧ (Builtin.Str.occurrences a b 0 a.length 1).head? = some i ∧ Q (.d (.int (i : Int))) os2) :
    EW K X (tM1 (fun x xs H Q => ∃ a b i rest, x = .str a ∧ xs = [.str b] ∧ Builtin.Str.occurrences a b 0 a.length 1 = i :: rest ∧ Q (.int (i : Nat)) H) to te) S Q := fun as H σ Q' R x k =>
  h as H σ _ R x fun v H1 d os1 g1 R1 r1 ⟨a, ed, h2⟩ => by
    subst ed
    cases r1
    refine ⟨⟨a, rfl⟩, h2 as H1 σ _ (R.go g1 R1) (x.go g1 R1) fun u H2 e os2 g2 R2 r2 ⟨b, i, ey, ho, q⟩ => ?_⟩
    subst ey
    cases r2
    cases eo : Builtin.Str.occurrences a b 0 a.length 1 with
    | nil => rw [eo] at ho; cases ho
    | cons j rest =>
      rw [eo] at ho
      cases ho
      exact ⟨a, b, i, rest, rfl, rfl, eo, k _ H2 (.d (.int _)) os2 (g1.trans g2) R2 (Dx.int _) q⟩
end
/-! ### an exception of the text's own -/
/-- data without a place -/
def D.flat : D → Option V
  | .non => some .non
  | .bl b => some (.bl b)
  | .int i => some (.int i)
  | .str x => some (.str x)
  | _ => none
theorem dx_flat {K : PySem.W.Frag} {as : List Addr} {H : Hp} {v : V} : ∀ {d : D}, d.flat = some v → Dx K as H v d
  | .non, e => by cases e; exact .non
  | .bl b, e => by cases e; exact .bl b
  | .int i, e => by cases e; exact .int i
  | .str x, e => by cases e; exact .str x
  | .lst _, e => by cases e
  | .tup _, e => by cases e
  | .dk _, e => by cases e
  | .ob _ _, e => by cases e
  | .xo _ _, e => by cases e
theorem flat_dx {K : PySem.W.Frag} {as : List Addr} {H : Hp} {u v : V} : ∀ {d : D}, d.flat = some v → Dx K as H u d → u = v
  | .non, e, r => by cases e; cases r; rfl
  | .bl b, e, r => by cases e; cases r; rfl
  | .int i, e, r => by cases e; cases r; rfl
  | .str x, e, r => by cases e; cases r; rfl
  | .lst _, e, _ => by cases e
  | .tup _, e, _ => by cases e
  | .dk _, e, _ => by cases e
  | .ob _ _, e, _ => by cases e
  | .xo _ _, e, _ => by cases e
/-- C.__init__ of one field -/
def spI1 (C : Addr) (f : Str) (P : V → Prop) : Sp := fun vs H Q _ => ∃ (a : Addr) (v : V), vs = [.ref a, v] ∧ P v ∧ H a = some (exo a C none) ∧
  ∀ dx H', H dx = none → dx ≠ a → H' a = some (exo a C (some dx)) → H' dx = some (exd dx [(f, v)]) → (∀ b o, H b = some o → b ≠ a → H' b = some o) → Q .non H'
section
variable {K : PySem.W.Frag} {X : Xc} {S : Sa} {E : Ea} {ta : TA}
theorem w_raise1 {C : Addr} {f : Str} {P : V → Prop} {Wx : WX} (hw : Wx = X.wx) (h : AW K X ta S fun xs os => ∃ d v, xs = [.d d] ∧ d.flat = some v ∧ P v ∧ X.xe C [(f, d)] ⟨S.s, os⟩) :
    W K X (fun _ σ H => tMkO C (spI1 C f P) [] ta σ H fun cls dd H' => Wx cls dd σ H') E S := fun as H σ D R x n r b c => by
  refine h as H σ _ R (x.h R) fun vs H1 xs os1 g1 R1 r1 ⟨d, v, e, ef, hP, q⟩ => ?_
  subst e
  cases r1 with
  | @cons u _ _ _ r1 rn =>
    cases rn
    have ev : v = u := (flat_dx ef r1).symm
    subst ev
    refine ⟨Nat.le_of_ble_eq_true rfl, fun a ha => ⟨a, _, rfl, hP, upd_same, fun dx H2 h1 h2 h3 h4 h6 => ⟨rfl, dx, _, h3, h4, ?_, ?_⟩⟩⟩
    · rw [upd_ne h2] at h1
      exact h1
    · have hdx : H1 dx = none := by
        rw [upd_ne h2] at h1
        exact h1
      have gg : ∀ b o, H1 b = some o → (upd (del H2 a) dx (.xd [(f, v)])) b = some o := fun b o e => by
        have hb : b ≠ a := ne_of_none e ha
        rw [upd_ne (ne_of_none e hdx), del_ne hb]
        exact h6 b o (by rw [upd_ne hb]; exact e) hb
      have g2 : Go as H1 (upd (del H2 a) dx (.xd [(f, v)])) := fun b o e _ => gg b o e
      have R3 : Ro K as (upd (del H2 a) dx (.xd [(f, v)])) os1 := ⟨R1.nd, R1.len, fun k b ob e1 e2 => (R1.own k b ob e1 e2).way (Way.of_go g2) fun w e => gg b w e⟩
      have g3 : Go as H (upd (del H2 a) dx (.xd [(f, v)])) := g1.trans g2
      have z := x.h R _ C dx [(f, v)] [(f, d)] os1 g3 R3 (g1.free (R1.notin hdx) hdx) upd_same (.cons (dx_flat ef) .nil) q
      rw [hw]
      exact z
end
end Br

/-! BrX: an exception that is caught and kept. -/
namespace Br
open PySem PySem.Spec PyProof.Rows L2
theorem exk_ok {P : Program} {w : World} {H : Hp} {h : Heap} {C dd a : Addr} {oe : Obj} {vs : Array Value} (e : h.get? a = some oe) (z : Zc (.ref C) (some dd) oe) (d : oe.data = .fields vs) : ObjOk P w H h a (Exk C dd a) :=
  ⟨⟨oe, vs, e, z, d⟩, ⟨oe, e⟩, fun _ _ ⟨o, v, q, r⟩ k => ⟨o, v, k o q, r⟩⟩
section
variable {X : Cx} {pins : List (Addr × Obj)} {σ : L2.St} {H : Hp} {s : Shared}
/-- what is pinned and new is tracked -/
theorem inv_keep {a : Addr} {oe : Obj} {o : HO} (I : Inv X ((a, oe) :: pins) σ H s) (n0 : X.s_0.heap.get? a = none) (hp : ∀ p ∈ X.pn ++ pins, p.1 ≠ a) (new : ObjOk X.prog X.w (upd H a o) s.heap a o) : Inv X pins σ (upd H a o) s := by
  obtain ⟨he, na, nL, nF, nc⟩ := I.pin (a, oe) (List.mem_append_right _ List.mem_cons_self)
  refine ⟨I.ok, I.os, I.bare, ⟨I.base.keep, I.base.slot, fun b u e n hx => ?_, I.base.there, fun b xs e => ?_, fun b u xs e => ?_, fun b ps e => ?_⟩, I.loc, I.cell, ?_, fun x c e => ?_, fun p hq => ?_, ?_, I.len⟩
  · rw [upd_ne (fun z => by rw [z, n0] at e; cases e)]
    exact I.base.free b u e n hx
  · have z := I.base.tups b xs e
    rw [upd_ne (ne_of_none z na)]
    exact z
  · have z := I.base.frzs b u xs e
    rw [upd_ne (ne_of_none z na)]
    exact z
  · obtain ⟨more, z⟩ := I.base.tbls b ps e
    refine ⟨more, ?_⟩
    rw [upd_ne (ne_of_none z na)]
    exact z
  · rw [upd_ne (Ne.symm nL)]
    exact I.free
  · have hc := I.freeC x c e
    rw [upd_ne (fun z => ?_)]
    · exact hc
    · obtain ⟨v, q⟩ := I.cell x c e
      rw [z] at q
      obtain ⟨o', h1, h2⟩ := id q
      rw [he] at h1
      cases h1
      exact nc v h2
  · have hq' : p ∈ X.pn ++ (a, oe) :: pins := by
      rcases List.mem_append.mp hq with z | z
      · exact List.mem_append_left _ z
      · exact List.mem_append_right _ (List.mem_cons_of_mem _ z)
    obtain ⟨h1, h2, h3, h4, h5⟩ := I.pin p hq'
    refine ⟨h1, ?_, h3, h4, h5⟩
    rw [upd_ne (hp p hq)]
    exact h2
  · exact HOk.laidN I.hok (fun _ _ e => e) na new
end
/-- except x as n: y = n -/
def wKeep (K : PySem.W.Frag) (c : Value) (i j : Nat) (D : Ends) : WX := fun cls d σ H =>
  PySem.W.exmOne K cls c = some true ∧ ∃ C dd, cls = .ref C ∧ d = some dd ∧ i < σ.length ∧ ∀ a, H a = none → D.nx (((σ.set i (some (.ref a))).set j (some (.ref a))).set i none) (upd H a (Exk C dd a))
section
variable {X : Cx} {x n y : Str} {c : Value} {i j : Nat} {body : List Stmt} {np p1 p2 p3 pos pos' : Pos} {tb : WX → TS}
theorem ps_try_keep (hs : X.stack = X.env :: X.outer) (hf : X.env.frame = some X.env.locals) (hN : X.N.Nodup) (hi : X.N[i]? = some n) (hln : X.env.kindOf n = some .local) (hlv : X.env.scope.names.lookup n = some .local) (hj : X.N[j]? = some y) (hjl : X.env.scope.names.lookup y = some .local) (hc : Names X x c) (hex : X.ex = [])
    (hb : ∀ (W : WX) (pn : List (Addr × Obj)) (xe : Value → Shared → Prop), Takes (X.tr pn xe) W → PassesOwn (model X.prog X.w) X.A X.env xe → PSs (X.tr pn xe) body (tb W))
    (hsw : swapsWith (.Name n p1) (some (.Name y p2)) p3.line X.env = pure false := by rfl) (hd1 : (n == ("__debug__" : Str)) = false := by decide) (hd2 : (n == ("__classdict__" : Str)) = false := by decide) :
    PS X (.Try body [.ExceptHandler (some (.Name x np)) (some n) [.Assign [.Name y p2] (.Name n p1) p3] pos'] [] [] pos) (fun D σ H => tb (wKeep X.K c i j D) D σ H) := by
  refine ⟨fun pins s σ H D I h => ?_⟩
  have ok := I.ok
  have hfr : X.A.frames = some (X.env :: X.outer) := by rw [ok.frames, hs]
  have hloc : Loc X.env.scope n := .inl hln
  refine wpAny_Try_except ?_
  refine wpAny_mono ((hb (wKeep X.K c i j D) (X.pn ++ pins) (fun e s₁ => wpAny (model X.prog X.w) X.A (noteFrame e X.env) (fun _ s₂ => wpAny (model X.prog X.w) X.A (setFlight e none) (fun _ s₃ =>
    wpAny (model X.prog X.w) X.A (handleBy e X.env [.ExceptHandler (some (.Name x np)) (some n) [.Assign [.Name y p2] (.Name n p1) p3] pos']) (SP X pins D) X.xe s₃) X.xe s₂) X.xe s₁) (fun u s' xx => ?_) PassesOwn.looking).run [] s σ H D (I.toTry _) h) (fun f s1 hsp => ?_) (fun e s1 he => he)
  · obtain ⟨a, B, sI, pins', σ', H', cls, d, rfl, J', nb, up, sky, na, os, ag, hb1, C, dd, rfl, rfl, hil, hyes⟩ := xx
    have J : Inv X pins σ' H' sI := J'.ofTry ok
    have sky' : Sky B (X.env :: X.outer) a (Zc (.ref C) (some dd)) X.env.locals s'.heap := by rw [← hs]; exact sky
    show wpAny (model X.prog X.w) X.A (noteFrame (.ref a) X.env) _ _ _
    refine Sky.land Zc.steady hfr hf sky' fun h3 fl3 up3 => ?_
    have J3 : Inv X pins σ' H' { s' with heap := h3 } := J.landed nb fl3.1 (up.trans up3) os ag
    obtain ⟨oe3, vs3, he3, hz3, hd3⟩ := fl3.there
    have notFr : ∀ {h : Heap} {o : Obj} {vs : Array Value}, h.FunFrames B (X.env :: X.outer) → h.get? a = some o → o.data = .fields vs → a ∉ frs (X.env :: X.outer) := fun {h o vs} ff e dd hm => by
      obtain ⟨_, o', e', hnf⟩ := ff.mem hm
      rw [e] at e'; cases e'
      exact hnf _ dd
    have nfr := notFr fl3.2.2.1 he3 hd3
    have nL : a ≠ X.env.locals := fun z => nfr (List.mem_filterMap.mpr ⟨X.env, List.mem_cons_self, by rw [hf, z]⟩)
    have nF : a ∉ X.fs := fun hm => by
      obtain ⟨e, he, q⟩ := List.mem_filterMap.mp hm
      exact nfr (List.mem_filterMap.mpr ⟨e, List.mem_cons_of_mem _ he, q⟩)
    have nI : sI.heap.get? a = none := by
      cases e : sI.heap.get? a with
      | none => rfl
      | some o =>
        have z := nb a o e (by rw [hs]; exact nfr)
        rw [fl3.2.1] at z
        cases z
    have n0 : X.s_0.heap.get? a = none := by
      cases e : X.s_0.heap.get? a with
      | none => rfl
      | some o =>
        obtain ⟨o', z⟩ := J.base.there a o e (by rw [hex]; exact fun z => nomatch z)
        rw [nI] at z
        cases z
    have np' : ∀ p ∈ X.pn ++ pins, p.1 ≠ a := fun p hp z => by
      have e := (J.pin p hp).1
      rw [z, nI] at e
      cases e
    have S3 := J3.suite he3 hd3 na nL nF
    refine wpAny_handleBy_cons (codeAny_handlers_test ?_) (by intro q; cases q)
    have LT : PySem.W.Looks (model X.prog X.w) h3 (typeOf (.ref a)) (.ref C) := fun A Q E s k q => wpAny_typeOf_ref (k _ _ he3) (by rw [hz3.1]; exact q)
    have LM := PySem.W.exm_one (M := model X.prog X.w) (J3.kIn) LT hb1
    have test : ∀ {Q : Value → Shared → Prop} {E : Value → Shared → Prop}, Q c { s' with heap := h3 } → wpAny (model X.prog X.w) (X.A.mark (some (.ref a))) (eval (.Name x np) X.env) Q E { s' with heap := h3 } := fun {Q E} q => by
      obtain ⟨hg, hdbg, hm | ⟨hm, hv, hnn⟩⟩ := hc
      · exact ld_glob (X := X.suite a ((a, oe3) :: (X.pn ++ pins))) S3 hg hm q hdbg
      · exact ld_blt (X := X.suite a ((a, oe3) :: (X.pn ++ pins))) S3 hg hm hv q hnn hdbg
    refine test (LM.here ?_)
    refine codeAny_handlers_suite_as ?_
    refine HandSPX.lands_againZ fl3 fun h4 fl4 up4 => ?_
    have J4 : Inv X pins σ' H' { s' with heap := h4 } := J.landed nb fl4.1 ((up.trans up3).trans up4) os ag
    obtain ⟨oe4, vs4, he4, hz4, hd4⟩ := fl4.there
    have S4 := J4.suite he4 hd4 na nL nF
    refine store_ok (X := X.suite a ((a, oe4) :: (X.pn ++ pins))) (v := .ref a) S4 hN hi hloc rfl (fun s5 S5 => ?_) (.inr hln)
    have suite : PSs (X.suite a ((a, oe4) :: (X.pn ++ pins))) [.Assign [.Name y p2] (.Name n p1) p3] (tAsg (tVar i) (gName j)) :=
      pss_one (ps_set (X := X.suite a ((a, oe4) :: (X.pn ++ pins))) hN hj (.inl hjl) (pe_var (X := X.suite a ((a, oe4) :: (X.pn ++ pins))) hi (.inl hlv) hd1 hd2) hsw (.inr hjl))
    refine wpAny_mono (suite.run [] s5 _ H' { nx := fun σ6 H6 => H6 = H' ∧ σ6 = (σ'.set i (some (.ref a))).set j (some (.ref a)), rt := fun _ _ => False, bk := fun _ _ => False, ct := fun _ _ => False } S5 ⟨.ref a, by rw [List.getElem?_set_self hil], rfl, rfl⟩) (fun f s6 hsp => ?_) (fun _ _ z => False.elim z)
    cases f with
    | next =>
      obtain ⟨σ6, H6, S6, q6, q7⟩ := hsp
      subst q6
      have pinA := S6.pin (a, oe4) (List.mem_append_left _ List.mem_cons_self)
      have S7 : Inv X ((a, oe4) :: pins) σ6 H6 s6 := (Inv.unsuite S6 ok).pins_of fun p hp => by
        rcases List.mem_cons.mp hp with e | z
        · rw [e]
          exact pinA
        · exact S6.pin p (List.mem_append_left _ (List.mem_cons_of_mem _ (List.mem_append_right _ z)))
      refine gone_ok S7 hN hi hln fun s7 J7 => ?_
      have e7 := (J7.pin (a, oe4) (List.mem_append_right _ List.mem_cons_self)).1
      refine ⟨_, _, inv_keep J7 n0 np' (exk_ok e7 hz4 hd4), ?_⟩
      rw [q7]
      exact hyes a na
    | brk =>
      obtain ⟨σ6, H6, S6, q6⟩ := hsp
      exact q6.elim
    | cont =>
      obtain ⟨σ6, H6, S6, q6⟩ := hsp
      exact q6.elim
    | ret u =>
      obtain ⟨v6, σ6, H6, S6, r6, q6⟩ := hsp
      exact q6.elim
  · cases f with
    | next =>
      obtain ⟨σ', H', J', q⟩ := hsp
      exact wpAny_execs_nil ⟨σ', H', J'.ofTry ok, q⟩
    | brk =>
      obtain ⟨σ', H', J', q⟩ := hsp
      exact ⟨σ', H', J'.ofTry ok, q⟩
    | cont =>
      obtain ⟨σ', H', J', q⟩ := hsp
      exact ⟨σ', H', J'.ofTry ok, q⟩
    | ret u =>
      obtain ⟨v, σ', H', J', r, q⟩ := hsp
      exact ⟨v, σ', H', J'.ofTry ok, r, q⟩
end
/-! ### what is asked of a kept exception -/
/-- kept.f -/
def tXk (C : Addr) (f : Str) (te : TE) : TE := fun σ H Q => te σ H fun x H1 => ∃ (a dd : Addr) (fs : List (Str × V)) (v : V), x = .ref a ∧ H1 a = some (Exk C dd a) ∧ H1 dd = some (.xd fs) ∧ fs.lookup f = some v ∧ Q v H1
theorem inst_exk {X : Cx} {pins : List (Addr × Obj)} {σ : L2.St} {H : Hp} {s : Shared} {C dd a : Addr} {fs : List (Str × V)} (I : Inv X pins σ H s) (ea : H a = some (Exk C dd a)) (ed : H dd = some (.xd fs)) :
    ∃ (oe : Obj) (od : Obj) (mA : Str → Option Value), PySem.W.InstAt s.heap a oe C (some od) ∧ (∀ f, RelO (fs.lookup f) (mA f)) ∧ ∀ n, PySem.W.lookIn n od = some (mA n) := by
  obtain ⟨⟨oe, vs, he, hz, hd⟩, _⟩ := (show ObjOk X.prog X.w H s.heap a (Exk C dd a) from I.hok a _ ea)
  have hx : ObjOk X.prog X.w H s.heap dd (.xd fs) := I.hok dd _ ed
  obtain ⟨mA, hns, hr⟩ := hx
  obtain ⟨od, ho, hl⟩ := lookIn_ns hns
  exact ⟨oe, od, mA, ⟨he, hz.1, by unfold PySem.W.notCls; rw [hd] <;> rfl, by rw [hz.2]; exact ho⟩, hr, hl⟩
theorem pe_xk {X : Cx} {C : Addr} {e : Expr} {te : TE} {pos : Pos} {n : Str} (T : XfC X.K C) (hno : PySem.W.findIn X.K (.ref C) n = some none) (he : PE X e te) (hb : attributeBase e n X.env (eval e X.env) = eval e X.env := by rfl) :
    PE X (.Attribute e n pos) (tXk C n te) := by
  refine ⟨fun pins s σ H Q I h => ?_⟩
  refine attr_of hb (thn (he.run pins s σ H _ I h) fun u s1 hh => ?_)
  obtain ⟨x, H1, I1, rx, a, dd, fs, v, ex, ea, ed, l, q⟩ := hh
  subst ex
  obtain rfl : u = Value.ref a := rx
  obtain ⟨oe, od, mA, J, hr, hl⟩ := inst_exk I1 ea ed
  obtain ⟨u, hu, ru⟩ := RelO.some_of (v := v) (o := mA n) (by rw [← l]; exact hr n)
  exact HandSPX.exc_get I1.kIn J T.ga T.gg T.exC (PySem.W.findObj_own T.hdC hno rfl (by rw [hl, hu])) (handed_of ru) ⟨v, H1, I1.tok _, ru, q⟩
/-- isinstance(kept, c) -/
def rIsK (K : PySem.W.Frag) (C : Addr) : List V → Hp → VK → Prop := fun xs H Q => ∃ (a dd : Addr) (fs : List (Str × V)) (c : V) (cv : Value) (b : Bool), xs = [.ref a, c] ∧ H a = some (Exk C dd a) ∧ H dd = some (.xd fs) ∧ ClsV c cv ∧ PySem.W.kitOne K (.ref C) cv = some b ∧ Q (.bl b) H
theorem call_isK {X : Cx} {D : Addr} (C : ExcC X.K D) (hcl : (PySem.W.clsIn X.K D).isSome = true) : CallR X (.builtin "isinstance") (rIsK X.K D) := by
  intro pins s σ H xs us Q I r h
  obtain ⟨a, dd, fs, c, cv, b, rfl, ea, ed, hcv, e, q⟩ := h
  obtain ⟨u1, u2, rfl, r1, r2⟩ := vals2 r
  cases (show u1 = Value.ref a from r1)
  have ec := hcv.eq r2
  subst ec
  obtain ⟨oe, od, mA, J, hr, hl⟩ := inst_exk I ea ed
  exact PySem.W.kia_one (PySem.W.kitx_exc hcl C.hg C.hk C.hs C.ha C.hn C.ht C.hm) I.kIn J e (fun z => nomatch z) fun tk => ⟨.bl b, H, I.tok tk, rfl, q⟩
section
variable {K : PySem.W.Frag} {X : Xc} {S : Sa} {Q : Sv → Os → Prop} {te : TE} {E : Ea}
def lookF (fds : List (Str × D)) (f : Str) : Option D := (fds.find? fun kv => kv.1 = f).map (·.2)
theorem dxf_look {as : List Addr} {H : Hp} {f : Str} : ∀ {vs : List (Str × V)} {ds : List (Str × D)} {z : D}, DxF K as H vs ds → lookF ds f = some z → ∃ v, vs.lookup f = some v ∧ Dx K as H v z
  | _, _, _, .nil, e => by simp [lookF] at e
  | _, _, z, .cons (k := k) (v := v) (d := d) (ds := ds) (vs := vs) h r, e => by
    by_cases hk : k = f
    · have e2 : some d = some z := by rw [← e]; simp [lookF, List.find?_cons, hk]
      cases e2
      refine ⟨v, ?_, h⟩
      rw [List.lookup_cons, hk]
      simp
    · have e2 : lookF ds f = some z := by rw [← e]; simp [lookF, List.find?_cons, hk]
      obtain ⟨u, h1, h2⟩ := dxf_look r e2
      refine ⟨u, ?_, h2⟩
      rw [List.lookup_cons, show (f == k) = false by simpa using fun z => hk z.symm]
      exact h1
theorem ew_xk {C : Addr} {f : Str} (h : EW K X te S fun x os => ∃ fds d, x = .d (.xo C fds) ∧ lookF fds f = some d ∧ Q (.d d) os) : EW K X (tXk C f te) S Q := fun as H σ Q' R x k =>
  h as H σ _ R x fun v H1 d os1 g1 R1 r1 ⟨fds, z, ed, el, q⟩ => by
    subst ed
    cases r1 with
    | xo n1 n2 h1 h2 hr =>
      obtain ⟨u, e1, e2⟩ := dxf_look hr el
      exact ⟨_, _, _, u, rfl, h1, h2, e1, k u H1 (.d z) os1 g1 R1 e2 q⟩
theorem ew_isK {C : Addr} {n : String} (h : EW K X te S fun x os => ∃ fds r, x = .d (.xo C fds) ∧ PySem.W.kitOne K (.ref C) (.type n) = some r ∧ Q (.d (.bl r)) os) : EW K X (tCB (rIsK K C) (tCons te (tCons (tC (.ty n)) tNil))) S Q := fun as H σ Q' R x k =>
  h as H σ _ R x fun v H1 d os1 g1 R1 r1 ⟨fds, r, ed, er, q⟩ => by
    subst ed
    cases r1 with
    | xo n1 n2 h1 h2 hr => exact ⟨_, _, _, .ty n, .type n, r, rfl, h1, h2, .ty n, er, k (.bl r) H1 (.d (.bl r)) os1 g1 R1 (Dx.bl r) q⟩
theorem bw_isN0 {os : Os} (q : Q (.d (.bl true)) os) : BW K rIsN (.d .non) (.d .non) os Q :=
  bw_pure (fun as H v u Q' R rx ry k => by
    cases rx
    cases ry
    exact ⟨rfl, k _ (.bl true)⟩) q
theorem bw_isN1 {os : Os} {C : Addr} {fds : List (Str × D)} (q : Q (.d (.bl false)) os) : BW K rIsN (.d (.xo C fds)) (.d .non) os Q :=
  bw_pure (fun as H v u Q' R rx ry k => by
    cases rx
    cases ry
    exact ⟨rfl, k _ (.bl false)⟩) q
/-- try: .. except c as n: y = n -/
theorem w_try_keep {c : Value} {i j : Nat} {tb : WX → TS} {xe : Addr → List (Str × D) → Sa → Prop} (hi : i < S.s.length) (h : ∀ wx, W K ⟨wx, xe⟩ (tb wx) { nx := E.nx, rt := E.rt, bk := E.bk, ct := E.ct } S)
    (hx : ∀ C fds S', xe C fds S' → PySem.W.exmOne K (.ref C) c = some true ∧ i < S'.s.length ∧ E.nx ⟨((S'.s.set i (some (.d (.xo C fds)))).set j (some (.d (.xo C fds)))).set i none, S'.os⟩) :
    W K X (fun D σ H => tb (wKeep K c i j D) D σ H) E S := fun as H σ D R x n r b ct => by
  refine h (wKeep K c i j D) as H σ D R ?_ n r b ct
  intro bs H' σ' S' C dd fs fds s R' hdd e rf z
  obtain ⟨h1, h2, h3⟩ := hx C fds S' z
  refine ⟨h1, C, dd, rfl, rfl, by rw [R'.slen]; exact h2, fun a ha => ?_⟩
  have g : Go bs H' (upd H' a (Exk C dd a)) := Go.new ha
  have R2 : Re K bs (upd H' a (Exk C dd a)) σ' S' := R'.go g (R'.o.new ha)
  have hdn : dd ∉ bs := fun hm => by
    obtain ⟨k, hk, ek⟩ := List.mem_iff_getElem.mp hm
    have h1 : bs[k]? = some dd := by rw [List.getElem?_eq_getElem hk, ek]
    have h2 : k < S'.os.length := R'.o.len ▸ hk
    have z := R'.o.own k dd S'.os[k] h1 (List.getElem?_eq_getElem h2)
    cases eo : S'.os[k] with
    | ml xs =>
      rw [eo] at z
      obtain ⟨vs, q, _⟩ := z
      rw [e] at q
      cases q
    | md xs =>
      rw [eo] at z
      obtain ⟨vs, q, _⟩ := z
      rw [e] at q
      cases q
    | mi C fs =>
      rw [eo] at z
      obtain ⟨dx, vs, q, _⟩ := z
      rw [e] at q
      cases q
    | tb P q =>
      rw [eo] at z
      obtain ⟨ps, q, _⟩ := z
      rw [e] at q
      cases q
  have had : dd ≠ a := ne_of_none e ha
  have rx : Dx K bs (upd H' a (Exk C dd a)) (.ref a) (.xo C fds) := .xo (R'.o.notin ha) hdn upd_same (by rw [upd_ne had]; exact e) (DxF.way (Way.of_go g) rf)
  have R3 := (R2.set i (v := .ref a) (d := .d (.xo C fds)) rx).set j (v := .ref a) (d := .d (.xo C fds)) rx
  have R4 : Re K bs (upd H' a (Exk C dd a)) (((σ'.set i (some (.ref a))).set j (some (.ref a))).set i none) ⟨((S'.s.set i (some (.d (.xo C fds)))).set j (some (.d (.xo C fds)))).set i none, S'.os⟩ := by
    refine ⟨R3.o, by simpa using R3.slen, fun k d hd => ?_⟩
    have hd' : ((((S'.s.set i (some (Sv.d (.xo C fds)))).set j (some (Sv.d (.xo C fds)))).set i none)[k]? = some (some d)) := hd
    by_cases hk : i = k
    · subst hk
      rw [List.getElem?_set] at hd'
      split at hd'
      · split at hd' <;> cases hd'
      · exact absurd rfl ‹_›
    · rw [List.getElem?_set_ne hk] at hd'
      obtain ⟨u, e1, e2⟩ := R3.slot k d hd'
      exact ⟨u, by rw [List.getElem?_set_ne hk]; exact e1, e2⟩
  exact n bs _ _ _ (s.trans (Stp.of_go g R2.o)) R4 h3
end
end Br

/-! BrH: the store's lists: made, grown, read. -/
namespace Br
open PySem L2
section
variable {K : PySem.W.Frag} {X : Xc} {S : Sa} {Q : Sv → Os → Prop} {E : Ea} {te to : TE} {ta : TA}
theorem stp_new {as : List Addr} {H : Hp} {os : Os} {p : Addr} (R : Ro K as H os) (hp : H p = none) : Stp as H (as ++ [p]) (upd H p (.lst [])) := stp_add hp
/-- x = [], a list that changes -/
theorem w_newL {i : Nat} (q : E.nx ⟨S.s.set i (some (.o S.os.length)), S.os ++ [.ml []]⟩) : W K X (tAsg (tLst tNil) (gName i)) E S := fun as H σ D R x n r b c => by
  refine ⟨Nat.zero_le _, fun p hp => ?_⟩
  have R2 : Re K (as ++ [p]) (upd H p (.lst [])) σ ⟨S.s, S.os ++ [.ml []]⟩ := ⟨ro_add R.o hp, R.slen, fun j d hd => by
    obtain ⟨u, e, z⟩ := R.slot j d hd
    exact ⟨u, e, z.stp (stp_new R.o hp)⟩⟩
  exact n _ _ _ _ (stp_new R.o hp) (R2.set i (v := .ref p) (d := .o S.os.length) ⟨p, by rw [← R.o.len]; simp, rfl⟩) q
/-- x.append(e) -/
theorem ew_app (h : EW K X to S fun x os1 => ∃ k xs1, x = .o k ∧ os1[k]? = some (.ml xs1) ∧ EW K X te ⟨S.s, os1⟩ fun y os2 => ∃ z xs, y = .d z ∧ os2[k]? = some (.ml xs) ∧ xs.length < sizeLine ∧ Q (.d .non) (os2.set k (.ml (xs ++ [z])))) :
    EW K X (tBM K "list" rAppend to (tCons te tNil)) S Q := fun as H σ Q' R x k =>
  h as H σ _ R x fun v H1 d os1 g1 R1 r1 ⟨j, xs1, ed, eo1, h2⟩ => by
    subst ed
    obtain ⟨a, ea, rfl⟩ := r1
    refine ⟨?_, h2 as H1 σ _ (R.go g1 R1) (x.go g1 R1) fun u H2 e os2 g2 R2 r2 ⟨z, xs, ey, eo, hl, q⟩ => ?_⟩
    · obtain ⟨ws, q1, _⟩ := R1.own j a _ ea eo1
      exact .inl ⟨rfl, ws, .inl (.inl q1)⟩
    · subst ey
      obtain ⟨vs, h1, h3⟩ := R2.own j a _ ea eo
      have hm : a ∈ as := List.mem_of_getElem? ea
      have g3 : Go as H2 (upd H2 a (.lst (vs ++ [u]))) := Go.at hm
      have rz : Dx K as H2 u z := r2
      have R3 : Ro K as (upd H2 a (.lst (vs ++ [u]))) (os2.set j (.ml (xs ++ [z]))) := ro_set R2 ea ⟨_, upd_same, DxA.way (Way.of_go g3) (DxA.app h3 (.cons rz .nil))⟩
      exact ⟨a, vs, u, rfl, rfl, h1, by rw [h3.length]; exact hl, k .non _ (.d .non) _ ((g1.trans g2).trans g3) R3 Dx.non q⟩
/-- a list of the store, as it is read -/
theorem o_list {as : List Addr} {H : Hp} {os : Os} {v : V} {j : Nat} {xs : List D} (R : Ro K as H os) (r : SvR K as H v (.o j)) (e : os[j]? = some (.ml xs)) : ∃ a vs, v = .ref a ∧ SqL K H a vs ∧ DxA K as H vs xs := by
  obtain ⟨a, ea, rfl⟩ := r
  obtain ⟨vs, h1, h2⟩ := R.own j a _ ea e
  exact ⟨a, vs, rfl, .inl (.inl h1), h2⟩
theorem cw_lenO {os : Os} {j : Nat} {xs : List D} (e : os[j]? = some (.ml xs)) (q : Q (.d (.int (xs.length : Int))) os) : CW K (rLen K) [.o j] os Q :=
  cw_pure (fun as H vs Q' R r k => by
    cases r with
    | cons h t =>
      cases t
      obtain ⟨a, ws, rfl, hs, hr⟩ := o_list R h e
      refine ⟨a, ws, rfl, .inl hs, ?_⟩
      rw [hr.length]
      exact k _ (.int _)) q
theorem bw_ixO {os : Os} {j : Nat} {xs : List D} {i : Int} {z : D} (e : os[j]? = some (.ml xs)) (h : L2.atI xs i = some z) (q : Q (.d z) os) : BW K (rIxL K) (.o j) (.d (.int i)) os Q :=
  bw_pure (fun as H v u Q' R rx ry k => by
    cases ry
    obtain ⟨a, ws, rfl, hs, hr⟩ := o_list R rx e
    obtain ⟨u, e1, r⟩ := hr.atI h
    exact ⟨a, ws, i, u, rfl, rfl, hs, e1, k _ r⟩) q
theorem cw_tupO {os : Os} {j : Nat} {xs : List D} (e : os[j]? = some (.ml xs)) (q : Q (.d (.tup xs)) os) : CW K (rTupOf K) [.o j] os Q :=
  cw_new (fun as H vs Q' R r k1 k2 => by
    cases r with
    | cons h t =>
      cases t
      obtain ⟨a, ws, rfl, hs, hr⟩ := o_list R h e
      exact ⟨a, ws, rfl, .inl ⟨hs, fun l hl => k1 l _ hl (dx_newT R hl hr)⟩⟩) q
theorem cw_lstO {os : Os} {j : Nat} {xs : List D} (e : os[j]? = some (.ml xs)) (q : Q (.d (.lst xs)) os) : CW K (rListOf K) [.o j] os Q :=
  cw_new (fun as H vs Q' R r k1 k2 => by
    cases r with
    | cons h t =>
      cases t
      obtain ⟨a, ws, rfl, hs, hr⟩ := o_list R h e
      exact ⟨a, ws, rfl, .inl hs, fun l hl => k1 l _ hl (dx_newL R hl hr)⟩) q
end
end Br

/-! BrW: written constants: tuples, lists, dicts with text keys, looked over at once. -/
namespace Br
open PySem L2
mutual
def dOk (K : PySem.W.Frag) : D → Value → Bool
  | .non, u => decide (u = .none)
  | .bl b, u => decide (u = .bool b)
  | .int i, u => match u with
    | .int j _ => decide (i = j)
    | _ => false
  | .str x, u => match u with
    | .str y _ => decide (x = y)
    | _ => false
  | .tup ds, u => match u with
    | .ref a => match K.lookup a with
      | some o => decide (o.cls = .type "tuple") && match o.data with
        | .seq its _ => decide (its.size ≤ sizeLine) && dsOk K ds its.toList
        | _ => false
      | none => false
    | _ => false
  | .lst ds, u => match u with
    | .ref a => match K.lookup a with
      | some o => decide (o.cls = .type "list") && (decide (o.dict = none) && match o.data with
        | .seq its _ => decide (its.size ≤ sizeLine) && dsOk K ds its.toList
        | _ => false)
      | none => false
    | _ => false
  | .dk _, _ => false
  | .ob _ _, _ => false
  | .xo _ _, _ => false
def dsOk (K : PySem.W.Frag) : List D → List Value → Bool
  | [], us => us.isEmpty
  | d :: ds, us => match us with
    | u :: us => dOk K d u && dsOk K ds us
    | [] => false
end
variable {K : PySem.W.Frag}
mutual
theorem dOk_is : ∀ (d : D) (u : Value), dOk K d u = true → ∃ v, RelV v u ∧ ∀ as H, Dx K as H v d
  | .non, u, h => by
    have h2 : decide (u = .none) = true := h
    have e : u = .none := of_decide_eq_true h2
    exact ⟨.non, e, fun _ _ => .non⟩
  | .bl b, u, h => by
    have h2 : decide (u = .bool b) = true := h
    have e : u = .bool b := of_decide_eq_true h2
    exact ⟨.bl b, e, fun _ _ => .bl b⟩
  | .int i, .int j t, h => by
    have h2 : decide (i = j) = true := h
    have e : i = j := of_decide_eq_true h2
    subst e
    exact ⟨.int i, ⟨t, rfl⟩, fun _ _ => .int i⟩
  | .str x, .str y t, h => by
    have h2 : decide (x = y) = true := h
    have e : x = y := of_decide_eq_true h2
    subst e
    exact ⟨.str x, ⟨t, rfl⟩, fun _ _ => .str x⟩
  | .tup ds, .ref a, h => by
    have h0 : (match K.lookup a with
      | some o => decide (o.cls = .type "tuple") && match o.data with
        | .seq its _ => decide (its.size ≤ sizeLine) && dsOk K ds its.toList
        | _ => false
      | none => false) = true := h
    cases eo : K.lookup a with
    | none => rw [eo] at h0; cases h0
    | some o =>
      rw [eo] at h0
      obtain ⟨h1, h2⟩ := Bool.and_eq_true_iff.mp h0
      have h3 : o.cls = .type "tuple" := of_decide_eq_true h1
      cases ed : o.data with
      | seq its n =>
        rw [ed] at h2
        obtain ⟨h4, h5⟩ := Bool.and_eq_true_iff.mp h2
        obtain ⟨vs, r1, r2⟩ := dsOk_is ds _ h5
        exact ⟨.ref a, rfl, fun as H => .tup (.inr ⟨o, its, n, eo, h3, ed, of_decide_eq_true h4, r1⟩) (r2 as H)⟩
      | _ => rw [ed] at h2; cases h2
  | .lst ds, .ref a, h => by
    have h0 : (match K.lookup a with
      | some o => decide (o.cls = .type "list") && (decide (o.dict = none) && match o.data with
        | .seq its _ => decide (its.size ≤ sizeLine) && dsOk K ds its.toList
        | _ => false)
      | none => false) = true := h
    cases eo : K.lookup a with
    | none => rw [eo] at h0; cases h0
    | some o =>
      rw [eo] at h0
      obtain ⟨h1, h2⟩ := Bool.and_eq_true_iff.mp h0
      obtain ⟨h6, h2⟩ := Bool.and_eq_true_iff.mp h2
      have h3 : o.cls = .type "list" := of_decide_eq_true h1
      cases ed : o.data with
      | seq its n =>
        rw [ed] at h2
        obtain ⟨h4, h5⟩ := Bool.and_eq_true_iff.mp h2
        obtain ⟨vs, r1, r2⟩ := dsOk_is ds _ h5
        exact ⟨.ref a, rfl, fun as H => .lst (.inr ⟨o, its, n, eo, h3, of_decide_eq_true h6, ed, of_decide_eq_true h4, r1⟩) (r2 as H)⟩
      | _ => rw [ed] at h2; cases h2
theorem dsOk_is : ∀ (ds : List D) (us : List Value), dsOk K ds us = true → ∃ vs, Vals vs us ∧ ∀ as H, DxA K as H vs ds
  | [], [], _ => ⟨[], .nil, fun _ _ => .nil⟩
  | [], _ :: _, h => by cases h
  | _ :: _, [], h => by cases h
  | d :: ds, u :: us, h => by
    have h0 : (dOk K d u && dsOk K ds us) = true := h
    obtain ⟨h1, h2⟩ := Bool.and_eq_true_iff.mp h0
    obtain ⟨v, r1, r2⟩ := dOk_is d u h1
    obtain ⟨vs, r3, r4⟩ := dsOk_is ds us h2
    exact ⟨v :: vs, .cons r1 r3, fun as H => .cons (r2 as H) (r4 as H)⟩
end
/-- a written dict with text keys, looked over: just these, in this order -/
def tbOk (K : PySem.W.Frag) (a : Addr) (tb : List (Str × D)) : Bool := tb.all fun kd => match PySem.W.nsIn K a kd.1 with
  | some (some u) => dOk K kd.2 u
  | _ => false
theorem tbOk_at {a : Addr} {tb : List (Str × D)} {k : Str} {d : D} (h : tbOk K a tb = true) (m : (k, d) ∈ tb) : ∃ u v, PySem.W.nsIn K a k = some (some u) ∧ RelV v u ∧ ∀ as H, Dx K as H v d := by
  have z := List.all_eq_true.mp h (k, d) m
  dsimp only at z
  cases e : PySem.W.nsIn K a k with
  | none => rw [e] at z; cases z
  | some o =>
    cases o with
    | none => rw [e] at z; cases z
    | some u =>
      rw [e] at z
      obtain ⟨v, r1, r2⟩ := dOk_is d u z
      exact ⟨u, v, rfl, r1, r2⟩
/-- a written dict, looked over: just these text keys, in this order -/
def keysOk (K : PySem.W.Frag) : List DictEntry → List (Str × D) → Bool
  | [], tb => tb.isEmpty
  | e :: es, tb => match tb with
    | kd :: tb => (match e.key with
      | .str x _ => decide (x = kd.1)
      | _ => false) && (dOk K kd.2 e.val && keysOk K es tb)
    | [] => false
def kdOk (K : PySem.W.Frag) (a : Addr) (tb : List (Str × D)) : Bool := match K.lookup a with
  | some ⟨_, _, .dict es _, _⟩ => keysOk K es.toList tb
  | _ => false
def lookT (tb : List (Str × D)) (z : Str) : Option D := (tb.find? fun kd => decide (kd.1 = z)).map (·.2)
theorem keys_find {z : Str} : ∀ {es : List DictEntry} {tb : List (Str × D)}, keysOk K es tb = true → (∃ d e, lookT tb z = some d ∧ es.find? (·.key.isStr z) = some e ∧ dOk K d e.val = true) ∨ (lookT tb z = none ∧ es.find? (·.key.isStr z) = none)
  | [], [], _ => .inr ⟨rfl, rfl⟩
  | [], _ :: _, h => by cases h
  | _ :: _, [], h => by cases h
  | e :: es, kd :: tb, h => by
    have h0 : ((match e.key with
      | .str x _ => decide (x = kd.1)
      | _ => false) && (dOk K kd.2 e.val && keysOk K es tb)) = true := h
    obtain ⟨h1, h2⟩ := Bool.and_eq_true_iff.mp h0
    obtain ⟨h3, h4⟩ := Bool.and_eq_true_iff.mp h2
    cases ek : e.key with
    | str x t =>
      rw [ek] at h1
      have ex : x = kd.1 := of_decide_eq_true h1
      by_cases hz : kd.1 = z
      · refine .inl ⟨kd.2, e, ?_, ?_, h3⟩
        · unfold lookT
          rw [List.find?_cons_of_pos (by simpa using hz)]
          rfl
        · rw [List.find?_cons_of_pos]
          rw [ek, ex, hz]
          show (z == z) = true
          exact beq_self_eq_true z
      · have ih := keys_find (z := z) h4
        have a1 : lookT (kd :: tb) z = lookT tb z := by
          unfold lookT
          rw [List.find?_cons_of_neg (by simpa using hz)]
        have a2 : (e :: es).find? (·.key.isStr z) = es.find? (·.key.isStr z) := by
          rw [List.find?_cons_of_neg]
          rw [ek, ex]
          show ¬ ((kd.1 == z) = true)
          intro q
          exact hz (eq_of_beq q)
        rw [a1, a2]
        exact ih
    | _ => rw [ek] at h1; cases h1
theorem keys_plain : ∀ {es : List DictEntry} {tb : List (Str × D)}, keysOk K es tb = true → es.any (·.refKey) = false
  | [], _, _ => rfl
  | _ :: _, [], h => by cases h
  | e :: es, kd :: tb, h => by
    have h0 : ((match e.key with
      | .str x _ => decide (x = kd.1)
      | _ => false) && (dOk K kd.2 e.val && keysOk K es tb)) = true := h
    obtain ⟨h1, h2⟩ := Bool.and_eq_true_iff.mp h0
    have ih := keys_plain (Bool.and_eq_true_iff.mp h2).2
    cases ek : e.key with
    | str x t =>
      rw [List.any_cons, ih]
      unfold DictEntry.refKey
      rw [ek]
      rfl
    | _ => rw [ek] at h1; cases h1
/-- what stands at a text -/
theorem kd_at {a : Addr} {tb : List (Str × D)} (h : kdOk K a tb = true) (z : Str) :
    (∃ d u v, lookT tb z = some d ∧ PySem.W.nsIn K a z = some (some u) ∧ RelV v u ∧ ∀ as H, Dx K as H v d) ∨ (lookT tb z = none ∧ PySem.W.nsIn K a z = some none) := by
  unfold kdOk at h
  unfold PySem.W.nsIn
  split at h
  · rename_i c o es n sl e
    rw [e]
    rcases keys_find (z := z) h with ⟨d, x, h1, h2, h3⟩ | ⟨h1, h2⟩
    · obtain ⟨v, r1, r2⟩ := dOk_is d _ h3
      refine .inl ⟨d, x.val, v, h1, ?_, r1, r2⟩
      dsimp only
      rw [h2]
    · refine .inr ⟨h1, ?_⟩
      dsimp only
      rw [h2, keys_plain h]
      rfl
  · cases h
def rKd (K : PySem.W.Frag) (a : Addr) : R2 := fun x y H Q => ∃ (z : Str) (u0 : Value) (v0 : V), x = .ref a ∧ y = .str z ∧ PySem.W.nsIn K a z = some (some u0) ∧ RelV v0 u0 ∧ Q v0 H
def rInKd (K : PySem.W.Frag) (a : Addr) : R2 := fun x y H Q => ∃ (z : Str) (r : Option Value), x = .str z ∧ y = .ref a ∧ PySem.W.nsIn K a z = some r ∧ Q (.bl r.isSome) H
def rNotInKd (K : PySem.W.Frag) (a : Addr) : R2 := fun x y H Q => ∃ (z : Str) (r : Option Value), x = .str z ∧ y = .ref a ∧ PySem.W.nsIn K a z = some r ∧ Q (.bl (!r.isSome)) H
section
variable {X : Xc} {S : Sa} {Q : Sv → Os → Prop} {te : TE} {a : Addr} {tb : List (Str × D)}
/-- T[e] -/
theorem ew_kd (hk : kdOk K a tb = true) (h : EW K X te S fun y os => ∃ z d, y = .d (.str z) ∧ lookT tb z = some d ∧ Q (.d d) os) : EW K X (tOp (rKd K a) (tC (.ref a)) te) S Q := fun as H σ Q' R x k =>
  h as H σ _ R x fun v H1 d os1 g1 R1 r1 ⟨z, e, ed, el, q⟩ => by
    subst ed
    cases r1
    rcases kd_at hk z with ⟨d', u, v, h1, h2, h3, h4⟩ | ⟨h1, _⟩
    · rw [el] at h1
      cases h1
      exact ⟨z, u, v, rfl, rfl, h2, h3, k v H1 (.d _) os1 g1 R1 (h4 as H1) q⟩
    · rw [el] at h1
      cases h1
/-- e in T -/
theorem ew_inKd (hk : kdOk K a tb = true) (h : EW K X te S fun y os => ∃ z, y = .d (.str z) ∧ Q (.d (.bl (lookT tb z).isSome)) os) : EW K X (tOp (rInKd K a) te (tC (.ref a))) S Q := fun as H σ Q' R x k =>
  h as H σ _ R x fun v H1 d os1 g1 R1 r1 ⟨z, ed, q⟩ => by
    subst ed
    cases r1
    rcases kd_at hk z with ⟨d', u, v, h1, h2, h3, h4⟩ | ⟨h1, h2⟩
    · rw [h1] at q
      exact ⟨z, some u, rfl, rfl, h2, k (.bl true) H1 (.d (.bl true)) os1 g1 R1 (Dx.bl true) q⟩
    · rw [h1] at q
      exact ⟨z, none, rfl, rfl, h2, k (.bl false) H1 (.d (.bl false)) os1 g1 R1 (Dx.bl false) q⟩
theorem ew_notInKd (hk : kdOk K a tb = true) (h : EW K X te S fun y os => ∃ z, y = .d (.str z) ∧ Q (.d (.bl (!(lookT tb z).isSome))) os) : EW K X (tOp (rNotInKd K a) te (tC (.ref a))) S Q := fun as H σ Q' R x k =>
  h as H σ _ R x fun v H1 d os1 g1 R1 r1 ⟨z, ed, q⟩ => by
    subst ed
    cases r1
    rcases kd_at hk z with ⟨d', u, v, h1, h2, h3, h4⟩ | ⟨h1, h2⟩
    · rw [h1] at q
      exact ⟨z, some u, rfl, rfl, h2, k (.bl false) H1 (.d (.bl false)) os1 g1 R1 (Dx.bl false) q⟩
    · rw [h1] at q
      exact ⟨z, none, rfl, rfl, h2, k (.bl true) H1 (.d (.bl true)) os1 g1 R1 (Dx.bl true) q⟩
end
section
variable {X : Cx} {a : Addr} {es : Array DictEntry} {n : Nat}
theorem op_kd (D : KDict X.K X.w a es n) : OpR X getItem (rKd X.K a) := op_item_kd D
theorem op_inKd (D : KDict X.K X.w a es n) : OpR X (compareOp .In) (rInKd X.K a) := op_in_kd D
theorem op_notInKd (D : KDict X.K X.w a es n) : OpR X (compareOp .NotIn) (rNotInKd X.K a) := op_notIn_kd D
end
end Br

/-! BrY: all, any, sum of data; tuples put together. -/
namespace Br
open PySem L2
section
variable {K : PySem.W.Frag} {X : Xc} {S : Sa} {os : Os} {Q : Sv → Os → Prop} {te : TE}
theorem cw_all {bs : List Bool} (q : Q (.d (.bl (bs.all id))) os) : CW K (rAll K) [.d (.lst (bs.map D.bl))] os Q :=
  cw_pure (fun as H vs Q' R r k => by
    cases r with
    | cons h t =>
      cases t
      cases h with
      | @lst a ws _ hl hr =>
        have e := DxA.of_bls hr
        subst e
        exact ⟨a, bs, rfl, hl.sq, k _ (.bl _)⟩) q
theorem cw_any {bs : List Bool} (q : Q (.d (.bl (bs.any id))) os) : CW K (rAny K) [.d (.lst (bs.map D.bl))] os Q :=
  cw_pure (fun as H vs Q' R r k => by
    cases r with
    | cons h t =>
      cases t
      cases h with
      | @lst a ws _ hl hr =>
        have e := DxA.of_bls hr
        subst e
        exact ⟨a, bs, rfl, hl.sq, k _ (.bl _)⟩) q
theorem cw_sum {ns : List Int} (q : Q (.d (.int ns.sum)) os) : CW K (rSum K) [.d (.lst (ns.map D.int))] os Q :=
  cw_pure (fun as H vs Q' R r k => by
    cases r with
    | cons h t =>
      cases t
      cases h with
      | @lst a ws _ hl hr =>
        have e := DxA.of_ints hr
        subst e
        exact ⟨a, ns, rfl, hl.sq, k _ (.int _)⟩) q
/-- t + u of tuples -/
theorem bw_catT {xs ys : List D} (hl : xs.length + ys.length ≤ sizeLine) (q : Q (.d (.tup (xs ++ ys))) os) : BW K (rCatA K) (.d (.tup xs)) (.d (.tup ys)) os Q :=
  bw_new (fun as H v u Q' R rx ry k1 k2 => by
    cases rx with
    | @tup a vs _ h1 h2 =>
      cases ry with
      | @tup b us _ h3 h4 =>
        refine ⟨a, b, vs, us, rfl, rfl, h1.sq, h3.sq, by rw [h2.length, h4.length]; exact hl, fun e => ?_, fun e1 e2 => ?_, fun _ _ p hp => k1 p _ hp (dx_newT R hp (h2.app h4))⟩
        · subst e
          have z : xs = [] := by
            have := h2.length
            exact List.length_eq_zero_iff.mp this.symm
          subst z
          exact k2 _ (.tup h3 h4)
        · subst e2
          have z : ys = [] := by
            have := h4.length
            exact List.length_eq_zero_iff.mp this.symm
          subst z
          rw [List.append_nil] at k2
          exact k2 _ (.tup h1 h2)) q
end
end Br

/-! BrZ: zip of a text and a tuple. -/
namespace BrZip
open PySem PySem.Spec PyProof.Rows Builtin Builtin.SmallTypes
abbrev mz1 (h : Heap) (x : Str) (t : Tok) : Heap := h.push { cls := .type (strIterType x), data := .fields #[.str x t, .int 0 0] }
abbrev mz2 (h : Heap) (x : Str) (t : Tok) (b : Addr) : Heap := (mz1 h x t).push { cls := .type "tuple_iterator", data := .fields #[.ref b, .int 0 0] }
abbrev mz3 (h : Heap) (x : Str) (t : Tok) (b : Addr) : Heap := (mz2 h x t b).push { cls := .type "tuple", data := .seq #[.ref h.objs.size, .ref (mz1 h x t).objs.size] }
abbrev mz4 (h : Heap) (x : Str) (t : Tok) (b : Addr) : Heap := (mz3 h x t b).push { cls := .type "tuple", data := .seq #[.none, .none] }
abbrev mz5 (h : Heap) (x : Str) (t : Tok) (b : Addr) : Heap := (mz4 h x t b).push { cls := .type "zip", data := .fields #[.none, .bool false, .bool false, .ref (mz2 h x t b).objs.size, .ref (mz3 h x t b).objs.size] }
theorem meets_new (x : Str) (t : Tok) (b : Addr) (ys : Array Value) :
    Meets (Builtin.«zip.__new__» ⟨[.type "zip", .str x t, .ref b], []⟩) (fun _ R s => s.heap.IsTuple b ys ∧ R (.ok (.ret (.ref (mz4 s.heap x t b).objs.size))) { s with heap := mz5 s.heap x t b }) :=
  .of_wp fun prog w A R s h => by
    obtain ⟨hp, g, d, tk, os⟩ := s
    obtain ⟨hl2, h⟩ := h
    have hsub := sub_zip
    have hL2 : Heap.IsTuple (Shared.heap ⟨mz1 hp x t, g, d, tk, os⟩) b ys := Heap.IsTuple.push hl2 _
    wp_walk using wpAny_pyIter_strU, wpAny_pyIter_tuple hL2
    exact ⟨_, rfl, h⟩
section
variable {prog : Program} {w : World} {A : Around} {E : Value → Shared → Prop} {s : Shared}
theorem call_mz {x : Str} {t : Tok} {b : Addr} {ys : Array Value} {Q : Value → Shared → Prop} (hb : s.heap.IsTuple b ys)
    (h : ∀ h', IsZip h' (s.heap.objs.size + 4) (s.heap.objs.size + 2) (s.heap.objs.size + 3) .none → IsPair h' (s.heap.objs.size + 2) (.ref s.heap.objs.size) (.ref (s.heap.objs.size + 1)) →
      IsPair h' (s.heap.objs.size + 3) .none .none → h'.IsStrIter s.heap.objs.size (strIterType x) x t 0 → h'.IsTupleIter (s.heap.objs.size + 1) b 0 →
      (∀ c o, s.heap.get? c = some o → h'.get? c = some o) → Q (.ref (s.heap.objs.size + 4)) { s with heap := h' }) :
    wpAny (model prog w) A (call (.type "zip") [.str x t, .ref b]) Q E s := by
  refine callType_new F.called_zip (by decide) (F.typeCall_zip_2 _ _) (F.newCall_zip_2 _ _) (fun obj => F.args_object_init_3 obj _ _) F.entry_zip_new (meets_new x t b ys) ⟨hb, ?_⟩
  have n1 : (mz1 s.heap x t).objs.size = s.heap.objs.size + 1 := Heap.size_push ..
  have n2 : (mz2 s.heap x t b).objs.size = s.heap.objs.size + 2 := by rw [Heap.size_push, n1]
  have n3 : (mz3 s.heap x t b).objs.size = s.heap.objs.size + 3 := by rw [Heap.size_push, n2]
  have n4 : (mz4 s.heap x t b).objs.size = s.heap.objs.size + 4 := by rw [Heap.size_push, n3]
  have q5 : (mz5 s.heap x t b).get? (mz4 s.heap x t b).objs.size = some _ := Heap.get?_push_size _ rfl
  have q4 : (mz5 s.heap x t b).get? (mz3 s.heap x t b).objs.size = some _ := Heap.get?_push_of_some _ (Heap.get?_push_size _ rfl)
  have q3 : (mz5 s.heap x t b).get? (mz2 s.heap x t b).objs.size = some _ := Heap.get?_push_of_some _ (Heap.get?_push_of_some _ (Heap.get?_push_size _ rfl))
  have q2 : (mz5 s.heap x t b).get? (mz1 s.heap x t).objs.size = some _ := Heap.get?_push_of_some _ (Heap.get?_push_of_some _ (Heap.get?_push_of_some _ (Heap.get?_push_size _ rfl)))
  have q1 : (mz5 s.heap x t b).get? s.heap.objs.size = some _ := Heap.get?_push_of_some _ (Heap.get?_push_of_some _ (Heap.get?_push_of_some _ (Heap.get?_push_of_some _ (Heap.get?_push_size _ rfl))))
  show _ ∧ _
  rw [n2, n3, n4] at q5
  rw [n1, n2] at q3
  rw [n3] at q4
  rw [n1] at q2
  rw [n4]
  exact ⟨⟨_, q5, rfl⟩, h _ q5 q3 q4 ⟨_, q1, rfl, rfl⟩ ⟨_, q2, rfl, rfl⟩ fun c o e =>
    Heap.get?_push_of_some _ (Heap.get?_push_of_some _ (Heap.get?_push_of_some _ (Heap.get?_push_of_some _ (Heap.get?_push_of_some _ e))))⟩
end
end BrZip
namespace Br
open PySem PySem.Spec PyProof.Rows L2 BrZip
/-- the signs of x beside the tuple at b -/
def Itm (K : PySem.W.Frag) (x : Str) (b : Addr) (m : Nat) : It :=
  ⟨fun i H => i < x.cps.size ∧ ∃ (ys : List V) (y : V), SqT K H b ys ∧ ys.length = m ∧ ys[i]? = some y,
    fun i H v H' => ∃ T c y, v = .ref T ∧ H T = none ∧ x.cps[i]? = some c ∧ H' = upd H T (.tup [.str ⟨#[c]⟩, y]) ∧ ∀ ys, SqT K H b ys → ys[i]? = some y,
    fun i H => (x.cps.size ≤ i ∨ m ≤ i) ∧ ∃ ys : List V, SqT K H b ys ∧ ys.length = m⟩
theorem turn_mz {P : Program} {w : World} {K : PySem.W.Frag} {elts : List Expr} {kk : Nat} {tpos : Pos} {x : Str} {t : Tok} {m : Nat} {b z TI TO i1 i2 : Addr} (S : PySem.ZipSep2 z TI TO i1 i2 [i1] [i2, b]) (hb2 : b ≠ i2) :
    Turn P w K (.Tuple elts kk tpos) (Itm K x b m) [z, TI, TO, i1, i2] z (fun i h => (i ≤ x.cps.size ∧ i ≤ m) ∧ IsZip h z TI TO .none ∧ IsPair h TI (.ref i1) (.ref i2) ∧ (∃ x y, IsPair h TO x y) ∧ h.IsStrIter i1 (strIterType x) x t i ∧ h.IsTupleIter i2 b i) where
  mem := by simp
  obj := fun i h st c hc => by
    obtain ⟨_, hz, hTI, ⟨x, y, hTO⟩, ⟨o1, e1, _, d1⟩, ⟨o2, e2, _, d2⟩⟩ := st
    simp only [List.mem_cons, List.not_mem_nil, or_false] at hc
    rcases hc with q | q | q | q | q <;> subst q
    · exact ⟨_, hz, fun v q => nomatch q⟩
    · exact ⟨_, hTI, fun v q => nomatch q⟩
    · exact ⟨_, hTO, fun v q => nomatch q⟩
    · exact ⟨o1, e1, fun v q => by rw [d1] at q; cases q⟩
    · exact ⟨o2, e2, fun v q => by rw [d2] at q; cases q⟩
  keep := fun i h h' st k => by
    obtain ⟨hi, hz, hTI, ⟨x, y, hTO⟩, ⟨o1, e1, r1⟩, h2⟩ := st
    exact ⟨hi, k z (by simp) _ hz, k TI (by simp) _ hTI, ⟨x, y, k TO (by simp) _ hTO⟩, ⟨o1, k i1 (by simp) _ e1, r1⟩, h2.at fun o q => k i2 (by simp) o q⟩
  item := by
    intro X hP hw hK hc i pins s σ H E I hf st hg
    subst hP hw hK
    obtain ⟨hi, hz, hTI, ⟨x0, y0, hTO⟩, h1, h2⟩ := st
    obtain ⟨hlt, ys, y, hqy, hm, hy⟩ := hg
    obtain ⟨its, rv, p, _⟩ := I.tuple hqy
    obtain ⟨u2, hu2, ru2⟩ := rv.get hy
    have hzl : z < s.heap.objs.size := Heap.lt_size hz
    have D1 := Draws.text (prog := X.prog) (w := X.w) (A := X.A.in1) (I.ok.hd hc) i1 x t
    have D2 := Draws.tuple (prog := X.prog) (w := X.w) (A := X.A.in1) (I.ok.hd hc) i2 b hb2 its.toArray
    have hl2 : i < its.toArray.size := by
      rw [List.size_toArray]
      exact (List.getElem?_eq_some_iff.mp hu2).1
    refine wpAny_pyNext_zipD2_item S D1 D2 hz hTI hTO h1 ⟨h2, p⟩ hlt hl2 fun v1 v2 h' tk y1 y2 hz' hTO' st1 st2 hT hsz hk => ?_
    obtain ⟨c, u1, hcx, rfl⟩ := y1
    have ev : v2 = u2 := by
      have y3 : its[i]? = some v2 := by simpa using y2
      rw [hu2] at y3
      exact (Option.some.inj y3).symm
    subst ev
    refine ⟨_, rfl, wpAny_letOwnedTupleGo_zip (s := { s with heap := h', toks := tk }) hz' fun h'' hz'' sb => ?_⟩
    have hT2 : h''.get? s.heap.objs.size = some { cls := .type "tuple", data := .seq #[.str ⟨#[c]⟩ u1, v2] } := (sb.2 _ (Nat.ne_of_gt hzl)).trans hT
    have new : ObjOk X.prog X.w (upd H s.heap.objs.size (.tup [.str ⟨#[c]⟩, y])) h'' s.heap.objs.size (.tup [.str ⟨#[c]⟩, y]) :=
      ⟨by show 2 ≤ sizeLine; decide, [.str ⟨#[c]⟩ u1, v2], .cons ⟨u1, rfl⟩ (.cons ru2 .nil), ⟨_, hT2, rfl, _, rfl⟩⟩
    have I1 : Inv X pins σ (upd H s.heap.objs.size (.tup [.str ⟨#[c]⟩, y])) { s with heap := h'', toks := tk } :=
      I.turnedNew (t' := tk) (ch := [z, TI, TO, i1, i2]) (fun c o hb q => (sb.2 c (fun q' => hb (by simp [q']))).trans (hk c o (fun q' => hb (by simp [q'])) (fun q' => hb (by simp [q'])) (fun q' => hb (by simp [q'])) (fun q' => hb (by simp [q'])) q)) hf (Nat.le_refl _) new
    have i1z : i1 ≠ z := fun q => S.zf1 (by rw [q]; simp)
    have i2z : i2 ≠ z := fun q => S.zf2 (by rw [q]; simp)
    refine ⟨.ref s.heap.objs.size, _, I1, rfl, ⟨_, c, y, rfl, I.hok.fresh (Nat.le_refl _), hcx, rfl, fun l hl => by rw [I.tuple_inj hl hqy]; exact hy⟩, ⟨⟨hlt, by rw [← hm]; exact (List.getElem?_eq_some_iff.mp hy).1⟩, hz'', ?_, ⟨.str ⟨#[c]⟩ u1, v2, ?_⟩, ?_, ?_⟩, fun c hcm => ?_⟩
    · exact (sb.2 _ S.TIz).trans (hk _ _ S.TIz S.TITO S.TIi1 S.TIi2 hTI)
    · exact (sb.2 _ S.TOz).trans hTO'
    · obtain ⟨o1, e1, r1⟩ := st1
      exact ⟨o1, (sb.2 _ i1z).trans e1, r1⟩
    · exact st2.1.at fun o q => (sb.2 _ i2z).trans q
    · have hlt : c < s.heap.objs.size := by
        simp only [List.mem_cons, List.not_mem_nil, or_false] at hcm
        rcases hcm with q | q | q | q | q
        · rw [q]; exact hzl
        · rw [q]; exact Heap.lt_size hTI
        · rw [q]; exact Heap.lt_size hTO
        · rw [q]; obtain ⟨_, e1, _⟩ := h1; exact Heap.lt_size e1
        · rw [q]; obtain ⟨_, e2, _⟩ := h2; exact Heap.lt_size e2
      rw [upd_ne (Nat.ne_of_lt hlt)]
      exact (hf c hcm).1
  done := by
    intro X hP hw hK hc i pins s σ H E I hf st hg
    subst hP hw hK
    obtain ⟨hi, hz, hTI, ⟨x0, y0, hTO⟩, h1, h2⟩ := st
    obtain ⟨hend, ys, hqy, hm⟩ := hg
    obtain ⟨its, rv, p, _⟩ := I.tuple hqy
    have l2 := rv.length
    have D1 := Draws.text (prog := X.prog) (w := X.w) (A := X.A.in1) (I.ok.hd hc) i1 x t
    have D2 := Draws.tuple (prog := X.prog) (w := X.w) (A := X.A.in1) (I.ok.hd hc) i2 b hb2 its.toArray
    have hle := hi.1
    have he : i = x.cps.size ∨ i = its.toArray.size := by
      have e2 : its.toArray.size = its.length := List.size_toArray ..
      rw [e2]
      rcases hend with z | z
      · exact .inl (Nat.le_antisymm hle z)
      · exact .inr (by omega)
    exact wpAny_pyNext_zipD2_end S D1 D2 hz hTI hTO h1 ⟨h2, p⟩ hle (by rw [List.size_toArray]; omega) he fun h' tk hk => ⟨rfl, I.turnedL (t' := tk) (ch := [z, TI, TO, i1, i2]) (fun c o hb q =>
      hk c o (fun q' => hb (by simp [q'])) (fun q' => hb (by simp [q'])) (fun q' => hb (by simp [q'])) (fun q' => hb (by simp [q'])) q) hf⟩
  self := fun A i s Q E st h => wpAny_pyIter_zip st.2.1 h
def iZipM (K : PySem.W.Frag) (ta : TA) : TI := fun σ H R => ta σ H fun vs H1 => ∃ x b ys, vs = [.str x, .ref b] ∧ SqT K H1 b ys ∧ R (Itm K x b ys.length) H1
theorem pi_zipM {X : Cx} {e e2 : Expr} {ta : TA} {p pos tpos : Pos} {elts : List Expr} {kk : Nat} (hg : Gl X "zip") (hm : X.mg "zip" = none) (ha : PA X [e, e2] ta)
    (hs : starEach [e, e2] X.env = (false, eval e X.env) :: starEach [e2] X.env := by rfl) (hpl : (backTo pos (starEach [e2] X.env)).any (·.1) = false := by rfl) :
    PI X (.Tuple elts kk tpos) (.Call (.Name "zip" p) [e, e2] [] pos) (iZipM X.K ta) := by
  refine ⟨fun pins s σ H R I h => ?_⟩
  refine Call_ (ld_blt I hg hm PyProof.Rows.boot_zip (PyProof.Rows.callWith_type1 (thn (ha.run pos pins s σ H _ I h) fun us s1 ⟨vs, H1, I1, r1, q1⟩ => ?_) hs hpl))
  obtain ⟨x, b, ys, ev, hq, q⟩ := q1
  subst ev
  obtain ⟨u1, u2, rfl, ru1, ru2⟩ := vals2 r1
  obtain ⟨t, rfl⟩ := ru1
  cases (show u2 = Value.ref b from ru2)
  obtain ⟨its, rv, pt, _⟩ := I1.tuple hq
  obtain ⟨ob, hob, _⟩ := id pt
  have hlt : b < s1.heap.objs.size := Heap.lt_size hob
  have fresh : ∀ c, c ∈ [s1.heap.objs.size + 4, s1.heap.objs.size + 2, s1.heap.objs.size + 3, s1.heap.objs.size, s1.heap.objs.size + 1] → FpOk X pins H1 c := fun c hc => by
    have hle : s1.heap.objs.size ≤ c := by
      simp only [List.mem_cons, List.not_mem_nil, or_false] at hc
      rcases hc with z | z | z | z | z <;> (rw [z]; first | exact Nat.le_add_right _ _ | exact Nat.le_refl _)
    exact I1.fpOk hle (I1.hok.fresh hle)
  refine call_mz (show s1.heap.IsTuple b its.toArray from pt) fun h' hz hTI hTO h1 h2 hk => wpAny_pyIter_zip hz ?_
  have I2 : Inv X pins σ H1 { s1 with heap := h' } := I1.kept (t' := s1.toks) hk
  refine ⟨s1.heap.objs.size + 4, _, _, _, H1, rfl, I2, turn_mz (TI := s1.heap.objs.size + 2) (TO := s1.heap.objs.size + 3) (i1 := s1.heap.objs.size) (i2 := s1.heap.objs.size + 1) (t := t) ?_ ?_, ⟨⟨Nat.zero_le _, Nat.zero_le _⟩, hz, hTI, ⟨_, _, hTO⟩, h1, h2⟩, fresh, q⟩
  · have q0 : b ≠ s1.heap.objs.size + 4 := Nat.ne_of_lt (Nat.lt_of_lt_of_le hlt (Nat.le_add_right _ _))
    have q1 : b ≠ s1.heap.objs.size + 3 := Nat.ne_of_lt (Nat.lt_of_lt_of_le hlt (Nat.le_add_right _ _))
    have q2 : b ≠ s1.heap.objs.size := Nat.ne_of_lt hlt
    have aux : ∀ (n k m : Nat), k ≠ m → n + k ≠ n + m := fun n k m h => by omega
    constructor <;> first
      | exact aux _ _ _ (by decide)
      | exact aux _ _ 0 (by decide)
      | (simp; done)
      | (simp only [List.mem_cons, List.not_mem_nil, or_false]; exact aux _ _ 0 (by decide))
      | (simp only [List.mem_cons, List.not_mem_nil, or_false]; rintro (z | z); exact absurd z (aux _ _ _ (by decide)); exact absurd z.symm (by assumption))
      | (simp only [List.mem_cons, List.not_mem_nil, or_false]; rintro (z | z); exact absurd z.symm (aux _ _ 0 (by decide)); exact absurd z.symm (by assumption))
      | (simp only [List.mem_cons, List.not_mem_nil, or_false]; exact aux _ _ 0 (by decide))
  · exact Nat.ne_of_lt (Nat.lt_succ_of_lt hlt)
/-- signs beside data -/
def zipM (z : Str) (ys : List D) : List D := (z.cps.toList.zip ys).map fun p => D.tup [.str ⟨#[p.1]⟩, p.2]
section
variable {K : PySem.W.Frag} {X : Xc} {S : Sa} {Q : List D → Os → Prop} {ta : TA}
theorem iw_zipM (h : AW K X ta S fun xs os => ∃ (z : Str) (ys : List D), xs = [.d (.str z), .d (.tup ys)] ∧ Q (zipM z ys) os) : IW K X (iZipM K ta) S Q := fun as H σ R' R x k =>
  h as H σ _ R x fun vs H1 ds os1 g1 R1 r1 ⟨z, ys, e, q⟩ => by
    subst e
    cases r1 with
    | cons r1 rn =>
      cases rn with
      | cons r2 rn =>
        cases rn
        cases r1
        cases r2 with
        | @tup b ws _ hl hr =>
          refine ⟨z, b, ws, rfl, hl.sq, k _ H1 (zipM z ys) os1 g1 R1 (fun bs H2 os s R2 i => ?_) q⟩
          have hl2 := s.way.t _ _ hl
          have hr2 := hr.way s.way
          have hlen : (zipM z ys).length = min z.cps.size ys.length := by
            unfold zipM
            rw [List.length_map, List.length_zip, Array.length_toList]
          refine ⟨fun d hd => ?_, fun hn => ⟨?_, ws, hl2.sq, rfl⟩⟩
          · have hi := (List.getElem?_eq_some_iff.mp hd).1
            rw [hlen] at hi
            have hi1 : i < z.cps.size := by omega
            have hi2 : i < ys.length := by omega
            obtain ⟨w, e1, e2⟩ := hr2.get (List.getElem?_eq_getElem hi2)
            refine ⟨⟨hi1, ws, w, hl2.sq, rfl, e1⟩, ?_⟩
            rintro y H3 ⟨T, c, y2, rfl, hT, hc, rfl, hy⟩
            have ey := hy ws hl2.sq
            rw [e1] at ey
            cases ey
            refine ⟨Go.new hT, R2.new hT, ?_⟩
            have ed : d = D.tup [.str ⟨#[c]⟩, ys[i]] := by
              unfold zipM at hd
              rw [List.getElem?_map] at hd
              obtain ⟨p, h1, h2⟩ := Option.map_eq_some_iff.mp hd
              rw [List.getElem?_zip_eq_some] at h1
              obtain ⟨h3, h4⟩ := h1
              have h5 : z.cps[i]? = some p.1 := by rw [← Array.getElem?_toList]; exact h3
              rw [hc] at h5
              rw [List.getElem?_eq_getElem hi2] at h4
              rw [← h2, ← Option.some.inj h5, ← Option.some.inj h4]
            rw [ed]
            exact dx_newT R2 hT (.cons (.str _) (.cons e2 .nil))
          · rw [hlen] at hn
            rw [hr.length]
            omega
end
end Br

/-! BrN: a written dict whose keys are None and texts. -/
namespace Br
open PySem PySem.Spec PyProof.Rows L2
def KeysN (P : Params) : List DictEntry → Prop
  | [] => True
  | e :: r => ((e.key = .none ∧ e.hash = reduceHash 0xFCA86420) ∨ ∃ x t, e.key = .str x t ∧ e.hash = PyData.keyHash P x) ∧ KeysN P r
theorem KeysN.all {P : Params} : ∀ {l : List DictEntry}, KeysN P l → ∀ e ∈ l, (e.key = .none ∧ e.hash = reduceHash 0xFCA86420) ∨ ∃ x t, e.key = .str x t ∧ e.hash = PyData.keyHash P x
  | _ :: _, ⟨h, _⟩, _, .head _ => h
  | _ :: _, ⟨_, r⟩, _, .tail _ m => r.all _ m
def keyN : Option Str → Option Key := fun k => k.map .inr
theorem mapN {K : PySem.W.Frag} {h : Heap} {prog : Program} {w : World} {a : Addr} {es : Array DictEntry} {n : Nat} (X : K.In h) (hl : K.lookup a = some ⟨.type "dict", none, .dict es n, #[]⟩) (hk : KeysN w.params es.toList) :
    h.MapOf (noneKind prog w) a (fun k => findBy nkIs es k) :=
  ⟨_, es, n, X _ _ hl, ⟨rfl, rfl, rfl⟩, rfl, fun e he => by
    rcases hk.all e (Array.mem_toList_iff.mpr he) with ⟨e1, e2⟩ | ⟨x, t, e1, e2⟩
    · exact ⟨none, by rw [e1]; rfl, e2⟩
    · exact ⟨some (.inr x), by rw [e1]; exact keyIs_str x t, e2⟩, fun _ => rfl⟩
/-- looked over: just these keys, in this order -/
def keysOkN (K : PySem.W.Frag) : List DictEntry → List (Option Str × D) → Bool
  | [], tb => tb.isEmpty
  | e :: es, tb => match tb with
    | kd :: tb => (match e.key with
      | .none => decide (kd.1 = none)
      | .str x _ => decide (kd.1 = some x)
      | _ => false) && (dOk K kd.2 e.val && keysOkN K es tb)
    | [] => false
def lookN (tb : List (Option Str × D)) (z : Option Str) : Option D := (tb.find? fun kd => decide (kd.1 = z)).map (·.2)
variable {K : PySem.W.Frag}
theorem key_is {e : DictEntry} {k z : Option Str} (h : (match e.key with
      | .none => decide (k = none)
      | .str x _ => decide (k = some x)
      | _ => false) = true) : nkIs (keyN z) e.key = decide (k = z) := by
  cases ek : e.key with
  | none =>
    rw [ek] at h
    have e1 : k = none := of_decide_eq_true h
    subst e1
    cases z with
    | none => rfl
    | some z =>
      rw [decide_eq_false (fun q => nomatch q)]
      rfl
  | str x t =>
    rw [ek] at h
    have e1 : k = some x := of_decide_eq_true h
    subst e1
    cases z with
    | none =>
      rw [decide_eq_false (fun q => nomatch q)]
      rfl
    | some z =>
      show (x == z) = _
      by_cases c : x = z
      · subst c
        simp
      · rw [decide_eq_false (fun q => c (Option.some.inj q))]
        exact beq_eq_false_iff_ne.mpr c
  | _ => rw [ek] at h; cases h
theorem keysN_find {z : Option Str} : ∀ {es : List DictEntry} {tb : List (Option Str × D)} {d : D}, keysOkN K es tb = true → lookN tb z = some d → ∃ e, es.find? (fun e => nkIs (keyN z) e.key) = some e ∧ dOk K d e.val = true
  | [], [], _, _, h => by cases h
  | [], _ :: _, _, h, _ => by cases h
  | _ :: _, [], _, h, _ => by cases h
  | e :: es, kd :: tb, d, h, hl => by
    have h0 : ((match e.key with
      | .none => decide (kd.1 = none)
      | .str x _ => decide (kd.1 = some x)
      | _ => false) && (dOk K kd.2 e.val && keysOkN K es tb)) = true := h
    obtain ⟨h1, h2⟩ := Bool.and_eq_true_iff.mp h0
    obtain ⟨h3, h4⟩ := Bool.and_eq_true_iff.mp h2
    have ki := key_is (z := z) h1
    by_cases hz : kd.1 = z
    · have a1 : lookN (kd :: tb) z = some kd.2 := by
        unfold lookN
        rw [List.find?_cons_of_pos (by simpa using hz)]
        rfl
      rw [a1] at hl
      cases hl
      exact ⟨e, List.find?_cons_of_pos (by rw [ki]; exact decide_eq_true hz), h3⟩
    · have a1 : lookN (kd :: tb) z = lookN tb z := by
        unfold lookN
        rw [List.find?_cons_of_neg (by simpa using hz)]
      rw [a1] at hl
      obtain ⟨e2, q1, q2⟩ := keysN_find h4 hl
      exact ⟨e2, by rw [List.find?_cons_of_neg (by rw [ki, decide_eq_false hz]; exact Bool.false_ne_true)]; exact q1, q2⟩
/-- such a dict at a -/
structure NDict (K : PySem.W.Frag) (w : World) (a : Addr) (tb : List (Option Str × D)) : Prop where
  ex : ∃ es n, K.lookup a = some ⟨.type "dict", none, .dict es n, #[]⟩ ∧ KeysN w.params es.toList ∧ keysOkN K es.toList tb = true
def keyD2 : Option Str → D
  | none => .non
  | some x => .str x
def rNd (K : PySem.W.Frag) (w : World) (a : Addr) (tb : List (Option Str × D)) : R2 := fun x y H Q => ∃ (k : Option Str) (d : D), x = .ref a ∧ (k = none → y = .non) ∧ (∀ z, k = some z → y = .str z) ∧ lookN tb k = some d ∧ ∀ v, (∀ as H', Dx K as H' v d) → Q v H
theorem op_nd {X : Cx} {a : Addr} {tb : List (Option Str × D)} (N : NDict X.K X.w a tb) : OpR X getItem (rNd X.K X.w a tb) := by
  intro pins s σ H x y v u Q I rx ry h
  obtain ⟨es, n, hl, hk, ho⟩ := N.ex
  obtain ⟨k, d, rfl, y0, y1, el, q⟩ := h
  cases (show v = Value.ref a from rx)
  obtain ⟨e, f1, f2⟩ := keysN_find ho el
  obtain ⟨v0, r1, r2⟩ := dOk_is d _ f2
  have hm := mapN (prog := X.prog) (w := X.w) I.kIn hl hk
  have hf : findBy nkIs es (keyN k) = some e.val := by
    obtain ⟨l⟩ := es
    unfold findBy
    rw [List.find?_toArray, f1]
    rfl
  have hkey : (noneKind X.prog X.w).is (keyN k) u = true := by
    cases k with
    | none =>
      have ey := y0 rfl
      subst ey
      cases (show u = Value.none from ry)
      rfl
    | some z =>
      have ey := y1 z rfl
      subst ey
      obtain ⟨t, rfl⟩ := (show ∃ t, u = Value.str z t from ry)
      exact keyIs_str z t
  exact wpAny_getItem_of hkey hm hf ⟨v0, H, I.tok _, r1, q v0 r2⟩
section
variable {X : Xc} {S : Sa} {Q : Sv → Os → Prop} {te : TE} {w : World} {a : Addr} {tb : List (Option Str × D)}
/-- T[e], T with None and texts as keys -/
theorem ew_nd (h : EW K X te S fun y os => ∃ k d, y = .d (keyD2 k) ∧ lookN tb k = some d ∧ Q (.d d) os) : EW K X (tOp (rNd K w a tb) (tC (.ref a)) te) S Q := fun as H σ Q' R x k =>
  h as H σ _ R x fun v H1 d os1 g1 R1 r1 ⟨z, e, ed, el, q⟩ => by
    subst ed
    refine ⟨z, e, rfl, fun e0 => ?_, fun y e0 => ?_, el, fun u hu => k u H1 (.d e) os1 g1 R1 (hu as H1) q⟩
    · subst e0
      cases r1
      rfl
    · subst e0
      cases r1
      rfl
end
end Br

/-! BrG: a law's own def, called with nothing being shown: repr of data. -/
namespace Br
open PySem PySem.Spec PyProof.Rows L2
/-- a def's promise where no repr is under way -/
structure FnG (P : Program) (w : World) (K : PySem.W.Frag) (mg : Str → Option Value) (base : Heap) (k : Nat) (f : Addr) (fd : FuncData) (ps : List Str) (sp : Sp) : Prop where
  len : ∀ vs H Q E, sp vs H Q E → vs.length = ps.length
  run : ∀ (A : Around) (outer : List Env) (s : Shared) (H : Hp) (args : Args) (us : List Value) (vs : List V) (Q : VK) (E : XK), A.guards = some [] → Room k A → Env0 P w K mg base A outer s H → BindsTo s fd args (ps.zip us) → Vals vs us → sp vs H Q E →
    codeAny (model P w) A (.call (.ref f) args) (CR CX0 outer P w H s Q E) s
theorem fn_ofG {P : Program} {w : World} {K : PySem.W.Frag} {mg : Str → Option Value} {base : Heap} {k : Nat} {f : Addr} {name qual : Str} {params : Arguments} {body : List Stmt} {scope : Scope} {dV kV doc pm cdv ct oc : Value} {an od : Option Addr}
    {osl : Array (Option Value)} {N ps : List Str} {sp : Sp} (lk : K.lookup f = some ⟨oc, od, .func (PySem.W.fnOf name qual params body scope dV kV doc pm an cdv ct), osl⟩) (hcd : PySem.W.codeIn K cdv qual = true) (S : FnScope N ps scope)
    (len : ∀ vs H Q E, sp vs H Q E → vs.length = ps.length)
    (hbody : ∀ (A : Around) (outer : List Env) (s : Shared) (H : Hp) (vs : List V) (Q : VK) (E : XK), (A.deeper (envOfC qual scope s.heap.objs.size f cdv)).guards = some [] → Room k (A.deeper (envOfC qual scope s.heap.objs.size f cdv)) → sp vs H Q E →
      ∃ t, PSs (cxOf CX0 P w K mg base N qual scope f cdv A outer s H E) body t ∧ t { nx := fun _ H' => Q .non H', rt := Q } (L2.start N vs) H) :
    FnG P w K mg base (k + 1) f (PySem.W.fnOf name qual params body scope dV kV doc pm an cdv ct) ps sp where
  len := len
  run A outer s H args us vs Q E hg hr e0 hb r hsp := by
    have inK : K.In s.heap := e0.mod.kin.keeps fun p u q => (e0.bs p u q).1
    have free : s.heap.NoLimit := e0.mod.nolimit.keeps fun p u q => (e0.bs p u q).1
    have kinds : ∀ z ∈ ps.zip us, scope.names.lookup z.1 = some .local ∨ (scope.names.lookup z.1 = some .cell ∧ ((cellsFrom (s.heap.objs.size + 1) scope.names []).lookup z.1).isSome = true) := by
      rintro ⟨m, u⟩ hz
      cases S.par m (List.of_mem_zip hz).1 with
      | inl z => exact .inl z
      | inr z => exact .inr ⟨z, PySem.W.cellsFrom_some _ _ _ (.inl z)⟩
    apply codeAny_call_function hr.depth (inK _ _ lk) rfl S.co S.gen rfl (PySem.W.codeRec_of inK hcd)
    apply hb
    apply wpAny_newFunctionEnv_cells S.kind kinds
    intro env henv s1 hin
    cases henv
    refine ⟨free.keeps hin.toInCall.keep, codeAny_func ?_⟩
    have hg2 : (A.deeper (envOfC qual scope s.heap.objs.size f cdv)).guards = some [] := hg
    obtain ⟨t, rules, reading⟩ := hbody A outer s H vs Q E hg2 (hr.deeper _) hsp
    have J : Inv (cxOf CX0 P w K mg base N qual scope f cdv A outer s H E) [] (L2.start N vs) H s1 := inv_start S hr.hd e0 (len _ _ _ _ hsp) r hin
    have run := rules.run [] s1 (L2.start N vs) H _ J reading
    refine wpAny_mono run ?_ fun _ _ z => z
    intro fl s' ends
    cases fl with
    | brk => exact ends.elim fun _ z => z.elim fun _ z => z.2.elim
    | cont => exact ends.elim fun _ z => z.elim fun _ z => z.2.elim
    | ret u =>
      obtain ⟨v, _, H2, J2, rv, q⟩ := ends
      exact ⟨v, H2, J2.os, J2.bare, J2.base, J2.hok, rv, q⟩
    | next =>
      obtain ⟨_, H2, J2, q⟩ := ends
      exact ⟨V.non, H2, J2.os, J2.bare, J2.base, J2.hok, rfl, q⟩
/-- the call of a law's def, behind the top -/
theorem called {P : Program} {w : World} {K : PySem.W.Frag} {mg mb : Str → Option Value} {k : Nat} {fa a : Addr} {fd : FuncData} {x : Str} {sp : Sp} {s : Shared} {vs : List Value} {ns : List Int}
    (inK : K.In s.heap) (gl : s.heap.Ns mainGlobals mg) (bl : s.heap.Ns builtinsNs mb) (blb : ∀ y : Str, y ≠ "__name__" → mb y = bootBuiltins y) (lim : s.heap.NoLimit) (gens : s.gens = #[])
    (at_a : s.heap.get? a = some { cls := .type "list", data := .seq vs.toArray }) (nums : IntsAre vs ns) (short : ns.length ≤ sizeLine) (room : Room k callerA)
    (F : ∀ base : Heap, K.In base → base.Ns mainGlobals mg → (∀ b o, s.heap.get? b = some o → o.cls ≠ .type "list" → base.get? b = some o) → FnG P w K mg base k fa fd [x] sp) (binds : ∀ (s : Shared) (u : Value), BindsTo s fd ⟨[u], []⟩ [(x, u)])
    (promise : ∀ H : Hp, SqL K H a (ns.map V.int) → sp [.ref a] H (fun v _ => v = .bl true) fun _ _ _ => False) :
    codeAny (model P w) callerA (.call (.ref fa) ⟨[.ref a], []⟩) (fun r s' => r = .ok (.ret (.bool true)) ∧ OldK s.heap s'.heap ∧ s'.os = s.os ∧ AllBare s'.gens) s := by
  have lenV := nums.length
  have vals := vals_ints nums
  -- what is tracked: the script, unless it is written
  obtain ⟨H, only, seq, ok, fresh⟩ : ∃ H : Hp, (∀ b, H b = none ∨ (b = a ∧ H b = some (.frz { cls := .type "list", data := .seq vs.toArray } (.lst (ns.map V.int))))) ∧ SqL K H a (ns.map V.int) ∧ HOk P w H s.heap ∧ (H a ≠ none → K.lookup a = none) := by
    cases hk : K.lookup a with
    | some o =>
      have e := inK a o hk
      rw [at_a] at e
      cases e
      exact ⟨fun _ => none, fun _ => .inl rfl, .inr ⟨_, vs.toArray, _, hk, rfl, rfl, rfl, by rw [List.size_toArray, lenV]; exact short, by simpa using vals⟩, fun _ _ z => (nomatch z), fun z => absurd rfl z⟩
    | none =>
      have tracked : ∀ b, (if b = a then some (HO.frz { cls := .type "list", data := .seq vs.toArray } (.lst (ns.map V.int))) else none) = none ∨ (b = a ∧ (if b = a then some (HO.frz { cls := .type "list", data := .seq vs.toArray } (.lst (ns.map V.int))) else none) = some (.frz { cls := .type "list", data := .seq vs.toArray } (.lst (ns.map V.int)))) := fun b => by
        by_cases e : b = a
        · exact .inr ⟨e, if_pos e⟩
        · exact .inl (if_neg e)
      refine ⟨fun b => if b = a then some (.frz { cls := .type "list", data := .seq vs.toArray } (.lst (ns.map V.int))) else none, tracked, .inl (.inr ⟨_, if_pos rfl⟩), fun b u z => ?_, fun _ => rfl⟩
      rcases tracked b with q | ⟨e, q⟩
      · have y := q.symm.trans z
        cases y
      · have y := q.symm.trans z
        cases y
        subst e
        exact ⟨at_a, by rw [List.length_map]; exact short, vs, _, vals, at_a⟩
  have dicts : ∀ {b : Addr} {o : Obj} {es : Array DictEntry} {ep : Nat}, s.heap.get? b = some o → o.data = .dict es ep → H b = none := fun {b o es ep} e d => by
    rcases only b with z | ⟨rfl, _⟩
    · exact z
    · rw [at_a] at e
      cases e
      exact absurd d (by intro z; cases z)
  have low : ∀ {b : Addr} {m : Str → Option Value}, s.heap.Ns b m → (hidT s.heap H).Ns b m := by
    rintro b m ⟨o, es, ep, e, d, r⟩
    exact ⟨o, es, ep, hidT_get e (dicts e d), d, r⟩
  have lowK : K.In (hidT s.heap H) := fun b o e => hidT_get (inK b o e) (by
    rcases only b with z | ⟨rfl, z⟩
    · exact z
    · have y := fresh (by rw [z]; intro q; cases q)
      rw [e] at y
      cases y)
  have others : ∀ b o, s.heap.get? b = some o → o.cls ≠ .type "list" → (hidT s.heap H).get? b = some o := fun b o e n => hidT_get e (by
    rcases only b with z | ⟨rfl, z⟩
    · exact z
    · rw [at_a] at e
      cases e
      exact absurd rfl n)
  have limL : (hidT s.heap H).NoLimit := by
    obtain ⟨mc, h1, h2⟩ := lim
    exact ⟨mc, low h1, h2⟩
  have e0 : Env0 P w K mg (hidT s.heap H) callerA [] s H :=
    ⟨rfl, ⟨lowK, low gl, ⟨mb, low bl, blb⟩, limL⟩, fun b o e => of_hidT e, Nat.le_of_eq (hidT_size _ _), trivial, fun b hb => (by cases hb), ok, .of_eq gens⟩
  have run := (F _ lowK (low gl) others).run callerA [] s H ⟨[.ref a], []⟩ [.ref a] [.ref a] (fun v _ => v = .bl true) (fun _ _ _ => False) rfl room e0 (binds s (.ref a)) (.cons rfl .nil) (promise H seq)
  refine codeAny_mono run fun r s' q => ?_
  cases r with
  | error e => exact q.elim
  | ok fl =>
    cases fl with
    | next => exact q.elim
    | brk => exact q.elim
    | cont => exact q.elim
    | ret u =>
      obtain ⟨v, H2, os, bare, un, ok2, rv, ev⟩ := q
      have ev' : v = .bl true := ev
      subst ev'
      have eu : u = Value.bool true := rv
      subst eu
      refine ⟨rfl, OldK.of_keep fun b o e => ?_, os, bare⟩
      rcases only b with z | ⟨rfl, z⟩
      · exact un.keep b o e z (by intro q; cases q) (by intro q; cases q)
      · have z2 := un.frzs _ _ _ z
        have y1 := (ok _ _ z).1
        have y2 := (ok2 _ _ z2).1
        rw [e] at y1
        cases y1
        exact y2
/-- the goal that the head leaves -/
theorem walkG {l : PySem.W.OpenLaw} {n k : Nat} {q : Program} {loose : List Str} {XP : (Str → Option Value) → Heap → Prop} {YP : World → Heap → Prop} {d : DefRec} {K : Params → PySem.W.Frag} {sp : World → Sp} {x : Str}
    (hn : l.most = some n) (hn2 : n ≤ sizeLine) (hdf : d.params.defaults = []) (room : Room k callerA) (hY : ∀ (w : World) (h : Heap), YP w h → (K w.params).In h)
    (F : ∀ (w : World) (mg : Str → Option Value) (fa : Addr) (h : Heap), (K w.params).In h → h.Ns mainGlobals mg → mg d.name = some (.ref fa) →
      ∃ fd : FuncData, (∀ (s : Shared) (u : Value), BindsTo s fd ⟨[u], []⟩ [(x, u)]) ∧ ∀ base : Heap, (K w.params).In base → base.Ns mainGlobals mg → FnG l.prog w (K w.params) mg base k fa fd [x] (sp w))
    (promise : ∀ (w : World) (H : Hp) (a : Addr) (ns : List Int), ns.length ≤ n → SqL (K w.params) H a (ns.map V.int) → sp w [.ref a] H (fun v _ => v = .bl true) fun _ _ _ => False) :
    PySem.W.WalkO q loose XP YP l.row.toRowW d [] (fun f vs => PySem.call f vs) := by
  refine Att.attach_call hn hdf ?_
  intro w s₀ s₁ mg mb fa o pm cd doc a vs ns G Y _ _ _ named obj nums len gens
  have inK := hY w _ Y
  obtain ⟨fd, binds, hF⟩ := F w mg fa _ inK G.T.g named
  exact called inK G.T.g G.T.b G.T.builtins G.T.nolimit gens obj nums (Nat.le_trans len hn2) room (fun base kb nb _ => hF base kb nb) binds fun H seq => promise w H a ns len seq
/-! ### repr -/
def rRepr (K : PySem.W.Frag) : List V → Hp → VK → Prop := fun xs H Q => ∃ (a : Addr) (p : PyData), xs = [.ref a] ∧ Dp K H (.ref a) p ∧ p.showable = true ∧ p.hasDict = false ∧ p.depth ≤ 10 ∧ p.shown.length ≤ sizeLine ∧ Q (.str p.shown) H
theorem call_repr {X : Cx} (hg : X.A.guards = some []) (hu : X.A.units + 64 < cLine) : CallR X (.builtin "repr") (rRepr X.K) := by
  intro pins s σ H xs us Q I r h
  obtain ⟨a, p, rfl, hd, h1, h2, h3, h4, q⟩ := h
  obtain ⟨u, rfl, rx⟩ := vals1 r
  obtain ⟨as, rd⟩ := Dp.reads I p _ _ hd rx
  cases (show u = Value.ref a from rx)
  refine repr_of_reads' rd h1 (fun z => by rw [h2] at z; cases z) hg (by omega) (fun _ _ e => e) (fun h' t tk keep => ?_) h4
  exact ⟨.str p.shown, H, I.kept (t' := tk) keep, ⟨t, rfl⟩, q⟩
section
variable {K : PySem.W.Frag} {os : Os} {Q : Sv → Os → Prop}
theorem cw_reprL {xs : List D} {ps : List PyData} (e : D.pys xs = some ps) (h1 : (PyData.list ps).showable = true) (h2 : (PyData.list ps).hasDict = false) (h3 : (PyData.list ps).depth ≤ 10) (h4 : (PyData.list ps).shown.length ≤ sizeLine) (q : Q (.d (.str (PyData.list ps).shown)) os) : CW K (rRepr K) [.d (.lst xs)] os Q :=
  cw_pure (fun as H vs Q' R r k => by
    cases r with
    | cons h t =>
      cases t
      have dp := Dx.dp (p := .list ps) h (by show (D.pys xs).map PyData.list = _; rw [e]; rfl)
      cases h with
      | @lst a vs _ hl hr => exact ⟨a, _, rfl, dp, h1, h2, h3, h4, k _ (.str _)⟩) q
theorem cw_reprU {xs : List D} {ps : List PyData} (e : D.pys xs = some ps) (h1 : (PyData.tuple ps).showable = true) (h2 : (PyData.tuple ps).hasDict = false) (h3 : (PyData.tuple ps).depth ≤ 10) (h4 : (PyData.tuple ps).shown.length ≤ sizeLine) (q : Q (.d (.str (PyData.tuple ps).shown)) os) : CW K (rRepr K) [.d (.tup xs)] os Q :=
  cw_pure (fun as H vs Q' R r k => by
    cases r with
    | cons h t =>
      cases t
      have dp := Dx.dp (p := .tuple ps) h (by show (D.pys xs).map PyData.tuple = _; rw [e]; rfl)
      cases h with
      | @tup a vs _ hl hr => exact ⟨a, _, rfl, dp, h1, h2, h3, h4, k _ (.str _)⟩) q
end
end Br

/-! BrF: a byte in two signs; a tuple's slices. -/
namespace PySem.W
open Lean Elab Tactic Meta PySem PySem.Calls PyProof.Rows
open Builtin Builtin.Str Builtin.Int Builtin.Float
def br_two (n : Nat) : PySem.Str := ⟨#[("0123456789abcdef" : PySem.Str).cps.getD (n / 16) 0, ("0123456789abcdef" : PySem.Str).cps.getD (n % 16) 0]⟩
theorem br_fmt02 {a : Int} {t : Tok} {n : Nat} (ha : a = (n : Int)) (hn : n < 256) : ∀ u, Meets («int.__format__» ⟨[.int a t, .str ⟨#[48, 50, 120]⟩ u], []⟩) (fun _ R s => ∀ t' k, R (.ok (.ret (.str (br_two n) t'))) { s with toks := k }) := by
  intro _
  apply KPc.meets_of
  intro _ _ _ _ _ _ _
  unfold Builtin.«int.__format__»
  refine wpAny_bind (wpAny_of_eq (a := (_, _)) rfl ?_)
  refine wpAny_bind (wpAny_of_eq (a := _) rfl ?_)
  kxf_if
  refine wpAny_bind (wpAny_typeNameOf (T := "str") (typeIs_str _ _ _) (by decide) fun _ => ?_)
  refine wpAny_bind (wpAny_of_eq (a := some _) rfl ?_)
  kxf_if
  kxf_if
  refine wpAny_bind (wpAny_typeNameOfCut_int ?_)
  (repeat kxf_if)
  subst ha
  refine KXf.ret_text (T := br_two n) ?_ ?_ (by assumption)
  · rename_i h _
    clear h
    revert hn
    revert n
    decide +kernel
  · rename_i h _
    clear h
    refine Nat.le_trans (m := 100) ?_ (by rw [sizeLine_eq]; decide)
    revert hn
    revert n
    decide +kernel
end PySem.W

namespace Br
open PySem PySem.Spec PyProof.Rows L2
/-- f'{x:02x}' of a byte -/
def tFmt2 (te : TE) : TE := fun σ H Q => te σ H fun x H1 => ∃ n : Nat, x = .int (n : Int) ∧ n < 256 ∧ Q (.str (PySem.W.br_two n)) H1
theorem pe_fmt02x {X : Cx} {e : Expr} {te : TE} {pos p1 p2 : Pos} {k : Nat} (he : PE X e te) : PE X (.FormattedValue e (-1) (some (.JoinedStr [.Constant (.str "02x") k p1] p2)) pos) (tFmt2 te) := by
  refine ⟨fun pins s σ H Q I h => ?_⟩
  have hs : PE X (.JoinedStr [.Constant (.str "02x") k p1] p2) (tC (.str "02x")) := pe_joined1 pe_str
  refine wpAny_FormattedValue_spec (thn (he.run pins s σ H _ I h) fun v s1 ⟨x, H1, I1, r1, n, ex, hn, q⟩ => ?_)
  subst ex
  obtain ⟨t, rfl⟩ := r1
  refine thn (hs.run pins s1 σ H1 (fun y H2 => y = .str "02x" ∧ H2 = H1) I1 ⟨rfl, rfl⟩) fun r s2 ⟨y, H2, I2, r2, ey, e2⟩ => ?_
  subst ey e2
  obtain ⟨t2, rfl⟩ := r2
  refine ⟨_, t2, rfl, PySem.W.KXf.field_int (spec' := ⟨#[48, 50, 120]⟩) (by decide +kernel) (by decide) (by rw [sizeLine_eq]; decide) (PySem.W.br_fmt02 rfl hn) fun t' k => ?_⟩
  exact ⟨.str _, _, I2.tok _, ⟨t', rfl⟩, q⟩
section
variable {K : PySem.W.Frag} {X : Xc} {S : Sa} {Q : Sv → Os → Prop} {te : TE}
theorem ew_fmt2 (h : EW K X te S fun x os => ∃ n : Nat, x = .d (.int (n : Int)) ∧ n < 256 ∧ Q (.d (.str (PySem.W.br_two n))) os) : EW K X (tFmt2 te) S Q := fun as H σ Q' R x k =>
  h as H σ _ R x fun v H1 d os1 g1 R1 r1 ⟨n, ed, hn, q⟩ => by
    subst ed
    cases r1
    exact ⟨n, rfl, hn, k _ H1 (.d (.str _)) os1 g1 R1 (Dx.str _) q⟩
theorem cutD_all {xs : List D} {lo hi : Option Int} (h : HT.sIx xs.length 0 lo = 0 ∧ HT.sIx xs.length xs.length hi = xs.length) : cutD xs lo hi = xs := by
  unfold cutD
  rw [h.1, h.2]
  simp
theorem sw_T {xs : List D} {lo hi : Option Int} {os : Os} (q : Q (.d (.tup (cutD xs lo hi))) os) : SW K (rSlA K) (.d (.tup xs)) lo hi os Q := fun as H v Q' R r k => by
  cases r with
  | @tup a vs _ hl hr =>
    refine ⟨a, vs, rfl, hl.sq, fun h => ?_, fun h p hp => k _ _ (.d (.tup _)) os (Go.new hp) (R.new hp) (dx_newT R hp (cut_dx hr lo hi)) q⟩
    rw [hr.length] at h
    rw [cutD_all h] at q
    exact k _ H (.d (.tup xs)) os (Go.refl _ _) R (.tup hl hr) q
end
/-! within a comprehension, where the context's own K isn't to be named -/
def tJn (K : PySem.W.Frag) (to te : TE) : TE := tM1 (fun x xs H Q => ∃ a p, ∃ ys : List Str, x = .str a ∧ xs = [.ref p] ∧ (SqL K H p (ys.map V.str) ∨ SqT K H p (ys.map V.str)) ∧ (ys.map (·.length)).sum + ys.length * a.length ≤ 16777216 ∧ Q (.str (Txt.join a ys)) H) to te
theorem pe_joinK {X : Cx} {K : PySem.W.Frag} (hK : X.K = K) {o e : Expr} {to te : TE} {apos pos : Pos} (ho : PE X o to) (he : PE X e te) (hs : starEach [e] X.env = [(false, eval e X.env)] := by rfl) (hbase : attributeBase o "join" X.env (eval o X.env) = eval o X.env := by rfl) (hline : (apos.endLine == pos.line) = true := by rfl) :
    PE X (.Call (.Attribute o "join" apos) [e] [] pos) (tJn K to te) := by
  subst hK
  exact pe_join ho he hs hbase hline
theorem pi_tupK {X : Cx} {K : PySem.W.Frag} (hK : X.K = K) {tg l : Expr} {tl : TE} (hl : PE X l tl) : PI X tg l (iTup K tl) := by
  subst hK
  exact pi_tup hl
section
variable {K : PySem.W.Frag} {X : Xc} {S : Sa} {Q : Sv → Os → Prop} {te to : TE}
theorem ew_joinK (h : EW K X to S fun x os => ∃ a : Str, x = .d (.str a) ∧ EW K X te ⟨S.s, os⟩ fun y os2 => ∃ ys : List Str, y = .d (.lst (ys.map D.str)) ∧ (ys.map (·.length)).sum + ys.length * a.length ≤ 16777216 ∧ Q (.d (.str (Txt.join a ys))) os2) : EW K X (tJn K to te) S Q := ew_join h
end
end Br

/-! BrP: more of the interpreter's own: lists put together, compared with empty ones, truths reckoned with, dict.update, t[::-1], repr of any data. -/
namespace Br
open PySem PySem.Spec PyProof.Rows L2
section
variable {X : Cx}
/-! ### list + list -/
def rCatL (K : PySem.W.Frag) : R2 := fun x y H Q => ∃ l b xs zs, x = .ref l ∧ y = .ref b ∧ SqL K H l xs ∧ SqL K H b zs ∧ xs.length + zs.length ≤ sizeLine ∧ ∀ p, H p = none → Q (.ref p) (upd H p (.lst (xs ++ zs)))
theorem isl_of {h : Heap} {l : Addr} {its : Array Value} (p : h.IsList l its) : ∃ o n, h.get? l = some o ∧ o.cls = .type "list" ∧ o.data = .seq its n := by
  obtain ⟨o, e, c, n, d⟩ := p
  exact ⟨o, n, e, c, d⟩
theorem op_catL : OpR X (binaryOp .Add) (rCatL X.K) := by
  intro pins s σ H x y v u Q I rx ry h
  obtain ⟨l, b, xs, zs, rfl, rfl, hl, hb, hz, q⟩ := h
  cases rx
  cases ry
  obtain ⟨its, r, p1, z1⟩ := I.list hl
  obtain ⟨its2, r2, p2, z2⟩ := I.list hb
  have l1 := r.length
  have l2 := r2.length
  obtain ⟨⟨cls, dd, data, sl⟩, ho, hc, n, hd⟩ := id p1.isList
  obtain ⟨⟨cls2, dd2, data2, sl2⟩, ho2, hc2, n2, hd2⟩ := id p2.isList
  simp only at hc hd hc2 hd2
  subst hc hd hc2 hd2
  have e : its.toArray ++ its2.toArray = (its ++ its2).toArray := by simp
  refine concat_meets ⟨_, ho, rfl⟩ ⟨_, ho2, rfl⟩ noFill_list_add seq_list_add PySem.F.slot_list_add PySem.F.entry_list_add (PySem.F.args_list_add_2 _ _) (list_addW l b its.toArray its2.toArray n n2 dd dd2 sl sl2 (by rw [List.size_toArray, List.size_toArray]; omega)) ⟨ho, ho2, ?_⟩
  rw [e]
  exact ⟨.ref _, _, I.lnew (t' := s.toks) (r.append r2) (by rw [List.length_append]; omega), rfl, q _ I.fresh⟩
/-! ### [..] == [], (..) != () -/
def rEqNilL (K : PySem.W.Frag) : R2 := fun x y H Q => ∃ l b xs, x = .ref l ∧ y = .ref b ∧ SqL K H l xs ∧ SqL K H b [] ∧ Q (.bl xs.isEmpty) H
theorem op_eqNilL (hu : X.A.units + 64 < cLine) : OpR X (compareOp .Eq) (rEqNilL X.K) := by
  intro pins s σ H x y v u Q I rx ry h
  obtain ⟨l, b, xs, rfl, rfl, hl, hb, q⟩ := h
  cases rx
  cases ry
  obtain ⟨its, r, p1, z1⟩ := I.list hl
  obtain ⟨its2, r2, p2, z2⟩ := I.list hb
  have e2 : its2 = [] := by cases r2; rfl
  subst e2
  cases xs with
  | nil =>
    have e1 : its = [] := by cases r; rfl
    subst e1
    exact PySem.EqBoolInt.of_rc (SeqAt.RcAt.lists (e := fun _ => true) p1.isList p2.isList rfl (by omega) fun j h1 h2 => absurd h1 (by simp)) ⟨.bl true, H, I, rfl, q⟩
  | cons x xs =>
    have hl1 := r.length
    exact PySem.EqBoolInt.of_rc (SeqAt.RcAt.lists_lengths p1.isList p2.isList (by rw [List.size_toArray, ← hl1]; rfl) (by omega)) ⟨.bl false, H, I, rfl, q⟩
def rNeNilT (K : PySem.W.Frag) : R2 := fun x y H Q => ∃ l b xs, x = .ref l ∧ y = .ref b ∧ SqT K H l xs ∧ SqT K H b [] ∧ Q (.bl (!xs.isEmpty)) H
theorem op_neNilT (hu : X.A.units + 64 < cLine) : OpR X (compareOp .NotEq) (rNeNilT X.K) := by
  intro pins s σ H x y v u Q I rx ry h
  obtain ⟨l, b, xs, rfl, rfl, hl, hb, q⟩ := h
  cases rx
  cases ry
  obtain ⟨its, r, p1, z1⟩ := I.tuple hl
  obtain ⟨its2, r2, p2, z2⟩ := I.tuple hb
  have e2 : its2 = [] := by cases r2; rfl
  subst e2
  have hl1 := r.length
  refine PySem.EqBoolInt.of_rcne (k := !xs.isEmpty) ?_ ⟨.bl _, H, I, rfl, q⟩
  have z := SeqAt.RcNeAt.tuples (A := X.A) (e := fun _ => true) p1 p2 (by omega) fun j h1 h2 => absurd h2 (by simp)
  have e : (!((List.range (min its.toArray.size ([] : List Value).toArray.size)).all (fun _ => true) && its.toArray.size == ([] : List Value).toArray.size)) = !xs.isEmpty := by
    rw [List.size_toArray, ← hl1]
    cases xs <;> simp
  rw [e] at z
  exact z
/-! ### truths among numbers -/
def b2I (b : Bool) : Int := if b = true then 1 else 0
theorem op_add_bi : OpR X (binaryOp .Add) (fun x y H Q => ∃ b j, x = .bl b ∧ y = .int j ∧ Q (.int (b2I b + j)) H) := by
  intro pins s σ H x y v u Q I rx ry h
  obtain ⟨b, j, rfl, rfl, q⟩ := h
  cases rx
  obtain ⟨t, rfl⟩ := ry
  exact PySem.IntBool.add_bool_int ⟨.int _, H, I.tok _, ⟨_, rfl⟩, q⟩
theorem op_sub_bi : OpR X (binaryOp .Sub) (fun x y H Q => ∃ b j, x = .bl b ∧ y = .int j ∧ Q (.int (b2I b - j)) H) := by
  intro pins s σ H x y v u Q I rx ry h
  obtain ⟨b, j, rfl, rfl, q⟩ := h
  cases rx
  obtain ⟨t, rfl⟩ := ry
  exact PySem.IntBool.sub_bool_int ⟨.int _, H, I.tok _, ⟨_, rfl⟩, q⟩
theorem op_sub_ib : OpR X (binaryOp .Sub) (fun x y H Q => ∃ i b, x = .int i ∧ y = .bl b ∧ Q (.int (i - b2I b)) H) := by
  intro pins s σ H x y v u Q I rx ry h
  obtain ⟨i, b, rfl, rfl, q⟩ := h
  obtain ⟨t, rfl⟩ := rx
  cases ry
  exact PySem.IntBool.sub_int_bool ⟨.int _, H, I.tok _, ⟨_, rfl⟩, q⟩
theorem op_eq_bi : OpR X (compareOp .Eq) (fun x y H Q => ∃ b j, x = .bl b ∧ y = .int j ∧ Q (.bl (b2I b == j)) H) := by
  intro pins s σ H x y v u Q I rx ry h
  obtain ⟨b, j, rfl, rfl, q⟩ := h
  cases rx
  obtain ⟨t, rfl⟩ := ry
  exact PySem.EqBoolInt.eq_bool_int ⟨.bl _, H, I, rfl, q⟩
theorem call_str_bool : CallR X (.type "str") (fun xs H Q => ∃ b : Bool, xs = [.bl b] ∧ Q (.str (if b then "True" else "False")) H) := by
  intro pins s σ H xs us Q I r h
  obtain ⟨b, rfl, q⟩ := h
  obtain ⟨u, rfl, rx⟩ := vals1 r
  cases rx
  exact PySem.P.str_of_bool ⟨.str _, H, I.tok _, ⟨_, rfl⟩, q⟩
/-! ### dict.update -/
def rUpd : V → List V → Hp → VK → Prop := fun x vs H Q => ∃ (a b : Addr) (kvs more : List (Key × V)), x = .ref a ∧ vs = [.ref b] ∧ a ≠ b ∧ H a = some (.dK kvs) ∧ Rd H b (.dK more) ∧ kvs.length + more.length ≤ sizeLine ∧ Q .non (upd H a (.dK (mergeK kvs more)))
theorem mt_update : MtR X "dict.update" rUpd := by
  intro pins s σ H x vs v us Q I rx rv h
  obtain ⟨a, b, kvs, more, rfl, rfl, hne, e, eb, hl, q⟩ := h
  obtain rfl : v = Value.ref a := rx
  obtain ⟨u, rfl, ru⟩ := vals1 rv
  cases (show u = Value.ref b from ru)
  obtain ⟨z, hd, vs, rel, dd⟩ := dk_of I.hok e
  obtain ⟨z2, hd2, ws, rel2, dd2⟩ := dk_rd I.hok eb
  refine call_meetsIn PySem.F.slot_dict_update dd.typeIs PySem.F.entry_dict_update (PySem.F.args_dict_update_2 _ _) (meets_dict_update (mixKind X.prog X.w) a b hne hd2) ⟨vs, ws, dd, dd2, by rw [← rel.length, ← rel2.length]; exact hl, fun h' dd' _ hs => ?_⟩
  have he : ∃ q, h'.get? a = some q := let ⟨q, _, _, hq, _⟩ := dd'; ⟨q, hq⟩
  have hlen : (mergeK kvs more).length ≤ sizeLine := Nat.le_trans (length_mergeK more kvs) hl
  exact ⟨.non, _, d_write (t' := s.toks) I (by rw [e]; exact True.intro) hs he (dk_new hlen hd (KV.merge rel2 rel) dd'), rfl, q⟩
/-! ### T[e], T a written dict -/
theorem pe_opD {o i : Expr} {v : V} {ty : TE} {r : R2} {pos : Pos} (hr : OpR X getItem r) (hty : ∀ (pins : List (Addr × Obj)) (σ : L2.St) (H : Hp) (s : Shared) (u : Value), Inv X pins σ H s → RelV v u → s.TypeIs u "dict") (ho : PE X o (tC v)) (hi : PE X i ty) (hs : NoSl i) : PE X (.Subscript o i pos) (tOp r (tC v) ty) := by
  refine ⟨fun pins s σ H Q I h => ?_⟩
  refine subD_of PySem.F.slot_dict_getitem.lookup hs (thn (ho.run pins s σ H (fun x H1 => x = v ∧ H1 = H) I ⟨rfl, rfl⟩) fun u s1 ⟨x, H1, I1, rx, e1, e2⟩ => ?_)
  subst e1
  subst e2
  exact thn (hi.run pins s1 σ H1 _ I1 h) fun iv s2 ⟨y, H2, I2, ry, q2⟩ => ⟨hty pins σ H2 s2 u I2 rx, hr pins s2 σ H2 x y u iv Q I2 rx ry q2⟩
theorem ty_kd {d : Addr} {es : Array DictEntry} {n : Nat} (D : KDict X.K X.w d es n) : ∀ (pins : List (Addr × Obj)) (σ : L2.St) (H : Hp) (s : Shared) (u : Value), Inv X pins σ H s → RelV (.ref d) u → s.TypeIs u "dict" := fun pins σ H s u I r => by
  cases (show u = Value.ref d from r)
  exact kd_type D I
theorem ty_nd {d : Addr} {tb : List (Option Str × D)} (N : NDict X.K X.w d tb) : ∀ (pins : List (Addr × Obj)) (σ : L2.St) (H : Hp) (s : Shared) (u : Value), Inv X pins σ H s → RelV (.ref d) u → s.TypeIs u "dict" := fun pins σ H s u I r => by
  cases (show u = Value.ref d from r)
  obtain ⟨es, n, hl, hk, ho⟩ := N.ex
  exact (mapN (prog := X.prog) (w := X.w) I.kIn hl hk).typeIs
/-! ### zip, K told -/
theorem pi_zipMK {K : PySem.W.Frag} (hK : X.K = K) {e e2 : Expr} {ta : TA} {p pos tpos : Pos} {elts : List Expr} {kk : Nat} (h : PI X (.Tuple elts kk tpos) (.Call (.Name "zip" p) [e, e2] [] pos) (iZipM X.K ta)) : PI X (.Tuple elts kk tpos) (.Call (.Name "zip" p) [e, e2] [] pos) (iZipM K ta) := hK ▸ h
end
/-! ### t[::-1] of a tuple -/
section
variable {prog : Program} {w : World} {A : Around} {E : Value → Shared → Prop} {s : Shared}
theorem places_rev (n : Nat) : Builtin.Slice.slicePlaces ((n : Int) - 1) (-1) (-1) = n := by
  unfold Builtin.Slice.slicePlaces
  by_cases h : n = 0
  · subst h
    decide
  · have h1 : ¬ ((-1 : Int) > 0) := by decide
    have h2 : (n : Int) - 1 > -1 := by omega
    rw [if_neg h1, if_pos h2]
    have h3 : ((n : Int) - 1 - -1 - 1) / (- -1) + 1 = (n : Int) := by
      have : (- -1 : Int) = 1 := by decide
      rw [this, Int.ediv_one]
      omega
    rw [h3]
    rfl
theorem sliceApplied_rev {sl : Addr} {vs : Value} {n : Nat} {Q : Int × Int × Nat → Shared → Prop} (hs : s.heap.IsSliceOf sl .none .none vs) (ps : IsPart vs (some (-1)))
    (h : Q ((n : Int) - 1, -1, n) s) : wpAny (model prog w) A (Builtin.Slice.sliceApplied (.ref sl) (pure (n : Int))) Q E s := by
  obtain ⟨os, hos, hcs, hds⟩ := id hs
  unfold Builtin.Slice.sliceApplied Builtin.Slice.sliceFields
  refine wpAny_bind (wpAny_bind (wpAny_field hos hds (x := .none) rfl (wpAny_bind (wpAny_field hos hds (x := .none) rfl (wpAny_bind (wpAny_field hos hds (x := vs) rfl (wpAny_pure ?_)))))))
  refine wpAny_bind (HT.slicePart_ ps ?_)
  show wpAny _ _ (if ((-1 : Int) == 0) = true then _ else _) _ _ s
  rw [if_neg (by decide)]
  refine wpAny_bind (HT.slicePart_ .none (wpAny_bind (HT.slicePart_ .none (wpAny_bind (wpAny_pure ?_)))))
  show wpAny _ _ (match Builtin.Slice.sliceAdjust none none (-1) (n : Int) with | (lo, hi) => pure (lo, (-1 : Int), Builtin.Slice.slicePlaces lo hi (-1))) _ _ s
  show wpAny _ _ (pure ((n : Int) - 1, (-1 : Int), Builtin.Slice.slicePlaces ((n : Int) - 1) (-1) (-1))) _ _ s
  rw [places_rev]
  exact wpAny_pure h
theorem range_all {α : Type} (l : List α) : (List.range l.length).filterMap (l[·]?) = l := by
  induction l with
  | nil => rfl
  | cons x l ih =>
    rw [List.length_cons, List.range_succ_eq_map, List.filterMap_cons]
    simp only [List.getElem?_cons_zero]
    rw [List.filterMap_map]
    congr 1
theorem fm_congr {α β : Type} {f g : α → Option β} : ∀ {l : List α}, (∀ a ∈ l, f a = g a) → l.filterMap f = l.filterMap g
  | [], _ => rfl
  | a :: l, h => by
    rw [List.filterMap_cons, List.filterMap_cons, h a List.mem_cons_self, fm_congr fun b hb => h b (List.mem_cons_of_mem _ hb)]
theorem pick_rev (xs : Array Value) : ((List.range xs.size).filterMap fun (m : Nat) => xs[(((xs.size : Int) - 1) + (m : Int) * -1).toNat]?).toArray = xs.toList.reverse.toArray := by
  congr 1
  have h : ∀ m ∈ List.range xs.size, xs[(((xs.size : Int) - 1) + (m : Int) * -1).toNat]? = xs.toList.reverse[m]? := fun m hm => by
    have hm' : m < xs.size := List.mem_range.mp hm
    rw [List.getElem?_reverse (by simpa using hm'), Array.getElem?_toList]
    congr 1
    rw [Array.length_toList]
    omega
  rw [fm_congr h]
  have e : xs.size = xs.toList.reverse.length := by simp
  rw [e]
  exact range_all _
theorem getItem_tuple_rev {t sl : Addr} {items : Array Value} {vs : Value} {Q : Value → Shared → Prop} (ht : IsTup s.heap t items) (hs : s.heap.IsSliceOf sl .none .none vs) (ps : IsPart vs (some (-1)))
    (h : Q (.ref s.heap.objs.size) { s with heap := s.heap.push { cls := .type "tuple", data := .seq items.toList.reverse.toArray } })
    (hsz : items.size ≤ sizeLine) : wpAny (model prog w) A (getItem (.ref t) (.ref sl)) Q E s := by
  have htake : sizeOk (.seq items.toList.reverse.toArray) := by
    show items.toList.reverse.toArray.size ≤ sizeLine
    rw [List.size_toArray, List.length_reverse, Array.length_toList]
    exact hsz
  obtain ⟨os, hos, hcs, hds⟩ := id hs
  have hTs : s.TypeIs (.ref sl) "slice" := ⟨os, hos, hcs⟩
  unfold getItem
  try with_reducible refine wpAny_holding ?_
  first | refine wpAny_bind (wpAny_pure ?_) | skip
  refine wpAny_bind (wpAny_sequenceKey ht.typeIs (by decide) ?_)
  refine wpAny_bind (wpAny_callSpecial?_slot (name := Str.ofString "__getitem__") ht.typeIs PyProof.Rows.slot_tuple_getitem
    (wpAny_call_entry PyProof.Rows.slot_tuple_getitem ht.typeIs entry_tuple_getitem ?_ (args_tuple_getitem _ _)))
  show wpAny _ _ (Builtin.Tuple.tupleItemsOf (.ref t) >>= _) _ _ s
  refine wpAny_bind (tupleItemsOf_ ht ?_)
  refine wpAny_bind (wpAny_typeOf hTs ?_)
  rw [if_pos (by decide)]
  refine wpAny_bind (sliceApplied_rev hs ps ?_)
  have hno : ¬ ((((items.size : Int) - 1) == 0 && (-1 : Int) == 1 && items.size == items.size) = true) := by
    intro q
    rw [Bool.and_eq_true, Bool.and_eq_true] at q
    exact absurd q.1.2 (by decide)
  show wpAny _ _ (if (((items.size : Int) - 1) == 0 && (-1 : Int) == 1 && items.size == items.size) = true then _ else _) _ _ s
  rw [if_neg hno, pick_rev]
  first
    | exact wpAny_bind (m := Builtin.Tuple.tupleExact _) (wpAny_newObj_type (wpAny_pure ⟨_, rfl, wpAny_pure h⟩) htake)
    | exact wpAny_bind (m := Builtin.Tuple.tupleExact _) (wpAny_newObj_type (wpAny_bind (wpAny_pure (wpAny_pure ⟨_, rfl, wpAny_pure h⟩))) htake)
    | exact wpAny_bind (wpAny_bind (m := Builtin.Tuple.tupleExact _) (wpAny_newObj_type (wpAny_pure (wpAny_pure ⟨_, rfl, wpAny_pure h⟩)) htake))
    | exact wpAny_bind (wpAny_bind (m := Builtin.Tuple.tupleExact _) (wpAny_newObj_type (wpAny_pure ⟨_, rfl, wpAny_pure h⟩) htake))
end
def tRevT (K : PySem.W.Frag) (te : TE) : TE := fun σ H Q => te σ H fun x H1 => ∃ a xs, x = .ref a ∧ SqT K H1 a xs ∧ ∀ p, H1 p = none → Q (.ref p) (upd H1 p (.tup xs.reverse))
theorem pe_revT {X : Cx} {e : Expr} {te : TE} {k : Nat} {p1 p2 p3 pos : Pos} (he : PE X e te) : PE X (.Subscript e (.Slice none none (some (.UnaryOp .USub (.Constant (.int 1) k p1) p2)) p3) pos) (tRevT X.K te) := by
  refine ⟨fun pins s σ H Q I h => ?_⟩
  refine Subscript_ (thn (he.run pins s σ H _ I h) fun v s1 ⟨x, H1, I1, r1, q1⟩ => ?_)
  obtain ⟨a, xs, ex, hx, q⟩ := q1
  subst ex
  cases r1
  have hst : PO X (some (.UnaryOp .USub (.Constant (.int 1) k p1) p2)) (tPart (tUn (rU fun i => .int (-i)) (tC (.int 1)))) := po_some (pe_un un_neg pe_int)
  refine wpAny_Slice (thn (po_none.run pins s1 σ H1 (fun o H2 => o = none ∧ H2 = H1) I1 ⟨rfl, rfl⟩) fun vl s2 ⟨l, H2, I2, pl, el, e2⟩ => ?_)
  subst el e2
  refine thn (po_none.run pins s2 σ H2 (fun o H3 => o = none ∧ H3 = H2) I2 ⟨rfl, rfl⟩) fun vu s3 ⟨u, H3, I3, pu, eu, e3⟩ => ?_
  subst eu e3
  refine thn (hst.run pins s3 σ H3 (fun o H4 => o = some (-1) ∧ H4 = H3) I3 ⟨1, rfl, -1, rfl, rfl, rfl⟩) fun vs s4 ⟨o, H4, I4, ps, eo, e4⟩ => ?_
  subst eo e4
  cases pl
  cases pu
  have I5 : Inv X pins σ H4 { s4 with heap := s4.heap.push { cls := .type "slice", data := .fields #[.none, .none, vs] } } := I4.kept (t' := s4.toks) fun b ob q => Heap.get?_push_of_some _ q
  obtain ⟨its, r, ht, hz⟩ := I5.tuple hx
  have hlen := r.length
  show wpAny (model X.prog X.w) X.A (subscriptTail e (.Slice none none (some (.UnaryOp .USub (.Constant (.int 1) k p1) p2)) p3) (.ref a) (.ref s4.heap.objs.size)) (EP X pins σ Q) X.xe { s4 with heap := s4.heap.push { cls := .type "slice", data := .fields #[.none, .none, vs] } }
  refine tail_any (ops := [.ref a, .ref s4.heap.objs.size]) ht.typeIs (PyProof.Rows.slot_tuple_getitem.lookup) ?_ (by with_unfolding_all rfl)
  refine getItem_tuple_rev ht (Heap.IsSliceOf.new _ _ _ vs) ps ?_ (by rw [List.size_toArray]; omega)
  refine ⟨.ref _, _, I5.laid (t' := s4.toks) (o := .tup xs.reverse) (fun b ob q => Heap.get?_push_of_some _ q) (Nat.le_refl _) ?_, rfl, q _ (I5.hok.fresh (Nat.le_refl _))⟩
  exact ⟨by rw [List.length_reverse]; exact hz, _, r.reverse, IsTup.new _ _⟩
/-! ### a text turned about: its signs are its own -/
def tRevS2 (te : TE) : TE := fun σ H Q => te σ H fun x H1 => ∃ z : Str, x = .str z ∧ z.length ≤ sizeLine ∧ ∀ y : Str, y.length ≤ z.length → (∀ c ∈ y.cps.toList, c ∈ z.cps.toList) → Q (.str y) H1
theorem pe_revs2 {X : Cx} {e : Expr} {te : TE} {k : Nat} {p1 p2 p3 pos : Pos} (he : PE X e te) : PE X (.Subscript e (.Slice none none (some (.UnaryOp .USub (.Constant (.int 1) k p1) p2)) p3) pos) (tRevS2 te) := by
  refine ⟨fun pins s σ H Q I h => ?_⟩
  refine Subscript_ (thn (he.run pins s σ H _ I h) fun v s1 ⟨x, H1, I1, r1, q1⟩ => ?_)
  obtain ⟨z, ex, hz, q⟩ := q1
  subst ex
  obtain ⟨t, rfl⟩ := r1
  have hst : PO X (some (.UnaryOp .USub (.Constant (.int 1) k p1) p2)) (tPart (tUn (rU fun i => .int (-i)) (tC (.int 1)))) := po_some (pe_un un_neg pe_int)
  refine wpAny_Slice (thn (po_none.run pins s1 σ H1 (fun o H2 => o = none ∧ H2 = H1) I1 ⟨rfl, rfl⟩) fun vl s2 ⟨l, H2, I2, pl, el, e2⟩ => ?_)
  subst el e2
  refine thn (po_none.run pins s2 σ H2 (fun o H3 => o = none ∧ H3 = H2) I2 ⟨rfl, rfl⟩) fun vu s3 ⟨u, H3, I3, pu, eu, e3⟩ => ?_
  subst eu e3
  refine thn (hst.run pins s3 σ H3 (fun o H4 => o = some (-1) ∧ H4 = H3) I3 ⟨1, rfl, -1, rfl, rfl, rfl⟩) fun vs s4 ⟨o, H4, I4, ps, eo, e4⟩ => ?_
  subst eo e4
  obtain ⟨l, rfl, el⟩ := IsPart.raw pl
  obtain ⟨u, rfl, eu⟩ := IsPart.raw pu
  obtain ⟨st, rfl, es⟩ := IsPart.raw ps
  have I5 : Inv X pins σ H4 { s4 with heap := s4.heap.push { cls := .type "slice", data := .fields #[partValue l, partValue u, partValue st] } } := I4.kept (t' := s4.toks) fun b ob q => Heap.get?_push_of_some _ q
  show wpAny (model X.prog X.w) X.A (subscriptTail e (.Slice none none (some (.UnaryOp .USub (.Constant (.int 1) k p1) p2)) p3) (.str z t) (.ref s4.heap.objs.size)) (EP X pins σ Q) X.xe { s4 with heap := s4.heap.push { cls := .type "slice", data := .fields #[partValue l, partValue u, partValue st] } }
  refine tail_any (ops := [.ref s4.heap.objs.size, .str z t]) (typeIs_str _ _ _) PySem.F.slot_str_getitem.lookup ?_ (by with_unfolding_all rfl)
  refine wpAny_getItem_str_slice (l := l) (u := u) (st := st) (Heap.IsSliceOf.new _ _ _ _) (by rw [es]; rfl) ?_
  cases l with
  | some l => cases el
  | none =>
    cases u with
    | some u => cases eu
    | none =>
      cases st with
      | none => cases es
      | some st =>
        obtain ⟨n, tk⟩ := st
        have en : n = -1 := by
          have e : some n = some (-1) := es
          injection e
        subst en
        have hlen := step_rev_len z tk
        have hn : ¬ (((((some ((-1 : Int), tk)).map (·.1)).getD 1 == 1) && ((slicePicked z none none (some ((-1 : Int), tk))).length == z.length)) = true) := by
          have : ((((some ((-1 : Int), tk)).map (·.1)).getD 1 == 1)) = false := rfl
          rw [this]
          simp
        have e1 : Txt.sliceBy z none none (-1, tk) = ⟨((slicePicked z none none (some (-1, tk))).filterMap (z.cps[·]?)).toArray⟩ := by
          unfold Txt.sliceBy
          rw [if_neg hn]
        have e2 : sliceMade z t none none (some (-1, tk)) = Made.str (Txt.sliceBy z none none (-1, tk)) := by
          rw [e1]
          unfold sliceMade
          rw [if_neg hn]
        rw [e2]
        refine ⟨by rw [hlen]; exact hz, .str _, _, I5.tok _, ⟨_, rfl⟩, q _ (Nat.le_of_eq hlen) fun c hc => ?_⟩
        rw [e1] at hc
        obtain ⟨i, _, h2⟩ := List.mem_filterMap.mp (by simpa using hc)
        exact Array.mem_toList_iff.mpr (Array.mem_of_getElem? h2)
/-! ### repr of any data, {} within it too -/
mutual
def D.pyE : D → Option PyData
  | .non => some .none
  | .bl b => some (.bool b)
  | .int i => some (.int i)
  | .str x => some (.str x)
  | .lst xs => (D.pysE xs).map .list
  | .tup xs => (D.pysE xs).map .tuple
  | .dk kvs => match kvs with
    | [] => some (.dict [])
    | _ :: _ => none
  | .ob _ _ => none
  | .xo _ _ => none
def D.pysE : List D → Option (List PyData)
  | [] => some []
  | x :: r => (D.pyE x).bind fun p => (D.pysE r).map fun ps => p :: ps
end
section
variable {X : Cx} {pins : List (Addr × Obj)} {σ : L2.St} {H : Hp} {s : Shared} {as : List Addr}
/-- the module table is written, and no list -/
def SysOk (K : PySem.W.Frag) : Prop := ∃ o, K.lookup sysModules = some o ∧ o.cls ≠ .type "list"
/-- the same of a heap -/
def SysOn (h : Heap) : Prop := ∃ o, h.get? sysModules = some o ∧ o.cls ≠ .type "list"
theorem SysOk.on {K : PySem.W.Frag} {h : Heap} (hS : SysOk K) (k : K.In h) : SysOn h := let ⟨o, e, n⟩ := hS; ⟨o, k _ _ e, n⟩
theorem sys_ne {a : Addr} {o : Obj} (hS : SysOn X.base) (I : Inv X pins σ H s) (h : s.heap.get? a = some o) (c : o.cls = .type "list") : sysModules ≠ a := fun e => by
  obtain ⟨u, h1, h2⟩ := hS
  have z := I.bk _ _ h1
  rw [e, h] at z
  cases z
  exact h2 c
mutual
theorem Dx.reads (hS : SysOn X.base) (I : Inv X pins σ H s) : ∀ (d : D) (v : V) (u : Value) (p : PyData), Dx X.K as H v d → RelV v u → d.pyE = some p → ∃ bs, Reads s.heap u p bs ∧ sysModules ∉ bs
  | .non, _, _, p, h, r, e => by
    cases h
    cases r
    cases (show some PyData.none = some p from e)
    exact ⟨_, Reads.none, fun z => nomatch z⟩
  | .bl b, _, _, p, h, r, e => by
    cases h
    cases r
    cases (show some (PyData.bool b) = some p from e)
    exact ⟨_, Reads.bool b, fun z => nomatch z⟩
  | .int i, _, _, p, h, r, e => by
    cases h
    obtain ⟨t, rfl⟩ := r
    cases (show some (PyData.int i) = some p from e)
    exact ⟨_, Reads.int i t, fun z => nomatch z⟩
  | .str x, _, _, p, h, r, e => by
    cases h
    obtain ⟨t, rfl⟩ := r
    cases (show some (PyData.str x) = some p from e)
    exact ⟨_, Reads.str x t, fun z => nomatch z⟩
  | .lst ds, _, _, p, h, r, e => by
    cases h with
    | lst hs ha =>
      cases r
      obtain ⟨ps, e1, rfl⟩ := Option.map_eq_some_iff.mp (show (D.pysE ds).map PyData.list = some p from e)
      obtain ⟨its, rv, ⟨o, n, ho, hc, _, hd⟩, _⟩ := I.list hs.sq
      obtain ⟨bs, hr, hn⟩ := Dx.readsAll hS I ds _ its ps ha rv e1
      refine ⟨_, Reads.list ho hc hd hr, fun z => ?_⟩
      rcases List.mem_cons.mp z with z | z
      · exact sys_ne hS I ho hc z
      · exact hn z
  | .tup ds, _, _, p, h, r, e => by
    cases h with
    | tup hs ha =>
      cases r
      obtain ⟨ps, e1, rfl⟩ := Option.map_eq_some_iff.mp (show (D.pysE ds).map PyData.tuple = some p from e)
      obtain ⟨its, rv, ⟨o, ho, hc, n, hd⟩, _⟩ := I.tuple hs.sq
      obtain ⟨bs, hr, hn⟩ := Dx.readsAll hS I ds _ its ps ha rv e1
      exact ⟨_, Reads.tuple ho hc hd hr, hn⟩
  | .dk [], _, _, p, h, r, e => by
    cases (show some (PyData.dict []) = some p from e)
    cases h with
    | @dk a _ _ na hrd hp =>
      cases hp
      cases r
      obtain ⟨z, lo, vs, rel, o, es, ep, h1, h2, h3, h4, h5, h6⟩ := dk_rd I.hok hrd
      cases rel
      have h0 : es.toList = [] := by
        cases q : es.toList with
        | nil => rfl
        | cons a l => rw [q] at h5; cases h5
      have he : es = #[] := Array.toList_inj.mp h0
      subst he
      refine ⟨_, Reads.dict (kvs := []) h1 h2.1 h3 .nil .nil, fun z => ?_⟩
      have e : sysModules = a := by simpa using z
      rw [← e] at lo
      exact absurd lo (by decide)
  | .dk (_ :: _), _, _, p, _, _, e => by cases (show (none : Option PyData) = some p from e)
  | .ob _ _, _, _, p, _, _, e => by cases (show (none : Option PyData) = some p from e)
  | .xo _ _, _, _, p, _, _, e => by cases (show (none : Option PyData) = some p from e)
theorem Dx.readsAll (hS : SysOn X.base) (I : Inv X pins σ H s) : ∀ (ds : List D) (vs : List V) (us : List Value) (ps : List PyData), DxA X.K as H vs ds → Vals vs us → D.pysE ds = some ps → ∃ bs, ReadsAll s.heap us ps bs ∧ sysModules ∉ bs
  | [], _, _, ps, h, r, e => by
    cases h
    cases r
    cases (show some [] = some ps from e)
    exact ⟨_, ReadsAll.nil, fun z => nomatch z⟩
  | d :: ds, _, _, ps, h, r, e => by
    cases h with
    | cons h1 h2 =>
      cases r with
      | cons r1 r2 =>
        obtain ⟨p, e1, e2⟩ := Option.bind_eq_some_iff.mp (show ((D.pyE d).bind fun p => (D.pysE ds).map fun ps => p :: ps) = some ps from e)
        obtain ⟨qs, e3, rfl⟩ := Option.map_eq_some_iff.mp e2
        obtain ⟨as1, q1, n1⟩ := Dx.reads hS I d _ _ p h1 r1 e1
        obtain ⟨bs1, q2, n2⟩ := Dx.readsAll hS I ds _ _ qs h2 r2 e3
        exact ⟨_, ReadsAll.cons q1 q2, fun z => (List.mem_append.mp z).elim n1 n2⟩
end
end
def rReprA (K : PySem.W.Frag) : List V → Hp → VK → Prop := fun xs H Q => ∃ (as : List Addr) (v : V) (d : D) (p : PyData), xs = [v] ∧ Dx K as H v d ∧ d.pyE = some p ∧ p.showable = true ∧ p.depth ≤ 60 ∧ p.shown.length ≤ sizeLine ∧ Q (.str p.shown) H
theorem call_reprA {X : Cx} (hS : SysOn X.base) (hg : X.A.guards = some []) (hu : X.A.units + 64 < cLine) : CallR X (.builtin "repr") (rReprA X.K) := by
  intro pins s σ H xs us Q I r h
  obtain ⟨as, v, d, p, rfl, hd, e, h1, h3, h4, q⟩ := h
  obtain ⟨u, rfl, rx⟩ := vals1 r
  obtain ⟨bs, rd, nin⟩ := Dx.reads hS I d v u p hd rx e
  cases d with
  | non =>
    cases hd
    cases rx
    cases (show some PyData.none = some p from e)
    exact PySem.P.repr_of_none ⟨.str _, H, I.tok _, ⟨_, rfl⟩, q⟩
  | bl b =>
    cases hd
    cases rx
    cases (show some (PyData.bool b) = some p from e)
    exact PySem.P.repr_of_bool ⟨.str _, H, I.tok _, ⟨_, rfl⟩, q⟩
  | int i =>
    cases hd
    obtain ⟨t, rfl⟩ := rx
    cases (show some (PyData.int i) = some p from e)
    exact PySem.P.repr_of_int (of_decide_eq_true h1) ⟨.str _, H, I.tok _, ⟨_, rfl⟩, q⟩
  | str x =>
    cases hd
    obtain ⟨t, rfl⟩ := rx
    cases (show some (PyData.str x) = some p from e)
    exact PySem.P.repr_of_str ⟨.str _, H, I.tok _, ⟨_, rfl⟩, q⟩ h4
  | lst ds =>
    cases hd
    cases rx
    exact repr_of_reads' rd h1 (fun _ => nin) hg (by omega) (fun _ _ e => e) (fun h' t tk keep => ⟨.str p.shown, H, I.kept (t' := tk) keep, ⟨t, rfl⟩, q⟩) h4
  | tup ds =>
    cases hd
    cases rx
    exact repr_of_reads' rd h1 (fun _ => nin) hg (by omega) (fun _ _ e => e) (fun h' t tk keep => ⟨.str p.shown, H, I.kept (t' := tk) keep, ⟨t, rfl⟩, q⟩) h4
  | dk kvs =>
    cases hd
    cases rx
    exact repr_of_reads' rd h1 (fun _ => nin) hg (by omega) (fun _ _ e => e) (fun h' t tk keep => ⟨.str p.shown, H, I.kept (t' := tk) keep, ⟨t, rfl⟩, q⟩) h4
  | ob C fs => cases (show (none : Option PyData) = some p from e)
  | xo C fs => cases (show (none : Option PyData) = some p from e)
end Br

/-! BrQ: more rules over data. -/
namespace Br
open PySem PySem.Spec PyProof.Rows L2
section
variable {K : PySem.W.Frag} {X : Xc} {S : Sa} {os : Os} {Q : Sv → Os → Prop} {ta tb tc te to : TE}
/-- a < b < c -/
theorem ew_chain {r r' : R2} (h : EW K X ta S fun x os1 => EW K X tb ⟨S.s, os1⟩ fun y os2 => BW K r x y os2 fun z os3 => ∃ b, z = .d (.bl b) ∧ if b = true then EW K X tc ⟨S.s, os3⟩ fun u os4 => BW K r' y u os4 Q else Q (.d (.bl false)) os3) : EW K X (tChain r r' ta tb tc) S Q := fun as H σ Q' R x k =>
  h as H σ _ R x fun v H1 d os1 g1 R1 r1 q1 => q1 as H1 σ _ (R.go g1 R1) (x.go g1 R1) fun u H2 e os2 g2 R2 r2 q2 => q2 as H2 v u _ R2 (r1.go g2) r2 fun z H3 f os3 g3 R3 r3 ⟨b, eb, q3⟩ => by
    subst eb
    cases r3
    refine ⟨b, rfl, ?_⟩
    have g := (g1.trans g2).trans g3
    cases b with
    | true =>
      show tc σ H3 _
      exact (show EW K X tc ⟨S.s, os3⟩ (fun u os4 => BW K r' e u os4 Q) from q3) as H3 σ _ (R.go g R3) (x.go g R3) fun w H4 e4 os4 g4 R4 r4 q4 => q4 as H4 u w Q' R4 ((r2.go g3).go g4) r4 fun z H5 d5 os5 g5 R5 r5 q5 => k z H5 d5 os5 ((g.trans g4).trans g5) R5 r5 q5
    | false =>
      show Q' (.bl false) H3
      exact k _ H3 (.d (.bl false)) os3 g R3 (Dx.bl false) q3
theorem bw_catL {xs ys : List D} (hl : xs.length + ys.length ≤ sizeLine) (q : Q (.d (.lst (xs ++ ys))) os) : BW K (rCatL K) (.d (.lst xs)) (.d (.lst ys)) os Q :=
  bw_new (fun as H v u Q' R rx ry k1 k2 => by
    cases rx with
    | lst h1 h2 =>
      cases ry with
      | lst h3 h4 => exact ⟨_, _, _, _, rfl, rfl, h1.sq, h3.sq, by rw [h2.length, h4.length]; exact hl, fun p hp => k1 p _ hp (dx_newL R hp (h2.app h4))⟩) q
theorem bw_eqNilL {xs : List D} (q : Q (.d (.bl xs.isEmpty)) os) : BW K (rEqNilL K) (.d (.lst xs)) (.d (.lst [])) os Q :=
  bw_pure (fun as H v u Q' R rx ry k => by
    cases rx with
    | @lst a ws _ h1 h2 =>
      cases ry with
      | lst h3 h4 =>
        cases h4
        refine ⟨_, _, _, rfl, rfl, h1.sq, h3.sq, ?_⟩
        have e : ws.isEmpty = xs.isEmpty := by cases h2 <;> rfl
        rw [e]
        exact k _ (.bl _)) q
theorem bw_neNilT {xs : List D} (q : Q (.d (.bl (!xs.isEmpty))) os) : BW K (rNeNilT K) (.d (.tup xs)) (.d (.tup [])) os Q :=
  bw_pure (fun as H v u Q' R rx ry k => by
    cases rx with
    | @tup a ws _ h1 h2 =>
      cases ry with
      | tup h3 h4 =>
        cases h4
        refine ⟨_, _, _, rfl, rfl, h1.sq, h3.sq, ?_⟩
        have e : ws.isEmpty = xs.isEmpty := by cases h2 <;> rfl
        rw [e]
        exact k _ (.bl _)) q
theorem bw_addBI {b : Bool} {j : Int} (q : Q (.d (.int (b2I b + j))) os) : BW K (fun x y H Q => ∃ b j, x = .bl b ∧ y = .int j ∧ Q (.int (b2I b + j)) H) (.d (.bl b)) (.d (.int j)) os Q :=
  bw_pure (fun as H v u Q' R rx ry k => by
    cases rx
    cases ry
    exact ⟨b, j, rfl, rfl, k _ (.int _)⟩) q
theorem bw_subBI {b : Bool} {j : Int} (q : Q (.d (.int (b2I b - j))) os) : BW K (fun x y H Q => ∃ b j, x = .bl b ∧ y = .int j ∧ Q (.int (b2I b - j)) H) (.d (.bl b)) (.d (.int j)) os Q :=
  bw_pure (fun as H v u Q' R rx ry k => by
    cases rx
    cases ry
    exact ⟨b, j, rfl, rfl, k _ (.int _)⟩) q
theorem bw_subIB {b : Bool} {i : Int} (q : Q (.d (.int (i - b2I b))) os) : BW K (fun x y H Q => ∃ i b, x = .int i ∧ y = .bl b ∧ Q (.int (i - b2I b)) H) (.d (.int i)) (.d (.bl b)) os Q :=
  bw_pure (fun as H v u Q' R rx ry k => by
    cases rx
    cases ry
    exact ⟨i, b, rfl, rfl, k _ (.int _)⟩) q
theorem bw_eqBI {b : Bool} {j : Int} (q : Q (.d (.bl (b2I b == j))) os) : BW K (fun x y H Q => ∃ b j, x = .bl b ∧ y = .int j ∧ Q (.bl (b2I b == j)) H) (.d (.bl b)) (.d (.int j)) os Q :=
  bw_pure (fun as H v u Q' R rx ry k => by
    cases rx
    cases ry
    exact ⟨b, j, rfl, rfl, k _ (.bl _)⟩) q
theorem cw_strB {b : Bool} (q : Q (.d (.str (if b then "True" else "False"))) os) : CW K (fun xs H Q => ∃ b : Bool, xs = [.bl b] ∧ Q (.str (if b then "True" else "False")) H) [.d (.bl b)] os Q :=
  cw_pure (fun as H vs Q' R r k => by
    cases r with
    | cons h t =>
      cases t
      cases h
      exact ⟨b, rfl, k _ (.str _)⟩) q
theorem cw_strI {i : Int} (hi : i.natAbs.log2 < 1920) (q : Q (.d (.str (toString i))) os) : CW K (fun xs H Q => ∃ i, xs = [.int i] ∧ i.natAbs.log2 < 1920 ∧ Q (.str (toString i)) H) [.d (.int i)] os Q :=
  cw_pure (fun as H vs Q' R r k => by
    cases r with
    | cons h t =>
      cases t
      cases h
      exact ⟨i, rfl, hi, k _ (.str _)⟩) q
theorem bw_isB {a b : Bool} (q : Q (.d (.bl (decide (a = b)))) os) : BW K rIsB (.d (.bl a)) (.d (.bl b)) os Q :=
  bw_pure (fun as H v u Q' R rx ry k => by
    cases rx
    cases ry
    exact ⟨a, b, rfl, rfl, k _ (.bl _)⟩) q
theorem bw_notB {a b : Bool} (q : Q (.d (.bl (!decide (a = b)))) os) : BW K rNotB (.d (.bl a)) (.d (.bl b)) os Q :=
  bw_pure (fun as H v u Q' R rx ry k => by
    cases rx
    cases ry
    exact ⟨a, b, rfl, rfl, k _ (.bl _)⟩) q
theorem bw_eqB {a b : Bool} (q : Q (.d (.bl (decide (a = b)))) os) : BW K rEq (.d (.bl a)) (.d (.bl b)) os Q :=
  bw_pure (fun as H v u Q' R rx ry k => by
    cases rx
    cases ry
    have e : decide (V.bl a = V.bl b) = decide (a = b) := by simp
    exact ⟨rfl, by rw [e]; exact k _ (.bl _)⟩) q
/-- a text among written texts -/
theorem inV_strs {z : Str} : ∀ {ns : List Str}, inV (.str z) (ns.map V.str) = decide (z ∈ ns)
  | [] => rfl
  | n :: ns => by
    have ih := inV_strs (z := z) (ns := ns)
    unfold inV at ih ⊢
    rw [List.map_cons, List.any_cons, ih]
    have e : eqV (.str n) (.str z) = decide (z = n) := by
      show decide (n = z) = decide (z = n)
      by_cases h : n = z
      · simp [h]
      · rw [decide_eq_false h, decide_eq_false fun q : z = n => h q.symm]
    rw [e]
    by_cases h : z = n <;> simp [h]
theorem bw_inT {z : Str} {ns : List Str} (q : Q (.d (.bl (decide (z ∈ ns)))) os) : BW K (rIn K false) (.d (.str z)) (.d (.tup (ns.map D.str))) os Q :=
  bw_pure (fun as H v u Q' R rx ry k => by
    cases rx
    cases ry with
    | tup h1 h2 =>
      have ev := DxA.of_strs h2
      subst ev
      refine ⟨_, _, rfl, .inr h1.sq, rfl, by rw [List.all_map]; exact List.all_eq_true.mpr fun _ _ => rfl, ?_⟩
      show Q' (.bl (inV (.str z) (ns.map V.str))) H
      rw [inV_strs]
      exact k _ (.bl _)) q
/-- t.upper() -/
theorem ew_upper (h : EW K X to S fun x os => ∃ z : Str, x = .d (.str z) ∧ z.length ≤ 5592405 ∧ Q (.d (.str (Txt.upper z))) os) : EW K X (tM0 (fun x xs H Q => ∃ a, x = .str a ∧ xs = [] ∧ a.length ≤ 5592405 ∧ Q (.str (Txt.upper a)) H) to) S Q := fun as H σ Q' R x k =>
  h as H σ _ R x fun v H1 d os1 g1 R1 r1 ⟨z, ed, hz, q⟩ => by
    subst ed
    cases r1
    exact ⟨⟨z, rfl⟩, z, rfl, rfl, hz, k _ H1 (.d (.str _)) os1 g1 R1 (Dx.str _) q⟩
end

/-! ### dicts that stay -/
section
variable {K : PySem.W.Frag} {X : Xc} {S : Sa} {os : Os} {Q : Sv → Os → Prop} {ta tb td ty te to : TE} {E : Ea}
theorem DxP.isSome {as : List Addr} {H : Hp} {k : Key} : ∀ {vs : List (Key × V)} {ds : List (Key × D)}, DxP K as H vs ds → (valV vs k).isSome = (lookD ds k).isSome
  | _, _, .nil => rfl
  | _, _, .cons (k := k2) (v := v) (d := d) (vs := vs) (ds := ds) h r => by
    have ih := DxP.isSome (k := k) r
    unfold valV lookD at ih ⊢
    by_cases e : k2 = k
    · simp [List.find?_cons, e]
    · simpa [List.find?_cons, e] using ih
theorem DxP.keys {as : List Addr} {H : Hp} : ∀ {vs : List (Key × V)} {ds : List (Key × D)}, DxP K as H vs ds → vs.map (·.1) = ds.map (·.1)
  | _, _, .nil => rfl
  | _, _, .cons h r => by rw [List.map_cons, List.map_cons, DxP.keys r]
theorem DxA.strs {as : List Addr} {H : Hp} : ∀ (ns : List Str), DxA K as H (ns.map V.str) (ns.map D.str)
  | [] => .nil
  | n :: r => .cons (.str n) (DxA.strs r)
theorem ew_dgetD (h : EW K X td S fun x os1 => EW K X ty ⟨S.s, os1⟩ fun y os2 => ∃ kds key z, x = .d (.dk kds) ∧ y = .d (keyD key) ∧ lookD kds key = some z ∧ Q (.d z) os2) : EW K X (tDGet td ty) S Q := fun as H σ Q' R x k =>
  h as H σ _ R x fun v H1 d os1 g1 R1 r1 q1 => q1 as H1 σ _ (R.go g1 R1) (x.go g1 R1) fun u H2 e os2 g2 R2 r2 ⟨kds, key, z, ex, ey, el, q2⟩ => by
    subst ex
    subst ey
    have r1' : Dx K as H2 v (.dk kds) := r1.go g2
    cases r1' with
    | dk na hrd hp =>
      obtain ⟨w, h3, h4⟩ := hp.look el
      have hk := key_v (show Dx K as H2 u (keyD key) from r2)
      subst hk
      exact ⟨_, w, rfl, .inl ⟨_, key, hrd, rfl, h3.symm⟩, k w H2 (.d z) os2 (g1.trans g2) R2 h4 q2⟩
theorem ew_notInD (h : EW K X ty S fun y os1 => EW K X td ⟨S.s, os1⟩ fun x os2 => ∃ kds key, x = .d (.dk kds) ∧ y = .d (keyD key) ∧ Q (.d (.bl (!(lookD kds key).isSome))) os2) : EW K X (tDNotIn ty td) S Q := fun as H σ Q' R x k =>
  h as H σ _ R x fun u H1 d os1 g1 R1 r1 q1 => q1 as H1 σ _ (R.go g1 R1) (x.go g1 R1) fun v H2 e os2 g2 R2 r2 ⟨kds, key, ex, ey, q2⟩ => by
    subst ex
    subst ey
    have r1' : Dx K as H2 u (keyD key) := r1.go g2
    have hk := key_v r1'
    subst hk
    cases (show Dx K as H2 v (.dk kds) from r2) with
    | dk na hrd hp =>
      refine ⟨_, _, rfl, .inl ⟨_, key, hrd, rfl, rfl⟩, ?_⟩
      rw [hp.isSome]
      exact k _ H2 (.d (.bl _)) os2 (g1.trans g2) R2 (Dx.bl _) q2
theorem cw_sortedD {kds : List (Key × D)} {ks : List Str} (hk : kds.map (·.1) = ks.map Sum.inr) (h64 : ks.length < 64) (q : ∀ ys : List Str, ys.Perm ks → Q (.d (.lst (ys.map D.str))) os) :
    CW K (fun xs H Q => ∃ (a : Addr) (kvs : List (Key × V)) (ks : List Str), xs = [.ref a] ∧ Rd H a (.dK kvs) ∧ kvs.map (·.1) = ks.map Sum.inr ∧ ks.length < 64 ∧ ∀ ys p, ys.Perm ks → sortedS ys = true → H p = none → Q (.ref p) (upd H p (.lst (ys.map V.str)))) [.d (.dk kds)] os Q := fun as H vs Q' R r k => by
  cases r with
  | cons h t =>
    cases t
    cases (show Dx K as H _ (.dk kds) from h) with
    | dk na hrd hp => exact ⟨_, _, ks, rfl, hrd, hp.keys.trans hk, h64, fun ys p hperm _ hp0 => k (.ref p) _ (.d (.lst (ys.map D.str))) os (Go.new hp0) (R.new hp0) (dx_newL R hp0 (DxA.strs ys)) (q ys hperm)⟩
theorem disp_in {as : List Addr} {H2 : Hp} {p : Addr} {os4 : Os} {kvs : List (Key × V)} {kds : List (Key × D)} (R2 : Ro K (as ++ [p]) H2 (os4 ++ [.md []])) (rk : DxP K (as ++ [p]) H2 kvs kds) :
    H2 p = some (.dK []) ∧ Ro K (as ++ [p]) (upd H2 p (.dK (mergeK [] kvs))) (os4 ++ [.md (mergeD [] kds)]) := by
  have hlen : as.length = os4.length := by
    have := R2.len
    simpa using this
  have hpos : (as ++ [p])[as.length]? = some p := by simp
  obtain ⟨ws, e1, e2⟩ := R2.own as.length p (.md []) hpos (by rw [hlen]; simp)
  cases e2
  have g3 : Go (as ++ [p]) H2 (upd H2 p (.dK (mergeK [] kvs))) := Go.at (by simp)
  have z := ro_set (ob := .md (mergeD [] kds)) R2 hpos ⟨mergeK [] kvs, upd_same, DxP.way (Way.of_go g3) (merge_dx rk .nil)⟩
  rw [hlen, List.set_append_right _ _ (Nat.le_refl _)] at z
  exact ⟨e1, by simpa using z⟩
theorem re_disp {as : List Addr} {H : Hp} {σ : L2.St} {p : Addr} (R : Re K as H σ S) (hp : H p = none) : Re K (as ++ [p]) (upd H p (.dK [])) σ ⟨S.s, S.os ++ [.md []]⟩ :=
  ⟨ro_addD R.o hp, R.slen, fun j d hd => by
    obtain ⟨u, e, z⟩ := R.slot j d hd
    exact ⟨u, e, z.stp (stp_add hp)⟩⟩
/-- {k: v, ..}, data -/
theorem ew_disp {trs : List (TE × TE)} (h : DW K X0 trs ⟨S.s, S.os ++ [.md []]⟩ fun ds os3 => ∃ os4 kds, os3 = os4 ++ [.md []] ∧ ds = kds.map (fun kv => (keyD kv.1, kv.2)) ∧ kds.length ≤ 15 ∧ Q (.d (.dk (mergeD [] kds))) os4) : EW K X (tDisp trs) S Q := fun as H σ Q' R x k p hp => by
  refine h _ _ σ _ (re_disp R hp) XH.x0 fun ps H2 ds os3 g2 R2 r2 ⟨os4, kds, e3, ed, hl, q⟩ => ?_
  subst e3
  subst ed
  obtain ⟨kvs, ek, rk⟩ := pr_keys r2
  obtain ⟨e1, R3⟩ := disp_in R2 rk
  obtain ⟨Rf, ⟨ws, e5, e6⟩, nin⟩ := ro_drop R3
  have sN : Stp as H (as ++ [p]) (upd H2 p (.dK (mergeK [] kvs))) := ((stp_add hp).trans (Stp.of_go g2 R2)).trans (Stp.of_go (Go.at (by simp)) R3)
  exact ⟨e1, kvs, ek, by rw [rk.length]; exact hl, k (.ref p) _ (.d (.dk (mergeD [] kds))) os4 sN.go Rf (Dx.dk nin (.inl e5) e6) q⟩
/-- x = {k: v, ..}, a dict that changes -/
theorem w_asgDisp {trs : List (TE × TE)} {i : Nat} (h : DW K X0 trs ⟨S.s, S.os ++ [.md []]⟩ fun ds os3 => ∃ os4 kds, os3 = os4 ++ [.md []] ∧ ds = kds.map (fun kv => (keyD kv.1, kv.2)) ∧ kds.length ≤ 15 ∧ E.nx ⟨S.s.set i (some (.o S.os.length)), os4 ++ [.md (mergeD [] kds)]⟩) :
    W K X (tAsg (tDisp trs) (gName i)) E S := fun as H σ D R x n r b c p hp => by
  refine h _ _ σ _ (re_disp R hp) XH.x0 fun ps H2 ds os3 g2 R2 r2 ⟨os4, kds, e3, ed, hl, q⟩ => ?_
  subst e3
  subst ed
  obtain ⟨kvs, ek, rk⟩ := pr_keys r2
  obtain ⟨e1, R3⟩ := disp_in R2 rk
  have sN : Stp as H (as ++ [p]) (upd H2 p (.dK (mergeK [] kvs))) := ((stp_add hp).trans (Stp.of_go g2 R2)).trans (Stp.of_go (Go.at (by simp)) R3)
  have RR : Re K (as ++ [p]) (upd H2 p (.dK (mergeK [] kvs))) σ ⟨S.s, os4 ++ [.md (mergeD [] kds)]⟩ := ⟨R3, R.slen, fun j d hd => by
    obtain ⟨u, e, z⟩ := R.slot j d hd
    exact ⟨u, e, z.stp sN⟩⟩
  exact ⟨e1, kvs, ek, by rw [rk.length]; exact hl, n _ _ _ _ sN (RR.set i (v := .ref p) (d := .o S.os.length) ⟨p, by rw [← R.o.len]; simp, rfl⟩) q⟩
/-- d.update(e) -/
theorem ew_upd (h : EW K X to S fun x os1 => ∃ j k1, x = .o j ∧ os1[j]? = some (.md k1) ∧ EW K X te ⟨S.s, os1⟩ fun y os2 => ∃ k2 more, y = .d (.dk more) ∧ os2[j]? = some (.md k2) ∧ k2.length + more.length ≤ sizeLine ∧ Q (.d .non) (os2.set j (.md (mergeD k2 more)))) :
    EW K X (tBM K "dict" rUpd to (tCons te tNil)) S Q := fun as H σ Q' R x k =>
  h as H σ _ R x fun v H1 d os1 g1 R1 r1 ⟨j, k1, ed, eo1, h2⟩ => by
    subst ed
    obtain ⟨a, ea, rfl⟩ := r1
    refine ⟨?_, h2 as H1 σ _ (R.go g1 R1) (x.go g1 R1) fun u H2 e os2 g2 R2 r2 ⟨k2, more, ey, eo, hl, q⟩ => ?_⟩
    · obtain ⟨ws, q1, _⟩ := R1.own j a _ ea eo1
      exact .inr (.inr (.inl ⟨rfl, .inl ⟨ws, q1⟩⟩))
    · subst ey
      obtain ⟨ws, h1, h3⟩ := R2.own j a _ ea eo
      have hm : a ∈ as := List.mem_of_getElem? ea
      cases (show Dx K as H2 u (.dk more) from r2) with
      | @dk b kvs _ na hrd hp =>
        have g3 : Go as H2 (upd H2 a (.dK (mergeK ws kvs))) := Go.at hm
        have R3 : Ro K as (upd H2 a (.dK (mergeK ws kvs))) (os2.set j (.md (mergeD k2 more))) := ro_set R2 ea ⟨_, upd_same, DxP.way (Way.of_go g3) (merge_dx hp h3)⟩
        exact ⟨a, b, ws, kvs, rfl, rfl, fun z => na (z ▸ hm), h1, hrd, by rw [h3.length, hp.length]; exact hl, k .non _ (.d .non) _ ((g1.trans g2).trans g3) R3 Dx.non q⟩
/-- a new list of the store -/
theorem ro_addL {as : List Addr} {H : Hp} {p : Addr} {vs : List V} {xs : List D} (R : Ro K as H os) (hp : H p = none) (r : DxA K as H vs xs) : Ro K (as ++ [p]) (upd H p (.lst vs)) (os ++ [.ml xs]) := by
  have R0 := ro_add R hp
  have hpos : (as ++ [p])[as.length]? = some p := by simp
  have w1 : Way K as (as ++ [p]) H H := Way.of_add hp
  have w2 : Way K (as ++ [p]) (as ++ [p]) H (upd H p (.lst vs)) := Way.of_go (Go.at (by simp))
  have z := ro_set (o := .lst vs) (ob := .ml xs) R0 hpos ⟨vs, by rw [upd_upd]; exact upd_same, by rw [upd_upd]; exact (r.way w1).way w2⟩
  rw [upd_upd, R.len, List.set_append_right _ _ (Nat.le_refl _)] at z
  simpa using z
/-- x = xs + ys, a list that changes -/
theorem w_asgCat {i : Nat} (h : EW K X ta S fun x os1 => EW K X tb ⟨S.s, os1⟩ fun y os2 => ∃ xs ys, x = .d (.lst xs) ∧ y = .d (.lst ys) ∧ xs.length + ys.length ≤ sizeLine ∧ E.nx ⟨S.s.set i (some (.o os2.length)), os2 ++ [.ml (xs ++ ys)]⟩) :
    W K X (tAsg (tOp (rCatL K) ta tb) (gName i)) E S := fun as H σ D R x n r b c =>
  h as H σ _ R (x.h R) fun v H1 d os1 g1 R1 r1 q1 => q1 as H1 σ _ (R.go g1 R1) ((x.h R).go g1 R1) fun u H2 e os2 g2 R2 r2 ⟨xs, ys, ex, ey, hl, q⟩ => by
    subst ex
    subst ey
    have r1' : Dx K as H2 v (.lst xs) := r1.go g2
    cases r1' with
    | @lst a1 us _ h1 h2 =>
      cases (show Dx K as H2 u (.lst ys) from r2) with
      | @lst a2 ws _ h3 h4 =>
        refine ⟨_, _, _, _, rfl, rfl, h1.sq, h3.sq, by rw [h2.length, h4.length]; exact hl, fun p hp => ?_⟩
        have R3 := ro_addL R2 hp (h2.app h4)
        have s3 : Stp as H2 (as ++ [p]) (upd H2 p (.lst (us ++ ws))) := stp_add hp
        have sN := (Stp.of_go (g1.trans g2) R2).trans s3
        have RR : Re K (as ++ [p]) _ σ ⟨S.s, os2 ++ [.ml (xs ++ ys)]⟩ := ⟨R3, R.slen, fun j d hd => by
          obtain ⟨u, e, z⟩ := R.slot j d hd
          exact ⟨u, e, z.stp sN⟩⟩
        exact n _ _ _ _ sN (RR.set i (v := .ref p) (d := .o os2.length) ⟨p, by rw [← R2.len]; simp, rfl⟩) q
/-- a return that hands out a dict of the store -/
def RetM (n : Nat) (QA : D → Os → Prop) : Sv → Os → Prop := fun x os' => match x with
  | .d d => QA d (os'.take n)
  | .o k => n ≤ k ∧ ∃ kvs, os'[k]? = some (.md kvs) ∧ QA (.dk kvs) (os'.take n)
  | .fn _ _ => False
theorem retM_back {as bs : List Addr} {H H' : Hp} {os' : Os} {QA : D → Os → Prop} {v : V} {x : Sv} {Q : VK} (s : Stp as H bs H') (n : as.length = os.length) (R : Ro K bs H' os') (r : SvR K bs H' v x) (q : RetM os.length QA x os')
    (k : ∀ v H' d os', Go as H H' → Ro K as H' os' → Dx K as H' v d → QA d os' → Q v H') : Q v H' := by
  cases x with
  | d d => exact k v H' d _ s.go (R.back s n) (Dx.way (Way.of_sub s.sub) r) q
  | o j =>
    obtain ⟨hj, xs, e, q⟩ := q
    obtain ⟨a, ea, rfl⟩ := r
    obtain ⟨vs, h1, h2⟩ := R.own j a _ ea e
    obtain ⟨nw, eb, hf⟩ := s.pre
    have ha : a ∉ as := fun z => by
      obtain ⟨i, hi, ei⟩ := List.mem_iff_getElem.mp z
      have h3 : bs[i]? = some a := by rw [eb, List.getElem?_append_left hi, List.getElem?_eq_getElem hi, ei]
      have h4 : i = j := by
        obtain ⟨l1, m1⟩ := List.getElem?_eq_some_iff.mp h3
        obtain ⟨l2, m2⟩ := List.getElem?_eq_some_iff.mp ea
        exact (List.getElem_inj R.nd).mp (m1.trans m2.symm)
      omega
    exact k _ H' _ _ s.go (R.back s n) (.dk ha (.inl h1) (h2.way (Way.of_sub s.sub))) q
  | fn f r => exact q.elim
theorem readM_of {N : List Str} {f : FD} {t : TS} {vs : List V} {H : Hp} {Q : VK} {E : XK} (h : spD K f vs H Q E)
    (w : ∀ ds os QA EA, f ds os QA EA → W K ⟨fun cls d _ H => E cls d H, fun C fds S => EA C fds (S.os.take os.length)⟩ t { nx := fun S => RetM os.length QA (.d .non) S.os, rt := RetM os.length QA } ⟨startS N ds, os⟩) : t { nx := fun _ H' => Q .non H', rt := Q } (L2.start N vs) H := by
  obtain ⟨as, os, ds, QA, EA, R, r, hf, kq, ke⟩ := h
  refine w ds os QA EA hf as H _ _ (re_start R r) (fun bs H' σ' S' C dd fs fds s R' n e r' z => ?_) (fun bs H' σ' S' s R' q => ?_) (fun bs H' v d os' s R' r' q => ?_) (fun _ _ _ _ _ _ q => q.elim) fun _ _ _ _ _ _ q => q.elim
  · exact ke C dd H' fs fds _ s.go (R'.o.back s R.len) n e (DxF.way (Way.of_sub s.sub) r') z
  · exact retM_back s R.len R'.o (v := .non) (x := .d .non) Dx.non q kq
  · exact retM_back s R.len R' r' q kq
end
end Br

/-! BrL: lists that grow by tuples, enumerate of tuples and lists from any count, calls by names alone, (x,) * a truth. -/
namespace BrEn
open PySem PySem.Spec PyProof.Rows Builtin Builtin.SmallTypes
open AutoSeq1 (wpAny_loadPart')
theorem meets_extT (l b : Addr) (xs ys : Array Value) (n m : Nat) (dd : Option Addr) (sl : Array (Option Value)) (h0 : ¬(!xs.isEmpty && Builtin.List.listTooLong (xs.size + ys.size)) = true) (h1 : xs.size ≤ sizeLine) (h2 : xs.size + ys.size ≤ sizeLine + 1) :
    Meets (Builtin.«list.extend» ⟨[.ref l, .ref b], []⟩) (fun _ R s => s.heap.get? l = some { cls := .type "list", dict := none, data := .seq xs n, slots := #[] } ∧
      s.heap.get? b = some { cls := .type "tuple", dict := dd, data := .seq ys m, slots := sl } ∧ R (.ok (.ret Value.none)) { s with heap := s.heap.update l (Obj.mapSeq fun x => x ++ ys), toks := s.toks }) :=
  .of_wp fun prog w A R s h => by
    obtain ⟨hp, g, d, tk, os⟩ := s
    obtain ⟨hl, hb, h⟩ := h
    have k1 := AutoSeq1.idx_int
    have k2 := AutoSeq1.sub_tuple_tuple
    have k3 := AutoSeq1.sub_list_list
    have k4 := AutoSeq1.sub_tuple_list
    have k5 := AutoSeq1.sub_list_tuple
    have hz' : (xs ++ ys).size ≤ sizeLine + 1 := by rw [Array.size_append]; exact h2
    wp_walk using (wpAny_updateSeq hl rfl (hz := h1) (_hz' := hz')), wpAny_loadPart' hl, wpAny_loadPart' hb
    exact ⟨_, rfl, h⟩
theorem meets_enT (t : Addr) (ys : Array Value) :
    Meets (Builtin.«enumerate.__new__» ⟨[.type "enumerate", .ref t], []⟩) (fun _ R s => s.heap.IsTuple t ys ∧
      R (.ok (.ret (.ref (s.heap.push { cls := .type "tuple_iterator", data := .fields #[.ref t, .int 0 0] }).objs.size)))
        { s with heap := (s.heap.push { cls := .type "tuple_iterator", data := .fields #[.ref t, .int 0 0] }).push { cls := .type "enumerate", data := .fields #[.none, .bool false, .ref s.heap.objs.size, rawInt 0, .none, .none] } }) :=
  .of_wp fun prog w A R s h => by
    obtain ⟨hp, g, d, tk, os⟩ := s
    obtain ⟨hl, h⟩ := h
    have hsub := sub_enumerate
    have hL : Heap.IsTuple (Shared.heap ⟨hp, g, d, tk, os⟩) t ys := hl
    wp_walk
    refine wpAny_stack_any fun st => wpAny_pure ?_
    split
    · rename_i c _ _ _ _ _
      cases (c == Value.type "enumerate")
      · wp_walk using wpAny_pyIter_tuple hL
        exact ⟨_, rfl, h⟩
      · wp_walk using wpAny_pyIter_tuple hL
        exact ⟨_, rfl, h⟩
    · wp_walk using wpAny_pyIter_tuple hL
      exact ⟨_, rfl, h⟩
section
variable {prog : Program} {w : World} {A : Around} {E : Value → Shared → Prop} {s : Shared}
theorem call_enT {t : Addr} {ys : Array Value} {Q : Value → Shared → Prop} (hL : s.heap.IsTuple t ys)
    (h : ∀ h', IsEnum h' (s.heap.objs.size + 1) s.heap.objs.size 0 .none → h'.IsTupleIter s.heap.objs.size t 0 →
      (∀ b o, s.heap.get? b = some o → h'.get? b = some o) → Q (.ref (s.heap.objs.size + 1)) { s with heap := h' }) :
    wpAny (model prog w) A (call (.type "enumerate") [.ref t]) Q E s := by
  refine callType_new F.called_enumerate (by decide) (F.typeCall_enumerate_1 _) (F.newCall_enumerate_1 _) (fun obj => F.args_object_init_2 obj _) F.entry_enumerate_new (meets_enT t ys) ⟨hL, ?_⟩
  have hz : (s.heap.push { cls := .type "tuple_iterator", data := .fields #[.ref t, .int 0 0] }).objs.size = s.heap.objs.size + 1 := Heap.size_push ..
  show _ ∧ _
  rw [hz]
  have he := Heap.get?_push_size (s.heap.push { cls := .type "tuple_iterator", data := .fields #[.ref t, .int 0 0] }) (o := { cls := .type "enumerate", data := .fields #[.none, .bool false, .ref s.heap.objs.size, rawInt 0, .none, .none] }) rfl
  rw [hz] at he
  have hi : ((s.heap.push { cls := .type "tuple_iterator", data := .fields #[.ref t, .int 0 0] }).push { cls := .type "enumerate", data := .fields #[.none, .bool false, .ref s.heap.objs.size, rawInt 0, .none, .none] }).get? s.heap.objs.size = some { cls := .type "tuple_iterator", data := .fields #[.ref t, .int 0 0] } :=
    Heap.get?_push_of_some _ (Heap.get?_push_size _ rfl)
  exact ⟨⟨_, he, rfl⟩, h _ he ⟨_, hi, rfl, rfl⟩ fun b o x => Heap.get?_push_of_some _ (Heap.get?_push_of_some _ x)⟩
end
end BrEn
namespace Br
open PySem PySem.Spec PyProof.Rows L2 BrEn
section
variable {X : Cx}
/-- l.extend(t), t a tuple -/
def rExt (K : PySem.W.Frag) : V → List V → Hp → VK → Prop := fun x vs H Q => ∃ l b xs zs, x = .ref l ∧ vs = [.ref b] ∧ H l = some (.lst xs) ∧ SqT K H b zs ∧ xs.length + zs.length ≤ sizeLine ∧ Q .non (upd H l (.lst (xs ++ zs)))
theorem mt_extT : MtR X "list.extend" (rExt X.K) := by
  intro pins s σ H x vs v us Q I rx rv h
  obtain ⟨l, b, xs, zs, rfl, rfl, hH, hB, hz, q⟩ := h
  cases rx
  obtain ⟨u, rfl, ru⟩ := vals1 rv
  cases (show u = Value.ref b from ru)
  obtain ⟨z, its, n, r, hl, e⟩ := I.lstM hH
  obtain ⟨its2, r2, ⟨⟨cls, dd, data, sl⟩, ho, hc, m, hd⟩, hs⟩ := I.tuple hB
  simp only at hc hd
  subst hc hd
  have l1 := r.length
  have l2 := r2.length
  have hsz : its.toArray.size + its2.toArray.size ≤ sizeLine := by rw [List.size_toArray, List.size_toArray]; omega
  have hlong : ¬ (!its.toArray.isEmpty && Builtin.List.listTooLong (its.toArray.size + its2.toArray.size)) = true := by
    rw [notLongL hsz, Bool.and_false]
    exact Bool.false_ne_true
  refine call_meets PySem.F.slot_list_extend ⟨_, e, rfl⟩ PySem.F.entry_list_extend (PySem.F.args_list_extend_2 _ _)
    (meets_extT l b its.toArray its2.toArray n m dd sl hlong (by omega) (by omega)) ⟨e, ho, ?_⟩
  refine ⟨.non, _, I.lset (its' := its ++ its2) hH e (by simp) (r.append r2) ?_, rfl, q⟩
  rw [List.length_append]
  omega
/-- (x,) * 0, (x,) * 1 -/
def rMulB (K : PySem.W.Frag) : R2 := fun x y H Q => ∃ a xs b, x = .ref a ∧ y = .int (if b = true then 1 else 0) ∧ SqT K H a xs ∧ ∀ p, H p = none → Q (.ref p) (upd H p (.tup (if b = true then xs else [])))
end
end Br

/-! BrM: enumerate over tuples and lists. -/
namespace Br
open PySem PySem.Spec PyProof.Rows L2 BrEn
/-- the tuple at a, each item in a new pair with its number from k on -/
def ItE (K : PySem.W.Frag) (a : Addr) (k : Int) (m : Nat) : It :=
  ⟨fun i H => ∃ (xs : List V) (x : V), SqT K H a xs ∧ xs.length = m ∧ xs[i]? = some x, fun i H v H' => ∃ T x, v = .ref T ∧ H T = none ∧ H' = upd H T (.tup [.int (k + (i : Nat)), x]) ∧ ∀ xs, SqT K H a xs → xs[i]? = some x,
    fun i H => m ≤ i ∧ ∃ xs : List V, SqT K H a xs ∧ xs.length = m⟩
theorem turn_en {P : Program} {w : World} {K : PySem.W.Frag} {elts : List Expr} {kk m : Nat} {tpos : Pos} {a e it : Addr} {k : Int} (hne : e ≠ it) (hea : e ≠ a) (hia : a ≠ it) :
    Turn P w K (.Tuple elts kk tpos) (ItE K a k m) [e, it] e (fun i h => i ≤ m ∧ (∃ old, IsEnum h e it (k + ((i : Nat) : Int)) old) ∧ h.IsTupleIter it a i) where
  mem := by simp
  obj := fun i h st b hb => by
    obtain ⟨_, ⟨old, he⟩, ⟨o, ho, hc, hd⟩⟩ := st
    simp only [List.mem_cons, List.not_mem_nil, or_false] at hb
    rcases hb with z | z
    · rw [z]; exact ⟨_, he, fun v q => nomatch q⟩
    · rw [z]; exact ⟨o, ho, fun v q => by rw [hd] at q; cases q⟩
  keep := fun i h h' st kp => by
    obtain ⟨hm, ⟨old, he⟩, hi⟩ := st
    exact ⟨hm, ⟨old, kp e (by simp) _ he⟩, hi.at fun o q => kp it (by simp) o q⟩
  item := by
    intro X hP hw hK hc i pins s σ H E I hf st hg
    subst hP hw hK
    obtain ⟨hm, ⟨old, he⟩, hit⟩ := st
    obtain ⟨xs, x, hq, hl, hx⟩ := hg
    obtain ⟨its, rv, p, hz⟩ := I.tuple hq
    obtain ⟨u, hu, ru⟩ := rv.get hx
    have hel : e < s.heap.objs.size := Heap.lt_size he
    have hil : it < s.heap.objs.size := by obtain ⟨_, q, _⟩ := hit; exact Heap.lt_size q
    have D := Draws.tuple (prog := X.prog) (w := X.w) (A := X.A.in1) (I.ok.hd hc) it a hia its.toArray
    have hlt : i < its.toArray.size := by
      rw [List.size_toArray]
      exact (List.getElem?_eq_some_iff.mp hu).1
    have hef : e ∉ [it, a] := fun z => by
      simp only [List.mem_cons, List.not_mem_nil, or_false] at z
      rcases z with z | z
      · exact hne z
      · exact hea z
    refine wpAny_pyNext_enum_itemC D he ⟨hit, p⟩ hlt hne hef fun x2 h' tk y2 ho hs hT hsz hk => ?_
    have ev : x2 = u := by
      have y3 : its[i]? = some x2 := by simpa using y2
      rw [hu] at y3
      exact (Option.some.inj y3).symm
    subst ev
    refine ⟨_, rfl, wpAny_letOwnedTupleGo_enum (s := { s with heap := h', toks := tk + 1 }) ho fun h'' he' sb => ?_⟩
    have hT2 : h''.get? s.heap.objs.size = some { cls := .type "tuple", data := .seq #[.int (k + (i : Nat)) tk, x2] } := (sb.2 _ (Nat.ne_of_gt hel)).trans hT
    have new : ObjOk X.prog X.w (upd H s.heap.objs.size (.tup [.int (k + (i : Nat)), x])) h'' s.heap.objs.size (.tup [.int (k + (i : Nat)), x]) :=
      ⟨by show 2 ≤ sizeLine; decide, [.int (k + (i : Nat)) tk, x2], .cons ⟨_, rfl⟩ (.cons ru .nil), ⟨_, hT2, rfl, _, rfl⟩⟩
    have I1 : Inv X pins σ (upd H s.heap.objs.size (.tup [.int (k + (i : Nat)), x])) { s with heap := h'', toks := tk + 1 } :=
      I.turnedNew (t' := tk + 1) (ch := [e, it]) (fun b ob hb q => (sb.2 b (fun z => hb (by simp [z]))).trans (hk b ob (fun z => hb (by simp [z])) (fun z => hb (by simp [z])) q)) hf (Nat.le_refl _) new
    refine ⟨.ref s.heap.objs.size, _, I1, rfl, ⟨_, x, rfl, I.hok.fresh (Nat.le_refl _), rfl, fun ys hy => by rw [I.tuple_inj hy hq]; exact hx⟩, ⟨?_, ⟨x2, ?_⟩, hs.1.at fun o q => (sb.2 it (Ne.symm hne)).trans q⟩, fun b hb => ?_⟩
    · rw [← hl]
      exact (List.getElem?_eq_some_iff.mp hx).1
    · have e1 : k + ((i + 1 : Nat) : Int) = k + ((i : Nat) : Int) + 1 := by omega
      rw [e1]
      exact he'
    · have hb' : b < s.heap.objs.size := by
        simp only [List.mem_cons, List.not_mem_nil, or_false] at hb
        rcases hb with z | z
        · rw [z]; exact hel
        · rw [z]; exact hil
      rw [upd_ne (Nat.ne_of_lt hb')]
      exact (hf b hb).1
  done := by
    intro X hP hw hK hc i pins s σ H E I hf st hg
    subst hP hw hK
    obtain ⟨hm, ⟨old, he⟩, hit⟩ := st
    obtain ⟨hend, xs, hq, hl⟩ := hg
    obtain ⟨its, rv, p, hz⟩ := I.tuple hq
    have l2 := rv.length
    have D := Draws.tuple (prog := X.prog) (w := X.w) (A := X.A.in1) (I.ok.hd hc) it a hia its.toArray
    have ei : i = its.toArray.size := by rw [List.size_toArray]; omega
    subst ei
    obtain ⟨f0, f1, f2, f3, f4, f5⟩ := hf it (by simp)
    exact wpAny_pyNext_enum_endD D he ⟨hit, p⟩ fun h' eb => ⟨rfl, I.turned (t' := s.toks) (fun b o hb q => eb b o hb q) f0 f1 f3 f4 f5⟩
  self := fun A i s Q E st h => by
    obtain ⟨_, ⟨_, he⟩, _⟩ := st
    exact wpAny_pyIter_enum he h
/-- enumerate(a tuple or a list) -/
def iEn (K : PySem.W.Frag) (ta : TA) : TI := fun σ H R => ta σ H fun vs H1 => ∃ a xs, vs = [.ref a] ∧ ((SqL K H1 a xs ∧ R (Ite K a) H1) ∨ (SqT K H1 a xs ∧ R (ItE K a 0 xs.length) H1))
section
variable {X : Cx} {pins : List (Addr × Obj)} {σ : L2.St} {H : Hp} {s : Shared}
theorem pi_enA {e : Expr} {ta : TA} {p pos tpos : Pos} {elts : List Expr} {kk : Nat} (hg : Gl X "enumerate") (hm : X.mg "enumerate" = none) (ha : PA X [e] ta) (hs : starEach [e] X.env = [(false, eval e X.env)] := by rfl) :
    PI X (.Tuple elts kk tpos) (.Call (.Name "enumerate" p) [e] [] pos) (iEn X.K ta) := by
  refine ⟨fun pins s σ H R I h => ?_⟩
  refine Call_ (ld_blt I hg hm boot_enumerate (PyProof.Rows.callWith_type1 (thn (ha.run pos pins s σ H _ I h) fun us s1 ⟨vs, H1, I1, r1, q1⟩ => ?_) hs rfl))
  obtain ⟨a, xs, ex, hq⟩ := q1
  subst ex
  obtain ⟨u, rfl, ru⟩ := vals1 r1
  cases (show u = Value.ref a from ru)
  have fresh : ∀ b ∈ [s1.heap.objs.size + 1, s1.heap.objs.size], FpOk X pins H1 b := fun b hb => by
    have hle : s1.heap.objs.size ≤ b := by
      simp only [List.mem_cons, List.not_mem_nil, or_false] at hb
      rcases hb with z | z
      · rw [z]; exact Nat.le_add_right _ _
      · rw [z]; exact Nat.le_refl _
    exact I1.fpOk hle (I1.hok.fresh hle)
  rcases hq with ⟨hq, q⟩ | ⟨hq, q⟩
  · obtain ⟨its, rv, p', hz⟩ := I1.list hq
    refine call_enumerate_list p'.isList fun h' he hit hsz hk => wpAny_pyIter_enum he ?_
    have I2 : Inv X pins σ H1 { s1 with heap := h' } := I1.kept (t' := s1.toks) hk
    exact ⟨s1.heap.objs.size + 1, [s1.heap.objs.size + 1, s1.heap.objs.size], _, _, H1, rfl, I2, turn_enum a (s1.heap.objs.size + 1) s1.heap.objs.size, ⟨⟨.none, he⟩, hit, Nat.succ_ne_self _⟩, fresh, q⟩
  · obtain ⟨its, rv, p', hz⟩ := I1.tuple hq
    have hal : a < s1.heap.objs.size := by
      obtain ⟨o, ho, _⟩ := id p'
      exact Heap.lt_size ho
    refine call_enT (show s1.heap.IsTuple a its.toArray from p') fun h' he hit hk => wpAny_pyIter_enum he ?_
    have I2 : Inv X pins σ H1 { s1 with heap := h' } := I1.kept (t' := s1.toks) hk
    refine ⟨s1.heap.objs.size + 1, [s1.heap.objs.size + 1, s1.heap.objs.size], _, _, H1, rfl, I2, turn_en (Nat.succ_ne_self _) (Nat.ne_of_gt (Nat.lt_succ_of_lt hal)) (Nat.ne_of_lt hal), ⟨Nat.zero_le _, ⟨.none, he⟩, hit⟩, fresh, q⟩
end
end Br

/-! BrM2: (x, ..) * 0 and * 1; enumerate with start=; calls by names alone. -/
namespace BrEn
open PySem PySem.Spec PyProof.Rows Builtin Builtin.SmallTypes
open AutoSeq1 (wpAny_loadPart')
theorem meets_mul1 (l : Addr) (xs : Array Value) (n : Nat) (dd : Option Addr) (sl : Array (Option Value)) (u : Tok) :
    Meets (Builtin.«tuple.__mul__» ⟨[.ref l, .int 1 u], []⟩) (fun _ R s => s.heap.get? l = some { cls := .type "tuple", dict := dd, data := .seq xs n, slots := sl } ∧ R (.ok (.ret (Value.ref l))) s) :=
  .of_wp fun prog w A R s h => by
    obtain ⟨hp, g, d, tk, os⟩ := s
    obtain ⟨hl, h⟩ := h
    have k1 := AutoSeq1.idx_int
    have k2 := AutoSeq1.sub_tuple_tuple
    wp_walk using wpAny_loadPart' hl
    exact ⟨_, rfl, h⟩
theorem meets_mul0 (l : Addr) (xs : Array Value) (n : Nat) (dd : Option Addr) (sl : Array (Option Value)) (u : Tok) (hx : xs.isEmpty = false) :
    Meets (Builtin.«tuple.__mul__» ⟨[.ref l, .int 0 u], []⟩) (fun _ R s => s.heap.get? l = some { cls := .type "tuple", dict := dd, data := .seq xs n, slots := sl } ∧
      R (.ok (.ret (Value.ref s.heap.objs.size))) { s with heap := s.heap.push { cls := Value.type "tuple", data := Data.seq #[] }, toks := s.toks }) :=
  .of_wp fun prog w A R s h => by
    obtain ⟨hp, g, d, tk, os⟩ := s
    obtain ⟨hl, h⟩ := h
    have k1 := AutoSeq1.idx_int
    have k2 := AutoSeq1.sub_tuple_tuple
    wp_walk using wpAny_loadPart' hl
    exact ⟨_, rfl, h⟩
end BrEn
namespace Br
open PySem PySem.Spec PyProof.Rows L2 BrEn
/-- (x, ..) * 0, * 1 -/
def rMul01 (K : PySem.W.Frag) : R2 := fun x y H Q => ∃ (a : Addr) (xs : List V) (b : Bool), x = .ref a ∧ y = .int (if b = true then 1 else 0) ∧ SqT K H a xs ∧ xs ≠ [] ∧ (b = true → Q (.ref a) H) ∧ (b = false → ∀ p, H p = none → Q (.ref p) (upd H p (.tup [])))
section
variable {X : Cx}
theorem op_mul01 : OpR X (binaryOp .Mult) (rMul01 X.K) := by
  intro pins s σ H x y v u Q I rx ry h
  obtain ⟨l, xs, b, rfl, rfl, hT, hne, q1, q0⟩ := h
  cases (show v = Value.ref l from rx)
  obtain ⟨t, rfl⟩ := ry
  obtain ⟨its, r, ⟨⟨cls, dd, data, sl⟩, ho, hc, n, hd⟩, hs⟩ := I.tuple hT
  simp only at hc hd
  subst hc hd
  have hi : its.toArray.isEmpty = false := by
    cases r with
    | nil => exact absurd rfl hne
    | cons _ _ => rfl
  cases b with
  | true =>
    exact wpAny_binaryOp_repeat_ref (T := "tuple") (U := "int") (by decide) ⟨_, ho, rfl⟩ (fun s' => typeIs_int s' 1 t) noFill_tuple_mul F.fills_int_mul F.slot_int_rmul repeat_tuple F.slot_int_index.lookup
      (call_meets F.slot_int_rmul (typeIs_int s 1 t) F.entry_int_rmul (F.args_int_rmul_2 _ _) (int_rmul_tuple 1 t l its.toArray n dd sl)
        ⟨ho, rfl, ⟨_, ho, rfl⟩, call_meets F.slot_tuple_mul ⟨_, ho, rfl⟩ F.entry_tuple_mul (F.args_tuple_mul_2 _ _) (meets_mul1 l its.toArray n dd sl t) ⟨ho, .ref l, H, I, rfl, q1 rfl⟩⟩)
  | false =>
    refine wpAny_binaryOp_repeat_ref (T := "tuple") (U := "int") (by decide) ⟨_, ho, rfl⟩ (fun s' => typeIs_int s' 0 t) noFill_tuple_mul F.fills_int_mul F.slot_int_rmul repeat_tuple F.slot_int_index.lookup
      (call_meets F.slot_int_rmul (typeIs_int s 0 t) F.entry_int_rmul (F.args_int_rmul_2 _ _) (int_rmul_tuple 0 t l its.toArray n dd sl)
        ⟨ho, rfl, ⟨_, ho, rfl⟩, call_meets F.slot_tuple_mul ⟨_, ho, rfl⟩ F.entry_tuple_mul (F.args_tuple_mul_2 _ _) (meets_mul0 l its.toArray n dd sl t hi) ⟨ho, ?_⟩⟩)
    refine ⟨.ref s.heap.objs.size, _, I.laid (t' := s.toks) (o := .tup []) (fun b ob z => Heap.get?_push_of_some _ z) (Nat.le_refl _) ?_, rfl, q0 rfl _ (I.hok.fresh (Nat.le_refl _))⟩
    exact ⟨Nat.zero_le _, [], .nil, IsTup.new _ _⟩
/-! ### a call by names alone -/
section
variable {CX : CXT} {k : Nat} {f : Addr} {fd : FuncData} {ps ks : List Str} {sp : Sp} {E : XK} {x : Str} {p pos : Pos} {kws : List Keyword} {tk : TA} {g : List Value → List Value → List Value} {gV : List V → List V → List V}
/-- f(k = v, ..) -/
theorem pe_callN0 (F : FnOk X.prog X.w X.K X.mg X.base CX k f fd ps sp) (hr : Room k X.A) (hg : Gl X x) (hm : X.mg x = some (.ref f)) (hk : PySem.W.keepIn X.K (.ref f) = true) (hb : KBn X.K fd ps 0 ks g gV) (hx : Passes CX X E) (hkw : PK X kws tk)
    (hall : (backToKw pos (keywordEach kws X.env)).all (·.1.isSome) = true := by rfl) (hks : (backToKw pos (keywordEach kws X.env)).filterMap (·.1) = ks := by rfl) (hdb : (x == ("__debug__" : Str)) = false := by decide)
    (hpl : ((backTo pos (starEach [] X.env)).any (·.1) || (backToKw pos (keywordEach kws X.env)).any (·.1.isNone)) = false := by rfl) :
    PE X (.Call (.Name x p) [] kws pos) (tCallN 0 ks.length sp gV E tNil tk) := by
  refine ⟨fun pins s σ H Q I h => wpAny_Call_Name_kw (ld_glob I hg hm ?_ hdb)⟩
  refine PySem.W.callWith_KW0 (h₀ := X.base) I.ok.mod.kin hk hall ?_ hpl
  refine thn (hkw.run pos pins s σ H _ I h) fun ws s2 ⟨zs, H2, I2, rz, l1, l2, q2⟩ => ⟨I2.kIn, ?_⟩
  rw [hks]
  exact run_fnN (us := []) (vs := []) F hr hb hx I2 .nil rz rfl l2 q2
end
/-! ### enumerate(t, start=k) -/
/-- enumerate(a tuple, start=k) -/
def iEnS (K : PySem.W.Frag) (ta tk : TA) : TI := fun σ H R => ta σ H fun vs H1 => tk σ H1 fun zs H2 => ∃ a xs, ∃ k : Int, vs = [.ref a] ∧ zs = [.int k] ∧ (-(2 ^ 63) ≤ k ∧ k < 2 ^ 63) ∧ SqT K H2 a xs ∧ R (ItE K a k xs.length) H2
section
variable {M : Model} {A : Around} {E : Value → Shared → Prop} {s : Shared}
theorem callWith_tyK {pos : Pos} {T : String} {first : List Value} {args : List (Bool × Sem Value)} {kws : List (Option Str × Sem Value)} {Q : Value → Shared → Prop} (h1 : args.any (·.1) = false) (h2 : kws.any (·.1.isNone) = false)
    (h : wpAny M A (evalArgs (.type T) true args kws) (fun a s₁ => wpAny M A (call (.type T) (first ++ a.pos) a.kw) Q E s₁) E s) : wpAny M A (callWith pos (.type T) first args kws) Q E s := by
  unfold callWith
  refine wpAny_bind (wpAny_holding (wpAny_mono h (fun a s₁ h₁ => wpAny_bind (wpAny_standAt ?_)) fun _ _ z => z))
  simp only [h1, h2, Bool.or_false]
  refine wpAny_bind (wpAny_pure ?_)
  exact wpAny_bind (wpAny_mono h₁ (fun r s₂ z => wpAny_bind (wpAny_holding (wpAny_point (wpAny_pure z)))) fun _ _ z => z)
end
theorem pi_enS {e ek : Expr} {ta tk : TA} {p pos tpos kp : Pos} {elts : List Expr} {kk : Nat} (hg : Gl X "enumerate") (hm : X.mg "enumerate" = none) (ha : PA X [e] ta) (hkw : PK X [⟨some "start", ek, kp⟩] tk)
    (hall : (backToKw pos (keywordEach [⟨some "start", ek, kp⟩] X.env)).all (·.1.isSome) = true := by rfl) (hno : (backToKw pos (keywordEach [⟨some "start", ek, kp⟩] X.env)).any (·.1.isNone) = false := by rfl)
    (hks : (backToKw pos (keywordEach [⟨some "start", ek, kp⟩] X.env)).filterMap (·.1) = ([("start" : Str)] : List Str) := by rfl)
    (hs : starEach [e] X.env = (false, eval e X.env) :: starEach [] X.env := by rfl) (hpl : (backTo pos (starEach [e] X.env)).any (·.1) = false := by rfl) :
    PI X (.Tuple elts kk tpos) (.Call (.Name "enumerate" p) [e] [⟨some "start", ek, kp⟩] pos) (iEnS X.K ta tk) := by
  refine ⟨fun pins s σ H R I h => ?_⟩
  refine wpAny_Call_Name_kw (ld_blt I hg hm boot_enumerate (callWith_tyK hpl hno (evalArgs_kw2 hall (thn (ha.run pos pins s σ H _ I h) fun us s1 ⟨vs, H1, I1, r1, q1⟩ => ?_) hs)))
  refine thn (hkw.run pos pins s1 σ H1 _ I1 q1) fun ws s2 ⟨zs, H2, I2, rz, a, xs, k, e1, e2, hb, hq, q⟩ => ?_
  subst e1
  subst e2
  obtain ⟨u, rfl, ru⟩ := vals1 r1
  obtain ⟨z, rfl, rv⟩ := vals1 rz
  cases (show u = Value.ref a from ru)
  obtain ⟨t, rfl⟩ := rv
  rw [hks]
  obtain ⟨its, rr, p', hz⟩ := I2.tuple hq
  have hal : a < s2.heap.objs.size := by
    obtain ⟨o, ho, _⟩ := id p'
    exact Heap.lt_size ho
  refine enum_begins_start (begins_tuple a its.toArray) (show s2.heap.IsTuple a its.toArray from p') hb.1 hb.2 fun h' he hit hsz hk => wpAny_pyIter_enum he ?_
  have I3 : Inv X pins σ H2 { s2 with heap := h' } := I2.kept (t' := s2.toks) hk
  refine ⟨s2.heap.objs.size + 1, [s2.heap.objs.size + 1, s2.heap.objs.size], _, _, H2, rfl, I3, turn_en (Nat.succ_ne_self _) (Nat.ne_of_gt (Nat.lt_succ_of_lt hal)) (Nat.ne_of_lt hal), ⟨Nat.zero_le _, ⟨.none, ?_⟩, ⟨_, hit, rfl, rfl⟩⟩, fun b hm2 => ?_, q⟩
  · rw [show k + ((0 : Nat) : Int) = k by omega]
    exact he
  · have hle : s2.heap.objs.size ≤ b := by
      simp only [List.mem_cons, List.not_mem_nil, or_false] at hm2
      rcases hm2 with z | z
      · rw [z]; exact Nat.le_add_right _ _
      · rw [z]; exact Nat.le_refl _
    exact I2.fpOk hle (I2.hok.fresh hle)
end
end Br

/-! BrI: instances of the text's own classes: made, filled, read, told apart by their own ==. -/
namespace Br
open PySem PySem.Spec PyProof.Rows L2
/-! ### fields -/
def putFD (f : Str) (v : D) : List (Str × D) → List (Str × D)
  | [] => [(f, v)]
  | (g, x) :: r => if g = f then (g, v) :: r else (g, x) :: putFD f v r
section
variable {K : PySem.W.Frag} {as : List Addr} {H : Hp} {X : Xc} {S : Sa} {os : Os} {Q : Sv → Os → Prop} {te ta tv : TE} {E : Ea}
theorem DxF.put {f : Str} {u : V} {z : D} (h : Dx K as H u z) : ∀ {vs : List (Str × V)} {ds : List (Str × D)}, DxF K as H vs ds → DxF K as H (putF f u vs) (putFD f z ds)
  | _, _, .nil => .cons h .nil
  | _, _, .cons (k := k) h2 r => by
    unfold putF putFD
    by_cases e : k = f
    · rw [if_pos e, if_pos e]
      exact .cons h r
    · rw [if_neg e, if_neg e]
      exact .cons h2 (DxF.put h r)
theorem DxF.length : ∀ {vs : List (Str × V)} {ds : List (Str × D)}, DxF K as H vs ds → vs.length = ds.length
  | _, _, .nil => rfl
  | _, _, .cons _ r => by rw [List.length_cons, List.length_cons, DxF.length r]
/-- e.f -/
theorem ew_fld {f : Str} (h : EW K X te S fun x os => ∃ C fds d, x = .d (.ob C fds) ∧ Cls K C ∧ NoAttr K C f ∧ lookF fds f = some d ∧ Q (.d d) os) : EW K X (tFld K te f) S Q := fun as H σ Q' R x k =>
  h as H σ _ R x fun v H1 d os1 g1 R1 r1 ⟨C, fds, z, ed, c, n, el, q⟩ => by
    subst ed
    cases r1 with
    | ob n1 n2 h1 h2 hr =>
      obtain ⟨u, e1, e2⟩ := dxf_look hr el
      exact ⟨_, C, _, _, u, rfl, h1, c, n, e1, k u H1 (.d z) os1 g1 R1 e2 q⟩
theorem ew_fldO {f : Str} (h : EW K X te S fun x os => ∃ j C fds d, x = .o j ∧ os[j]? = some (.mi C fds) ∧ Cls K C ∧ NoAttr K C f ∧ lookF fds f = some d ∧ Q (.d d) os) : EW K X (tFld K te f) S Q := fun as H σ Q' R x k =>
  h as H σ _ R x fun v H1 d os1 g1 R1 r1 ⟨j, C, fds, z, ed, eo, c, n, el, q⟩ => by
    subst ed
    obtain ⟨a, ea, rfl⟩ := r1
    obtain ⟨dx, vs, h1, h2, h3, h4⟩ := R1.own j a _ ea eo
    obtain ⟨u, e1, e2⟩ := dxf_look h4 el
    exact ⟨a, C, dx, vs, u, rfl, h1, c, n, e1, k u H1 (.d z) os1 g1 R1 e2 q⟩
/-- self.f = e -/
theorem w_fld {f : Str} (h : EW K X tv S fun y os1 => EW K X ta ⟨S.s, os1⟩ fun x os2 => ∃ j C fds d, y = .d d ∧ x = .o j ∧ os2[j]? = some (.mi C fds) ∧ Cls K C ∧ NoAttr K C f ∧ fds.length < 1000 ∧ E.nx ⟨S.s, os2.set j (.mi C (putFD f d fds))⟩) :
    W K X (sFld K ta tv f) E S := fun as H σ D R x n r b c =>
  h as H σ _ R (x.h R) fun v H1 d os1 g1 R1 r1 q1 => q1 as H1 σ _ (R.go g1 R1) ((x.h R).go g1 R1) fun u H2 e os2 g2 R2 r2 ⟨j, C, fds, z, ed, ee, eo, hc, hn, hl, q⟩ => by
    subst ed
    subst ee
    obtain ⟨a, ea, rfl⟩ := r2
    obtain ⟨dx, vs, h1, h2, h3, h4⟩ := R2.own j a _ ea eo
    have hm : a ∈ as := List.mem_of_getElem? ea
    have rz : Dx K as H2 v z := (r1.go g2 : SvR K as H2 v (.d z))
    have g3 : Go as H2 (upd H2 a (.ins C dx (putF f v vs))) := Go.at hm
    have hd : dx ≠ a := fun z => h2 (z ▸ hm)
    have R3 : Ro K as (upd H2 a (.ins C dx (putF f v vs))) (os2.set j (.mi C (putFD f z fds))) := ro_set R2 ea ⟨dx, _, upd_same, h2, by rw [upd_ne hd]; exact h3, DxF.way (Way.of_go g3) (h4.put rz)⟩
    have g4 : Go as H (upd H2 a (.ins C dx (putF f v vs))) := (g1.trans g2).trans g3
    exact ⟨a, C, dx, vs, rfl, h1, hc, hn, by rw [h4.length]; exact hl, n as _ σ _ (Stp.of_go g4 R3) (R.go g4 R3) q⟩
/-- a new instance of the store -/
theorem ro_addI {C x dx : Addr} (R : Ro K as H os) (hx : H x = none) (hd : H dx = none) (hne : dx ≠ x) : Ro K (as ++ [x]) (upd (upd H dx (.own x)) x (.ins C dx [])) (os ++ [.mi C []]) := by
  have R1 : Ro K as (upd H dx (.own x)) os := R.new hd
  have hx1 : upd H dx (.own x) x = none := by rw [upd_ne (Ne.symm hne)]; exact hx
  have R0 := ro_add R1 hx1
  have hpos : (as ++ [x])[as.length]? = some x := by simp
  have hdn : dx ∉ as ++ [x] := fun z => by
    rcases List.mem_append.mp z with z | z
    · exact R.notin hd z
    · exact hne (List.mem_singleton.mp z)
  have z := ro_set (o := .ins C dx []) (ob := .mi C []) R0 hpos ⟨dx, [], upd_same, hdn, by rw [upd_ne hne, upd_ne hne]; exact upd_same, .nil⟩
  rw [upd_upd, R1.len, List.set_append_right _ _ (Nat.le_refl _)] at z
  simpa using z
/-- C(..): its __init__ by a promise over data -/
theorem ew_make {C : Addr} {f : FD} {dvs : List V} {dds : List Sv} {E : XK} {t : TA} (hd : ∀ as H, SvA K as H dvs dds)
    (h : AW K X t S fun ds os => f (.o os.length :: (ds ++ dds)) (os ++ [.mi C []]) (fun d os' => d = .non ∧ ∃ os2 fds, os' = os2 ++ [.mi C fds] ∧ Q (.d (.ob C fds)) os2) fun _ _ _ => False) : EW K X (tMake C (spD K f) dvs E t) S Q := fun as H σ Q' R x k =>
  h as H σ _ R x fun vs H1 ds os1 g1 R1 r1 q1 x0 dx hx hdx hne => by
    have R2 := ro_addI (C := C) R1 hx hdx hne
    have g2 : Go as H1 (upd (upd H1 dx (.own x0)) x0 (.ins C dx [])) := (Go.new hdx).trans (Go.new (by rw [upd_ne (Ne.symm hne)]; exact hx))
    have s2 : Stp as H1 (as ++ [x0]) (upd (upd H1 dx (.own x0)) x0 (.ins C dx [])) := ⟨⟨[x0], rfl, fun a ha => by rw [List.mem_singleton.mp ha]; exact hx⟩, g2, fun a ha => by
      by_cases e1 : a = x0
      · rw [e1]; exact hx
      · rw [upd_ne e1] at ha
        by_cases e2 : a = dx
        · rw [e2]; exact hdx
        · rw [upd_ne e2] at ha
          exact ha⟩
    have rs : ∀ {us : List V} {es : List Sv}, SvA K as H1 us es → SvA K (as ++ [x0]) (upd (upd H1 dx (.own x0)) x0 (.ins C dx [])) us es := fun {us es} r => by
      induction r with
      | nil => exact .nil
      | cons h _ ih => exact .cons (h.stp s2) ih
    have happ : ∀ {us ws : List V} {es fs : List Sv} {as' : List Addr} {H' : Hp}, SvA K as' H' us es → SvA K as' H' ws fs → SvA K as' H' (us ++ ws) (es ++ fs) := fun {us ws es fs as' H'} a b => by
      induction a with
      | nil => exact b
      | cons h _ ih => exact .cons h ih
    refine ⟨as ++ [x0], os1 ++ [.mi C []], .o os1.length :: (ds ++ dds), _, _, R2, .cons ⟨x0, by rw [← R1.len]; simp, rfl⟩ (happ (rs r1) (hd _ _)), q1, fun v H' d os' g3 R3 r3 ⟨ed, os2, fds, eo, q⟩ => ?_, fun _ _ _ _ _ _ _ _ _ _ _ z => z.elim⟩
    subst ed
    subst eo
    cases r3
    obtain ⟨Rf, ⟨dx', vs', h1, h2, h3, h4⟩, nin⟩ := ro_drop R3
    have g5 : Go as H1 H' := fun a o e n => g3 a o (g2 a o e n) fun z => by
      rcases List.mem_append.mp z with z | z
      · exact n z
      · rw [List.mem_singleton.mp z, hx] at e
        cases e
    exact ⟨rfl, k (.ref x0) H' (.d (.ob C fds)) os2 (g1.trans g5) Rf (Dx.ob nin h2 h1 h3 h4) q⟩
end
/-! ### != by the own == -/
def strKeysB (es : Array DictEntry) : Bool := es.toList.all fun e => match e.key with
  | .str _ _ => true
  | _ => false
theorem strKeys_of {es : Array DictEntry} (h : strKeysB es = true) : StrKeys es := fun e he => by
  have z := List.all_eq_true.mp h e (Array.mem_toList_iff.mpr he)
  obtain ⟨hs, k, v⟩ := e
  cases k <;> first | exact ⟨_, _, rfl⟩ | cases z
/-- the class at C, without a base, with an own == and no own != -/
structure EqC (K : PySem.W.Frag) (C f : Addr) : Prop where
  cls : ∃ nm q N bs hdct sn sub ab col dd k0 k1 k2 k3 k5 newId, K.lookup C = some (excClassObj nm q C N bs [.type "object"] hdct sn sub ab col dd k0 k1 k2 k3 k5 newId) ∧
    (∃ oc od es ep sl, K.lookup N = some ⟨oc, od, .dict es ep, sl⟩ ∧ strKeysB es = true) ∧ PySem.W.nsIn K N "__eq__" = some (some (.ref f)) ∧ PySem.W.nsIn K N "__ne__" = some none
def rNeIns (K : PySem.W.Frag) (C : Addr) (sp : Sp) : R2 := fun x y H Q => ∃ a b dx dy fs gs, x = .ref a ∧ y = .ref b ∧ H a = some (.ins C dx fs) ∧ H b = some (.ins C dy gs) ∧
  sp [.ref a, .ref b] H (fun v H' => ∃ r, v = .bl r ∧ Q (.bl (!r)) H') fun _ _ _ => False
theorem ns_find {K : PySem.W.Frag} {N : Addr} {n : Str} {r : Option Value} {oc : Value} {od : Option Addr} {es : Array DictEntry} {ep : Nat} {sl : Array (Option Value)} (hl : K.lookup N = some ⟨oc, od, .dict es ep, sl⟩) (h : PySem.W.nsIn K N n = some r) : nsFind es n = r := by
  unfold PySem.W.nsIn at h
  rw [hl] at h
  dsimp only at h
  unfold nsFind findBy
  rw [← Array.find?_toList]
  split at h
  · rename_i en he
    cases h
    rw [he]
    rfl
  · rename_i he
    split at h
    · cases h
    · cases h
      rw [he]
      rfl
section
variable {X : Cx} {C f : Addr} {fd : FuncData} {k : Nat} {sp : Sp}
theorem op_neIns (T : EqC X.K C f) (tf : PySem.W.typeIn X.K (.ref f) = some (.type "function")) (G : FnOk X.prog X.w X.K X.mg X.base CX0 k f fd ["self", "other"] sp) (hb : Binds X.K fd ["self", "other"] []) (hr : Room (k + 1) X.A) : OpR X (compareOp .NotEq) (rNeIns X.K C sp) := by
  intro pins s σ H x y v u Q I rx ry h
  obtain ⟨a, b, dx, dy, fs, gs, rfl, rfl, ha, hb', hs⟩ := h
  cases (show v = Value.ref a from rx)
  cases (show u = Value.ref b from ry)
  obtain ⟨mA, J, _⟩ := ins_get I.hok ha
  obtain ⟨mB, J', _⟩ := ins_get I.hok hb'
  obtain ⟨oa, Ja, _⟩ := J.look
  obtain ⟨ob, Jb, _⟩ := J'.look
  obtain ⟨nm, q, N, bs, hdct, sn, sub, ab, col, dd, k0, k1, k2, k3, k5, newId, hC, ⟨oc, od, es, ep, sl, hN, hk⟩, hq, hne⟩ := T.cls
  obtain ⟨of, hof, hft⟩ := Option.map_eq_some_iff.mp (show (X.K.lookup f).map (·.cls) = some (.type "function") from tf)
  have hn : s.heap.Ns N (nsFind es) := ⟨_, es, ep, I.kIn _ _ hN, rfl, strKeys_of hk, fun _ => rfl⟩
  obtain ⟨hp, g, d, tk, os⟩ := s
  obtain ⟨ea, ca, _, _⟩ := Ja
  obtain ⟨eb, cb, _, _⟩ := Jb
  have XX : hp.OwnEqNoNe a C f "object" [.type "object"] := by
    refine ⟨_, of, nm, q, N, bs, hdct, sn, sub, ab, col, dd, k0, k1, k2, k3, k5, newId, nsFind es, _, ea, ca, I.kIn _ _ hC, hn, ns_find hN hq, I.kIn _ _ hof, hft, F.cmp_object.mro, F.cmp_object.eq.lookup, ns_find hN hne⟩
  have hu : X.A.units + 1 < cLine := by
    have := hr.un
    omega
  have e0 : Env0 X.prog X.w X.K X.mg X.base X.A.in1 X.stack ⟨hp, g, d, tk, os⟩ H := by
    have e := I.env0
    exact ⟨e.frames, e.mod, e.bs, e.bsz, e.funs, e.frf, e.hok, e.bare⟩
  have r2 : Vals [V.ref a, V.ref b] [Value.ref a, Value.ref b] := .cons rfl (.cons rfl .nil)
  refine compareOp_ne_ownEq F.cmp_object XX eb cb hu (wpAny_call (codeAny_mono (G.run X.A.in1 X.stack ⟨hp, g, d, tk, os⟩ H ⟨[.ref a, .ref b], []⟩ [.ref a, .ref b] [.ref a, .ref b] _ _ hr.in1 e0 (by
    have z := hb ⟨hp, g, d, tk, os⟩ [.ref a, .ref b] I.kIn rfl
    simpa using z) r2 hs) fun r s' hq2 => ?_))
  cases r with
  | error e => exact hq2.elim
  | ok fl =>
    cases fl with
    | ret w =>
      obtain ⟨z, H', I', rz, c, ez, q2⟩ := I.after hq2
      subst ez
      cases rz
      exact ⟨c, rfl, .bl (!c), H', I', rfl, q2⟩
    | next => exact False.elim hq2
    | brk => exact False.elim hq2
    | cont => exact False.elim hq2
end
end Br

/-! BrJ: wishes over data for BrL to BrI. -/
namespace Br
open PySem PySem.Spec PyProof.Rows L2
section
variable {K : PySem.W.Frag} {as : List Addr} {H : Hp} {X : Xc} {S : Sa} {os : Os} {Q : Sv → Os → Prop} {te ta tb to : TE} {tl tk : TA} {E : Ea}
theorem ew_revT (h : EW K X te S fun x os => ∃ xs, x = .d (.tup xs) ∧ Q (.d (.tup xs.reverse)) os) : EW K X (tRevT K te) S Q := fun as H σ Q' R x k =>
  h as H σ _ R x fun v H1 d os1 g1 R1 r1 ⟨xs, e, q⟩ => by
    subst e
    cases r1 with
    | tup hl hr => exact ⟨_, _, rfl, hl.sq, fun p hp => k (.ref p) _ (.d (.tup xs.reverse)) os1 (g1.trans (Go.new hp)) (R1.new hp) (dx_newT R1 hp hr.rev) q⟩
/-- l.extend(t) -/
theorem ew_ext (h : EW K X to S fun x os1 => ∃ k xs1, x = .o k ∧ os1[k]? = some (.ml xs1) ∧ EW K X te ⟨S.s, os1⟩ fun y os2 => ∃ ys xs, y = .d (.tup ys) ∧ os2[k]? = some (.ml xs) ∧ xs.length + ys.length ≤ sizeLine ∧ Q (.d .non) (os2.set k (.ml (xs ++ ys)))) :
    EW K X (tBM K "list" (rExt K) to (tCons te tNil)) S Q := fun as H σ Q' R x k =>
  h as H σ _ R x fun v H1 d os1 g1 R1 r1 ⟨j, xs1, ed, eo1, h2⟩ => by
    subst ed
    obtain ⟨a, ea, rfl⟩ := r1
    refine ⟨?_, h2 as H1 σ _ (R.go g1 R1) (x.go g1 R1) fun u H2 e os2 g2 R2 r2 ⟨ys, xs, ey, eo, hl, q⟩ => ?_⟩
    · obtain ⟨ws, q1, _⟩ := R1.own j a _ ea eo1
      exact .inl ⟨rfl, ws, .inl (.inl q1)⟩
    · subst ey
      obtain ⟨vs, h1, h3⟩ := R2.own j a _ ea eo
      have hm : a ∈ as := List.mem_of_getElem? ea
      cases (show Dx K as H2 u (.tup ys) from r2) with
      | @tup b ws _ hq hr =>
        have g3 : Go as H2 (upd H2 a (.lst (vs ++ ws))) := Go.at hm
        have R3 : Ro K as (upd H2 a (.lst (vs ++ ws))) (os2.set j (.ml (xs ++ ys))) := ro_set R2 ea ⟨_, upd_same, DxA.way (Way.of_go g3) (DxA.app h3 hr)⟩
        exact ⟨a, b, vs, ws, rfl, rfl, h1, hq.sq, by rw [h3.length, hr.length]; exact hl, k .non _ (.d .non) _ ((g1.trans g2).trans g3) R3 Dx.non q⟩
/-- l.pop() -/
theorem ew_pop0 (h : EW K X to S fun x os1 => ∃ k xs z, x = .o k ∧ os1[k]? = some (.ml (xs ++ [z])) ∧ Q (.d z) (os1.set k (.ml xs))) : EW K X (tBM0 K "list" rPop to) S Q := fun as H σ Q' R x k =>
  h as H σ _ R x fun v H1 d os1 g1 R1 r1 ⟨j, xs, z, ed, eo, q⟩ => by
    subst ed
    obtain ⟨a, ea, rfl⟩ := r1
    obtain ⟨vs, h1, h3⟩ := R1.own j a _ ea eo
    have hm : a ∈ as := List.mem_of_getElem? ea
    have hlen := h3.length
    rw [List.length_append] at hlen
    have hlast : (xs ++ [z])[xs.length]? = some z := by simp
    obtain ⟨u, e1, e2⟩ := h3.get hlast
    have hl1 : vs.length = xs.length + 1 := by simpa using hlen
    have hdrop : vs.dropLast = vs.take xs.length := by rw [List.dropLast_eq_take, hl1]; rfl
    have hds : DxA K as H1 vs.dropLast xs := by
      have t := h3.take xs.length
      rw [List.take_left' rfl] at t
      rw [hdrop]
      exact t
    have g3 : Go as H1 (upd H1 a (.lst vs.dropLast)) := Go.at hm
    have R3 : Ro K as (upd H1 a (.lst vs.dropLast)) (os1.set j (.ml xs)) := ro_set R1 ea ⟨_, upd_same, DxA.way (Way.of_go g3) hds⟩
    refine ⟨.inl ⟨rfl, vs, .inl (.inl h1)⟩, a, vs, u, rfl, rfl, h1, ?_, k u _ (.d z) _ (g1.trans g3) R3 (e2.way (Way.of_go g3)) q⟩
    rw [hl1]
    exact e1
/-- (x, ..) * 0, * 1 -/
theorem bw_mul01 {xs : List D} {b : Bool} (hne : xs ≠ []) (q : Q (.d (.tup (if b = true then xs else []))) os) : BW K (rMul01 K) (.d (.tup xs)) (.d (.int (if b = true then 1 else 0))) os Q := fun as H v u Q' R rx ry k => by
  cases ry
  cases (show Dx K as H v (.tup xs) from rx) with
  | @tup a ws _ hl hr =>
    refine ⟨a, ws, b, rfl, rfl, hl.sq, fun z => hne ?_, fun hb => ?_, fun hb p hp => ?_⟩
    · subst z
      cases hr
      rfl
    · subst hb
      exact k (.ref a) H (.d (.tup xs)) os (Go.refl _ _) R (Dx.tup hl hr) q
    · subst hb
      exact k (.ref p) _ (.d (.tup [])) os (Go.new hp) (R.new hp) (dx_newT R hp .nil) q
/-- != by the own == -/
theorem bw_neIns {C : Addr} {f : FD} {fs gs : List (Str × D)} (h : f [.d (.ob C fs), .d (.ob C gs)] os (fun d os' => ∃ r, d = .bl r ∧ Q (.d (.bl (!r))) os') fun _ _ _ => False) : BW K (rNeIns K C (spD K f)) (.d (.ob C fs)) (.d (.ob C gs)) os Q := fun as H v u Q' R rx ry k => by
  have rx' : Dx K as H v (.ob C fs) := rx
  have ry' : Dx K as H u (.ob C gs) := ry
  cases rx' with
  | ob n1 n2 h1 h2 hr =>
    cases ry' with
    | ob m1 m2 h3 h4 hs =>
      refine ⟨_, _, _, _, _, _, rfl, rfl, h1, h3, as, os, _, _, _, R, .cons (show SvR K as H _ (.d _) from Dx.ob n1 n2 h1 h2 hr) (.cons (show SvR K as H _ (.d _) from Dx.ob m1 m2 h3 h4 hs) .nil), h, fun w H' d os' g R' r' ⟨c, ec, q⟩ => ?_, fun _ _ _ _ _ _ _ _ _ _ _ z => z.elim⟩
      subst ec
      cases r'
      exact ⟨c, rfl, k _ H' (.d (.bl (!c))) os' g R' (Dx.bl _) q⟩
/-- numbered from k on -/
def enumD (k : Int) (ds : List D) : List D := (List.range ds.length).map fun i => .tup [.int (k + (i : Nat)), (ds[i]?).getD .non]
theorem enumD_len {k : Int} {ds : List D} : (enumD k ds).length = ds.length := by unfold enumD; simp
theorem enumD_get {k : Int} {ds : List D} {i : Nat} {d : D} (h : (enumD k ds)[i]? = some d) : ∃ x, ds[i]? = some x ∧ d = .tup [.int (k + (i : Nat)), x] := by
  unfold enumD at h
  rw [List.getElem?_map] at h
  obtain ⟨j, h1, h2⟩ := Option.map_eq_some_iff.mp h
  obtain ⟨h3, h4⟩ := List.getElem?_eq_some_iff.mp h1
  rw [List.getElem_range] at h4
  rw [List.length_range] at h3
  subst h4
  exact ⟨ds[i], List.getElem?_eq_getElem h3, by rw [← h2, List.getElem?_eq_getElem h3]; rfl⟩
theorem itE_d {a : Addr} {k : Int} {ws : List V} {ds : List D} (hl : QT K as H a ws) (hr : DxA K as H ws ds) : ItD K (ItE K a k ws.length) as H (enumD k ds) := fun bs H2 os s R2 i => by
  have hl2 := s.way.t _ _ hl
  have hr2 := hr.way s.way
  refine ⟨fun d hd => ?_, fun hn => ⟨by rw [hr.length]; rw [enumD_len] at hn; exact hn, ws, hl2.sq, rfl⟩⟩
  obtain ⟨x, hx, rfl⟩ := enumD_get hd
  obtain ⟨u, e1, e2⟩ := hr2.get hx
  refine ⟨⟨ws, u, hl2.sq, rfl, e1⟩, ?_⟩
  rintro y H3 ⟨T, x2, rfl, hT, rfl, hy⟩
  have ey := hy ws hl2.sq
  rw [e1] at ey
  cases ey
  exact ⟨Go.new hT, R2.new hT, dx_newT R2 hT (.cons (.int _) (.cons e2 .nil))⟩
theorem ite_d {a : Addr} {ws : List V} {ds : List D} (hl : QL K as H a ws) (hr : DxA K as H ws ds) : ItD K (Ite K a) as H (enumD 0 ds) := fun bs H2 os s R2 i => by
  have hl2 := s.way.l _ _ hl
  have hr2 := hr.way s.way
  refine ⟨fun d hd => ?_, fun hn => ⟨ws, hl2.sq, by rw [hr.length]; rw [enumD_len] at hn; exact hn⟩⟩
  obtain ⟨x, hx, rfl⟩ := enumD_get hd
  obtain ⟨u, e1, e2⟩ := hr2.get hx
  refine ⟨⟨ws, u, hl2.sq, e1⟩, ?_⟩
  rintro y H3 ⟨T, x2, rfl, hT, rfl, hy⟩
  have ey := hy ws hl2.sq
  rw [e1] at ey
  cases ey
  refine ⟨Go.new hT, R2.new hT, ?_⟩
  rw [Int.zero_add]
  exact dx_newT R2 hT (.cons (.int _) (.cons e2 .nil))
theorem iw_en {Q : List D → Os → Prop} (h : AW K X tl S fun xs os => ∃ ds, (xs = [.d (.tup ds)] ∨ xs = [.d (.lst ds)]) ∧ Q (enumD 0 ds) os) : IW K X (iEn K tl) S Q := fun as H σ R' R x k =>
  h as H σ _ R x fun vs H1 xs os1 g1 R1 r1 ⟨ds, e, q⟩ => by
    rcases e with rfl | rfl
    · cases r1 with
      | cons r1 rn =>
        cases rn
        cases (show Dx K as H1 _ (.tup ds) from r1) with
        | @tup a ws _ hl hr => exact ⟨a, ws, rfl, .inr ⟨hl.sq, k _ H1 _ os1 g1 R1 (itE_d hl hr) q⟩⟩
    · cases r1 with
      | cons r1 rn =>
        cases rn
        cases (show Dx K as H1 _ (.lst ds) from r1) with
        | @lst a ws _ hl hr => exact ⟨a, ws, rfl, .inl ⟨hl.sq, k _ H1 _ os1 g1 R1 (ite_d hl hr) q⟩⟩
theorem iw_enS {Q : List D → Os → Prop} (h : AW K X tl S fun xs os => ∃ ds, xs = [.d (.tup ds)] ∧ AW K X tk ⟨S.s, os⟩ fun zs os2 => ∃ k : Int, zs = [.d (.int k)] ∧ (-(2 ^ 63) ≤ k ∧ k < 2 ^ 63) ∧ Q (enumD k ds) os2) : IW K X (iEnS K tl tk) S Q := fun as H σ R' R x k =>
  h as H σ _ R x fun vs H1 xs os1 g1 R1 r1 ⟨ds, e, h2⟩ => by
    subst e
    cases r1 with
    | cons r1 rn =>
      cases rn
      refine h2 as H1 σ _ (R.go g1 R1) (x.go g1 R1) fun ws H2 zs os2 g2 R2 r2 ⟨n, ez, hb, q⟩ => ?_
      subst ez
      cases r2 with
      | cons r2 rm =>
        cases rm
        cases r2
        have r1' : Dx K as H2 _ (.tup ds) := (r1.go g2 : SvR K as H2 _ (.d (.tup ds)))
        cases r1' with
        | @tup a us _ hl hr => exact ⟨a, us, n, rfl, rfl, hb, hl.sq, k _ H2 _ os2 (g1.trans g2) R2 (itE_d hl hr) q⟩
/-- f(e, .., k = v, ..) -/
theorem ew_callN {n m : Nat} {f : FD} {gV : List V → List V → List V} {gS : List Sv → List Sv → List Sv} (hg : ∀ as H vs zs ds es, SvA K as H vs ds → SvA K as H zs es → SvA K as H (gV vs zs) (gS ds es))
    (h : AW K X tl S fun ds os => ds.length = n ∧ AW K X tk ⟨S.s, os⟩ fun es os2 => es.length = m ∧ f (gS ds es) os2 (fun d os' => Q (.d d) os') fun _ _ _ => False) : EW K X (tCallN n m (spD K f) gV E0 tl tk) S Q := fun as H σ Q' R x k =>
  h as H σ _ R x fun vs H1 ds os1 g1 R1 r1 ⟨l1, q1⟩ => q1 as H1 σ _ (R.go g1 R1) (x.go g1 R1) fun zs H2 es os2 g2 R2 r2 ⟨l2, q2⟩ => by
    refine ⟨by rw [r1.length]; exact l1, by rw [r2.length]; exact l2, as, os2, _, _, _, R2, hg _ _ _ _ _ _ (r1.go g2) r2, q2, fun v H3 d os3 g3 R3 r3 q3 => k v H3 (.d d) os3 ((g1.trans g2).trans g3) R3 r3 q3, fun _ _ _ _ _ _ _ _ _ _ _ z => z.elim⟩
/-- x, y = [], e -/
theorem w_parL {i j : Nat} (h : EW K X te ⟨S.s, S.os ++ [.ml []]⟩ fun y os2 => E.nx ⟨(S.s.set i (some (.o S.os.length))).set j (some y), os2⟩) : W K X (tPar i j (tCons (tLst tNil) (tCons te tNil))) E S := fun as H σ D R x n r b c => by
  refine ⟨Nat.zero_le _, fun p hp => ?_⟩
  have s2 : Stp as H (as ++ [p]) (upd H p (.lst [])) := stp_add hp
  have R2 : Re K (as ++ [p]) (upd H p (.lst [])) σ ⟨S.s, S.os ++ [.ml []]⟩ := ⟨ro_add R.o hp, R.slen, fun k d hd => by
    obtain ⟨u, e, z⟩ := R.slot k d hd
    exact ⟨u, e, z.stp s2⟩⟩
  refine h (as ++ [p]) _ σ _ R2 ((x.stp s2).h R2) fun u H2 d os2 g2 R3 r2 q => ⟨.ref p, u, rfl, ?_⟩
  have hp2 : SvR K (as ++ [p]) H2 (.ref p) (.o S.os.length) := ⟨p, by rw [← R.o.len]; simp, rfl⟩
  exact n _ _ _ _ (s2.trans (Stp.of_go g2 R3)) (((R2.go g2 R3).set i hp2).set j r2) q
/-- x = [e, ..], a list that changes -/
theorem w_asgLst {i : Nat} (h : AW K X tl S fun xs os => ∃ ds, unD xs = some ds ∧ ds.length ≤ sizeLine ∧ E.nx ⟨S.s.set i (some (.o os.length)), os ++ [.ml ds]⟩) : W K X (tAsg (tLst tl) (gName i)) E S := fun as H σ D R x n r b c =>
  h as H σ _ R (x.h R) fun vs H1 xs os1 g1 R1 r1 ⟨ds, e, hl, q⟩ => by
    have hd := (unD_all e).dx r1
    refine ⟨by rw [hd.length]; exact hl, fun p hp => ?_⟩
    have R2 := ro_addL R1 hp hd
    have s2 : Stp as H1 (as ++ [p]) (upd H1 p (.lst vs)) := stp_add hp
    have sN := (Stp.of_go g1 R1).trans s2
    have RR : Re K (as ++ [p]) (upd H1 p (.lst vs)) σ ⟨S.s, os1 ++ [.ml ds]⟩ := ⟨R2, R.slen, fun j d hd => by
      obtain ⟨u, e, z⟩ := R.slot j d hd
      exact ⟨u, e, z.stp sN⟩⟩
    exact n _ _ _ _ sN (RR.set i (v := .ref p) (d := .o os1.length) ⟨p, by rw [← R1.len]; simp, rfl⟩) q
/-- for .. in a list of the store that stays as it is -/
theorem w_forO {g : TG} {tb : TS} (h : EW K X te S fun x os => ∃ j ds, x = .o j ∧ os[j]? = some (.ml ds) ∧ ∃ Pv : Nat → Sa → Prop, Pv 0 ⟨S.s, os⟩ ∧ (∀ i S', Pv i S' → S'.os[j]? = some (.ml ds)) ∧
      (∀ i d S', ds[i]? = some d → Pv i S' → GW K g (.d d) S' (W K X tb { nx := Pv (i + 1), ct := Pv (i + 1), bk := E.nx, rt := E.rt })) ∧ ∀ S', Pv ds.length S' → E.nx S') : W K X (tFor (iList K te) g tb) E S := fun as H σ D R x n r b c =>
  h as H σ _ R (x.h R) fun v H1 d1 os1 g1 R1 r1 ⟨j, ds, ed, eo, Pv, p0, stay, turn, fin⟩ => by
    subst ed
    obtain ⟨a, ea, rfl⟩ := r1
    have s1 : Stp as H as H1 := Stp.of_go g1 R1
    have seq : ∀ {bs H2 os2}, Stp as H1 bs H2 → Ro K bs H2 os2 → os2[j]? = some (.ml ds) → ∃ vs, H2 a = some (.lst vs) ∧ DxA K bs H2 vs ds := fun {bs H2 os2} s R2 e => by
      obtain ⟨nw, eb, _⟩ := s.pre
      have ha : bs[j]? = some a := by rw [eb, List.getElem?_append_left (List.getElem?_eq_some_iff.mp ea).1]; exact ea
      obtain ⟨vs, h1, h2⟩ := R2.own j a _ ha e
      exact ⟨vs, h1, h2⟩
    obtain ⟨ws, hw, _⟩ := seq Stp.refl R1 eo
    refine ⟨a, rfl, ⟨ws, .inl (.inl hw)⟩, fun i m σ H2 => m = ds.length - i ∧ i ≤ ds.length ∧ ∃ bs S', Stp as H1 bs H2 ∧ Re K bs H2 σ S' ∧ Pv i S', ⟨_, rfl, Nat.zero_le _, as, _, Stp.refl, R.go g1 R1, p0⟩, ?_⟩
    rintro i m σ2 H2 ⟨rfl, hi, bs, S2, s2, R2, p⟩
    obtain ⟨vs, h1, h2⟩ := seq s2 R2.o (stay i S2 p)
    by_cases hlt : i < ds.length
    · have hd : ds[i]? = some ds[i] := List.getElem?_eq_getElem hlt
      obtain ⟨u, e1, e2⟩ := h2.get hd
      refine .inr ⟨⟨vs, u, .inl (.inl h1), e1⟩, fun σ' H' => ∃ cs S', Stp as H1 cs H' ∧ Re K cs H' σ' S' ∧ Pv (i + 1) S', fun σ' H' z => ⟨ds.length - (i + 1), by omega, rfl, hlt, z⟩, fun y H3 hyl => ?_⟩
      obtain ⟨rfl, hy⟩ := hyl
      have z := hy vs (.inl (.inl h1))
      rw [e1] at z
      cases z
      refine turn i _ S2 hd p bs H3 σ2 _ _ R2 e2 fun σ4 S4 R4 w => ?_
      refine w bs H3 σ4 _ R4 ((x.stp s1).stp s2) (fun cs H5 σ5 S5 s5 R5 q5 => ⟨cs, S5, s2.trans s5, R5, q5⟩) (fun cs H5 v d os5 s5 R5 r5 q5 => r cs H5 v d os5 ((s1.trans s2).trans s5) R5 r5 q5)
        (fun cs H5 σ5 S5 s5 R5 q5 => n cs H5 σ5 S5 ((s1.trans s2).trans s5) R5 q5) (fun cs H5 σ5 S5 s5 R5 q5 => ⟨cs, S5, s2.trans s5, R5, q5⟩)
    · have e : i = ds.length := by omega
      subst e
      exact .inl ⟨⟨vs, .inl (.inl h1), by rw [h2.length]; exact Nat.le_refl _⟩, n bs H2 σ2 S2 (s1.trans s2) R2 (fin S2 p)⟩
end
end Br

/-! BrK: x += e; isinstance(x, (a, b)); what never leaves. -/
namespace Br
open PySem PySem.Spec PyProof.Rows L2
section
variable {K : PySem.W.Frag} {X : Xc} {S : Sa} {os : Os} {Q : Sv → Os → Prop} {te : TE} {E : Ea}
/-- x += e, numbers -/
theorem w_augI {i : Nat} {g : Int → Int → Int} {x : Int} (hv : S.s[i]? = some (some (.d (.int x)))) (h : EW K X te S fun y os => ∃ j, y = .d (.int j) ∧ E.nx ⟨S.s.set i (some (.d (.int (g x j)))), os⟩) : W K X (tAug i te (ipI g)) E S := fun as H σ D R xx n r b c => by
  obtain ⟨v, e, rv⟩ := R.slot i _ hv
  refine ⟨v, e, h as H σ _ R (xx.h R) fun u H1 d os1 g1 R1 r1 ⟨j, ed, q⟩ => ?_⟩
  subst ed
  cases rv
  cases r1
  exact ⟨x, j, rfl, rfl, n as H1 _ _ (Stp.of_go g1 R1) ((R.go g1 R1).set i (v := .int (g x j)) (d := .d (.int (g x j))) (Dx.int _)) q⟩
/-- isinstance(x, (A, B)), built-in types -/
theorem ew_isi2 {n1 n2 : String} (h : EW K X te S fun x os => ∃ d a r, x = .d d ∧ d.ty = some a ∧ PySem.W.kitAny K (.type a) [.type n1, .type n2] = some r ∧ Q (.d (.bl r)) os) : EW K X (tCB (rIsiT K) (tCons te (tCons (tTup (tCons (tC (.ty n1)) (tCons (tC (.ty n2)) tNil))) tNil))) S Q := fun as H σ Q' R x k =>
  h as H σ _ R x fun v H1 d os1 g1 R1 r1 ⟨e, a, r, ed, ea, er, q⟩ => by
    subst ed
    refine ⟨by show 2 ≤ sizeLine; decide, fun p hp => ?_⟩
    have g2 : Go as H1 (upd H1 p (.tup [.ty n1, .ty n2])) := Go.new hp
    have R2 := R1.new (o := .tup [.ty n1, .ty n2]) hp
    have r2 : Dx K as (upd H1 p (.tup [.ty n1, .ty n2])) v e := (r1.go g2 : SvR K as _ v (.d e))
    exact ⟨v, p, [.ty n1, .ty n2], .type a, [.type n1, .type n2], r, rfl, upd_same, .cons (.ty n1) (.cons (.ty n2) .nil), dx_ty r2 ea, er, k (.bl r) _ (.d (.bl r)) os1 (g1.trans g2) R2 (Dx.bl r) q⟩
end
theorem kit2 {K : PySem.W.Frag} {a n1 n2 : String} {b1 b2 : Bool} (h1 : kitB a n1 = some b1) (h2 : kitB a n2 = some b2) : PySem.W.kitAny K (.type a) [.type n1, .type n2] = some (b1 || b2) := by
  refine kitAny_cons (b := b1) (kit_ty h1) (fun hb => ?_) (fun hb => by rw [hb]; rfl)
  subst hb
  refine kitAny_cons (b := b2) (kit_ty h2) (fun hb => ?_) (fun hb => by rw [hb]; rfl)
  subst hb
  rfl
/-- nothing leaves -/
theorem passX {X : Cx} {P : Program} {w : World} : Passes (L2.CX P w) X fun _ _ _ => False := fun _ _ _ _ e s' _ c => by
  obtain ⟨a, B, H', cls, d, _, _, _, _, _, _, _, hE⟩ := c
  exact hE.elim
/-- a class of the text, its __init__ -/
structure Ycl (K : PySem.W.Frag) (mg : Str → Option Value) (x : Str) (C f : Addr) (fd : FuncData) (ps : List Str) : Prop where
  M : Mk K C f
  c : Cls K C
  m : mg x = some (.ref C)
  b : Binds K fd ps []
/-- isinstance of an instance of the text's own class -/
structure IsC (K : PySem.W.Frag) (C : Addr) : Prop where
  c : Cls K C
  ha : PySem.W.findIn K (.ref C) "__class__" = some (some (.builtin "object.__class__"))
  hn : PySem.W.specialIn K (.builtin "object.__class__") "__get__" = some (some (.builtin "getset_descriptor.__get__"))
  tk : PySem.W.takesIn K (.builtin "object.__class__") = some true
  hm : PySem.W.mroIn K C (.type "object") = some true
section
variable {K : PySem.W.Frag} {X : Xc} {S : Sa} {Q : Sv → Os → Prop} {te : TE}
theorem ew_isiO {C : Addr} (T : IsC K C) (h : EW K X te S fun x os => ∃ fds, x = .d (.ob C fds) ∧ Q (.d (.bl true)) os) : EW K X (tCB (rIsi K) (tCons te (tCons (tC (.ref C)) tNil))) S Q := fun as H σ Q' R x k =>
  h as H σ _ R x fun v H1 d os1 g1 R1 r1 ⟨fds, ed, q⟩ => by
    subst ed
    have r1' : Dx K as H1 v (.ob C fds) := r1
    cases r1' with
    | ob n1 n2 h1 h2 hr => exact ⟨_, .ref C, .ref C, .ref C, true, rfl, .own C, .base (.ins h1 T.c T.ha T.hn T.tk T.hm), by unfold PySem.W.kitOne; rw [if_pos (by simp)], k (.bl true) H1 (.d (.bl true)) os1 g1 R1 (Dx.bl true) q⟩
end
section
variable {K : PySem.W.Frag} {X : Xc} {S : Sa} {os : Os} {Q : Sv → Os → Prop}
theorem ew_negI {i : Int} (q : Q (.d (.int (-i))) S.os) : EW K X (tUn (rU fun i => V.int (-i)) (tC (.int i))) S Q := fun as H σ Q' R x k =>
  ⟨i, rfl, k (.int (-i)) H (.d (.int (-i))) S.os (Go.refl _ _) R.o (Dx.int _) q⟩
theorem bw_ix0 {x : D} {r : List D} (q : Q (.d x) os) : BW K (rIxT K) (.d (.tup (x :: r))) (.d (.int 0)) os Q := bw_ixT (atI_nat (j := 0) rfl) q
theorem bw_ix1 {x y : D} {r : List D} (q : Q (.d y) os) : BW K (rIxT K) (.d (.tup (x :: y :: r))) (.d (.int 1)) os Q := bw_ixT (atI_nat (j := 1) rfl) q
theorem bw_ix2 {x y z : D} {r : List D} (q : Q (.d z) os) : BW K (rIxT K) (.d (.tup (x :: y :: z :: r))) (.d (.int 2)) os Q := bw_ixT (atI_nat (j := 2) rfl) q
end
end Br

/-! BrD: data by kind, bounds, what may be shown. -/
namespace Br
open PySem PySem.Spec PyProof.Rows L2
def D.isI : D → Bool
  | .int _ => true
  | _ => false
def D.isB (lo hi : Int) : D → Bool
  | .int i => decide (lo ≤ i) && decide (i ≤ hi)
  | _ => false
def D.isN : D → Bool
  | .non => true
  | _ => false
def D.isT (n : Int) : D → Bool
  | .tup xs => decide ((xs.length : Int) = n)
  | _ => false
mutual
def D.fit (M : Nat) : D → Bool
  | .non => true
  | .bl _ => true
  | .int i => decide (i.natAbs ≤ M)
  | .str z => z.cps.toList.all fun c => decide (c < 128)
  | .lst xs => D.fits M xs
  | .tup xs => D.fits M xs
  | .dk kvs => kvs.isEmpty
  | .ob _ _ => false
  | .xo _ _ => false
def D.fits (M : Nat) : List D → Bool
  | [] => true
  | x :: r => D.fit M x && D.fits M r
end
mutual
def D.ln : D → Nat
  | .non => 4
  | .bl _ => 5
  | .int _ => 1921
  | .str z => 10 * z.length + 2
  | .lst xs => D.lns xs + 3
  | .tup xs => D.lns xs + 3
  | .dk _ => 3
  | .ob _ _ => 0
  | .xo _ _ => 0
def D.lns : List D → Nat
  | [] => 0
  | x :: r => D.ln x + 2 + D.lns r
end
mutual
def D.dpt : D → Nat
  | .lst xs => D.dpts xs + 1
  | .tup xs => D.dpts xs + 1
  | .dk _ => 1
  | _ => 0
def D.dpts : List D → Nat
  | [] => 0
  | x :: r => max (D.dpt x) (D.dpts r)
end
def rowB : D → Bool
  | .tup xs => xs.all (D.isB 0 255)
  | _ => false
theorem fit_ty {M : Nat} {x : D} (h : x.fit M = true) : ∃ a, x.ty = some a := by
  cases x with
  | ob C fs => cases (show false = true from h)
  | xo C fs => cases (show false = true from h)
  | _ => exact ⟨_, rfl⟩
theorem fits_all {M : Nat} : ∀ {xs : List D}, D.fits M xs = true ↔ ∀ x ∈ xs, x.fit M = true
  | [] => ⟨fun _ _ h => (nomatch h), fun _ => rfl⟩
  | x :: r => by
    have e : D.fits M (x :: r) = (D.fit M x && D.fits M r) := rfl
    have ih := fits_all (M := M) (xs := r)
    rw [e, Bool.and_eq_true]
    constructor
    · intro h y hy
      rcases List.mem_cons.mp hy with z | z
      · exact z ▸ h.1
      · exact ih.mp h.2 y z
    · intro h
      exact ⟨h x List.mem_cons_self, ih.mpr fun y hy => h y (List.mem_cons_of_mem _ hy)⟩
theorem lns_mem : ∀ {xs : List D} {x : D}, x ∈ xs → x.ln + 2 ≤ D.lns xs
  | y :: r, x, h => by
    have e : D.lns (y :: r) = D.ln y + 2 + D.lns r := rfl
    rw [e]
    rcases List.mem_cons.mp h with z | z
    · subst z
      omega
    · have := lns_mem z
      omega
theorem lns_len : ∀ {xs : List D}, 2 * xs.length ≤ D.lns xs
  | [] => Nat.le_refl _
  | y :: r => by
    have e : D.lns (y :: r) = D.ln y + 2 + D.lns r := rfl
    have := lns_len (xs := r)
    rw [e, List.length_cons]
    omega
theorem lns_app : ∀ {xs ys : List D}, D.lns (xs ++ ys) = D.lns xs + D.lns ys
  | [], ys => by
    show D.lns ys = 0 + D.lns ys
    omega
  | y :: r, ys => by
    have e : D.lns (y :: r) = D.ln y + 2 + D.lns r := rfl
    have e2 : D.lns (y :: r ++ ys) = D.ln y + 2 + D.lns (r ++ ys) := rfl
    rw [e, e2, lns_app]
    omega
theorem dpts_mem : ∀ {xs : List D} {x : D}, x ∈ xs → x.dpt ≤ D.dpts xs
  | y :: r, x, h => by
    have e : D.dpts (y :: r) = max (D.dpt y) (D.dpts r) := rfl
    rw [e]
    rcases List.mem_cons.mp h with z | z
    · subst z
      omega
    · have := dpts_mem z
      omega
theorem dpts_le {n : Nat} : ∀ {xs : List D}, (∀ x ∈ xs, x.dpt ≤ n) → D.dpts xs ≤ n
  | [], _ => Nat.zero_le _
  | y :: r, h => by
    have e : D.dpts (y :: r) = max (D.dpt y) (D.dpts r) := rfl
    have h1 := h y List.mem_cons_self
    have h2 := dpts_le (xs := r) fun x hx => h x (List.mem_cons_of_mem _ hx)
    rw [e]
    omega
mutual
theorem fit_py {M : Nat} (hM : M ≤ 10 ^ 40) : ∀ d : D, d.fit M = true → ∃ p, d.pyE = some p ∧ p.showable = true ∧ p.depth ≤ d.dpt ∧ p.shown.length ≤ d.ln
  | .non, _ => ⟨_, rfl, rfl, Nat.le_refl _, by decide⟩
  | .bl b, _ => ⟨_, rfl, rfl, Nat.le_refl _, by cases b <;> decide⟩
  | .int i, h => by
    have h1 : i.natAbs ≤ M := of_decide_eq_true h
    have h2 : i.natAbs.log2 < 1920 := by
      by_cases h0 : i.natAbs = 0
      · rw [h0]
        decide
      · refine (Nat.log2_lt h0).mpr (Nat.lt_of_le_of_lt (Nat.le_trans h1 hM) (by decide))
    exact ⟨_, rfl, decide_eq_true h2, Nat.le_refl _, int_text_len_1921 h2⟩
  | .str z, h => ⟨_, rfl, rfl, Nat.le_refl _, PySem.StrLaws.reprText_len z fun c hc => by
      have h1 := of_decide_eq_true (List.all_eq_true.mp (show z.cps.toList.all (fun c => decide (c < 128)) = true from h) c hc)
      exact Nat.lt_trans h1 (by decide)⟩
  | .lst xs, h => by
    obtain ⟨ps, e, h1, h2, h3⟩ := fits_py hM xs h
    refine ⟨.list ps, by show (D.pysE xs).map PyData.list = _; rw [e]; rfl, h1, Nat.succ_le_succ h2, ?_⟩
    refine Nat.le_trans (listText_len_le (PyData.shownAll ps)) ?_
    show _ ≤ D.lns xs + 3
    omega
  | .tup xs, h => by
    obtain ⟨ps, e, h1, h2, h3⟩ := fits_py hM xs h
    refine ⟨.tuple ps, by show (D.pysE xs).map PyData.tuple = _; rw [e]; rfl, h1, Nat.succ_le_succ h2, ?_⟩
    refine Nat.le_trans (tupleText_len_le (PyData.shownAll ps)) ?_
    show _ ≤ D.lns xs + 3
    omega
  | .dk [], _ => ⟨.dict [], rfl, rfl, by decide, by decide⟩
  | .dk (_ :: _), h => by cases (show false = true from h)
  | .ob _ _, h => by cases (show false = true from h)
  | .xo _ _, h => by cases (show false = true from h)
theorem fits_py {M : Nat} (hM : M ≤ 10 ^ 40) : ∀ ds : List D, D.fits M ds = true → ∃ ps, D.pysE ds = some ps ∧ PyData.showableAll ps = true ∧ PyData.depthAll ps ≤ D.dpts ds ∧ ((PyData.shownAll ps).map (·.length)).sum + 2 * (PyData.shownAll ps).length ≤ D.lns ds
  | [], _ => ⟨[], rfl, rfl, Nat.le_refl _, Nat.le_refl _⟩
  | d :: ds, h => by
    have e : D.fits M (d :: ds) = (D.fit M d && D.fits M ds) := rfl
    rw [e, Bool.and_eq_true] at h
    obtain ⟨p, a1, a2, a3, a4⟩ := fit_py hM d h.1
    obtain ⟨ps, b1, b2, b3, b4⟩ := fits_py hM ds h.2
    refine ⟨p :: ps, ?_, ?_, ?_, ?_⟩
    · show ((D.pyE d).bind fun p => (D.pysE ds).map fun ps => p :: ps) = _
      rw [a1, b1]
      rfl
    · show (p.showable && PyData.showableAll ps) = true
      rw [a2, b2]
      rfl
    · show max p.depth (PyData.depthAll ps) ≤ max d.dpt (D.dpts ds)
      omega
    · show ((p.shown.length :: (PyData.shownAll ps).map (·.length)).sum + 2 * ((PyData.shownAll ps).length + 1)) ≤ d.ln + 2 + D.lns ds
      rw [List.sum_cons]
      omega
end
/-- what repr tells -/
def shownD (x : D) : Str := match x.pyE with
  | some p => p.shown
  | none => ""
theorem cw_reprF {K : PySem.W.Frag} {os : Os} {Q : Sv → Os → Prop} {M : Nat} {x : D} (hM : M ≤ 10 ^ 40) (h : x.fit M = true) (hl : x.ln ≤ 10000000) (hd : x.dpt ≤ 60) (q : Q (.d (.str (shownD x))) os) : CW K (rReprA K) [.d x] os Q := by
  obtain ⟨p, e, h1, h2, h3⟩ := fit_py hM x h
  have es : shownD x = p.shown := by
    unfold shownD
    rw [e]
  rw [es] at q
  exact cw_pure (fun as H vs Q' R r k => by
    cases r with
    | cons h t =>
      cases t
      exact ⟨as, _, x, p, rfl, h, e, h1, by omega, Nat.le_trans h3 (Nat.le_trans hl (by decide)), k _ (.str _)⟩) q
mutual
theorem fit_mono {M N : Nat} (h : M ≤ N) : ∀ d : D, d.fit M = true → d.fit N = true
  | .non, _ => rfl
  | .bl _, _ => rfl
  | .int i, q => decide_eq_true (Nat.le_trans (of_decide_eq_true (show decide (i.natAbs ≤ M) = true from q)) h)
  | .str _, q => q
  | .lst xs, q => fits_mono h xs q
  | .tup xs, q => fits_mono h xs q
  | .dk _, q => q
  | .ob _ _, q => q
  | .xo _ _, q => q
theorem fits_mono {M N : Nat} (h : M ≤ N) : ∀ ds : List D, D.fits M ds = true → D.fits N ds = true
  | [], _ => rfl
  | d :: ds, q => by
    have e : D.fits M (d :: ds) = (D.fit M d && D.fits M ds) := rfl
    rw [e, Bool.and_eq_true] at q
    show (D.fit N d && D.fits N ds) = true
    rw [fit_mono h d q.1, fits_mono h ds q.2]
    rfl
end
/-- bounds of data -/
structure Gd (M B n : Nat) (y : D) : Prop where
  f : y.fit M = true
  l : y.ln ≤ B
  d : y.dpt ≤ n
theorem Gd.up {M B n M' B' n' : Nat} {y : D} (h : Gd M B n y) (h1 : M ≤ M') (h2 : B ≤ B') (h3 : n ≤ n') : Gd M' B' n' y := ⟨fit_mono h1 y h.f, Nat.le_trans h.l h2, Nat.le_trans h.d h3⟩
theorem lns_split {xs : List D} (j : Nat) : D.lns xs = D.lns (xs.take j) + D.lns (xs.drop j) := by
  rw [← lns_app, List.take_append_drop]
theorem lns_take {xs : List D} (j : Nat) : D.lns (xs.take j) ≤ D.lns xs := by
  have := lns_split (xs := xs) j
  omega
theorem lns_drop {xs : List D} (j : Nat) : D.lns (xs.drop j) ≤ D.lns xs := by
  have := lns_split (xs := xs) j
  omega
theorem lns_rev : ∀ {xs : List D}, D.lns xs.reverse = D.lns xs
  | [] => rfl
  | x :: r => by
    rw [List.reverse_cons, lns_app, lns_rev]
    show D.lns r + (x.ln + 2 + 0) = x.ln + 2 + D.lns r
    omega
theorem cut_sub {xs : List D} {lo hi : Option Int} {y : D} (h : y ∈ Br.cutD xs lo hi) : y ∈ xs := List.mem_of_mem_drop (List.mem_of_mem_take h)
theorem cut_lns {xs : List D} {lo hi : Option Int} : D.lns (Br.cutD xs lo hi) ≤ D.lns xs := Nat.le_trans (lns_take _) (lns_drop _)
/-- of things of a tuple another tuple, or list -/
theorem gd_tup {M B n : Nat} {xs ys : List D} (h : Gd M B n (.tup xs)) (hm : ∀ y ∈ ys, y ∈ xs ∨ y = .non) (hl : D.lns ys + 3 ≤ B) : Gd M B n (.tup ys) := by
  have hf := fits_all.mp (show D.fits M xs = true from h.f)
  have hd : D.dpts xs + 1 ≤ n := h.d
  refine ⟨fits_all.mpr fun y hy => ?_, hl, ?_⟩
  · rcases hm y hy with z | rfl
    · exact hf y z
    · rfl
  · show D.dpts ys + 1 ≤ n
    have : D.dpts ys ≤ D.dpts xs := dpts_le fun y hy => by
      rcases hm y hy with z | rfl
      · exact dpts_mem z
      · exact Nat.zero_le _
    omega
theorem gd_lst {M B n : Nat} {xs : List D} (h : Gd M B n (.tup xs)) : Gd M B n (.lst xs) := ⟨h.f, h.l, h.d⟩
def asc (z : Str) : Prop := ∀ c ∈ z.cps.toList, c < 128
theorem asc_of {M : Nat} {z : Str} (h : (D.str z).fit M = true) : asc z := fun c hc => of_decide_eq_true (List.all_eq_true.mp (show (z.cps.toList.all fun c => decide (c < 128)) = true from h) c hc)
theorem gd_str {M B n : Nat} {z : Str} (h : asc z) (hl : 10 * z.length + 2 ≤ B) : Gd M B n (.str z) := ⟨List.all_eq_true.mpr fun c hc => decide_eq_true (h c hc), hl, Nat.zero_le _⟩
theorem asc_cut {z : Str} {lo hi : Option Int} (h : asc z) : asc (cutS z lo hi) := fun c hc => by
  have e : (cutS z lo hi).cps.toList = (z.cps.toList.drop (HT.sIx z.length 0 lo)).take (HT.sIx z.length z.length hi - HT.sIx z.length 0 lo) := by
    unfold cutS
    simp
  rw [e] at hc
  exact h c (List.mem_of_mem_drop (List.mem_of_mem_take hc))
theorem asc_app {z y : Str} (h : asc z) (g : asc y) : asc (z ++ y) := fun c hc => by
  have e : (z ++ y).cps.toList = z.cps.toList ++ y.cps.toList := by
    show (z.cps ++ y.cps).toList = _
    simp
  rw [e] at hc
  rcases List.mem_append.mp hc with q | q
  · exact h c q
  · exact g c q
theorem len_app {z y : Str} : (z ++ y).length = z.length + y.length := by
  show (z.cps ++ y.cps).size = _
  rw [Array.size_append]
  rfl
theorem up_lt : ∀ c, c < 128 → up1 c < 128 := by decide +kernel
theorem asc_up {z : Str} (h : asc z) : asc (Txt.upper z) ∧ (Txt.upper z).length = z.length := by
  have e := upper_ascii (x := z) fun c hc => h c hc
  rw [e]
  constructor
  · intro c hc
    have hc' : c ∈ z.cps.toList.map up1 := by simpa using hc
    obtain ⟨d, hd, rfl⟩ := List.mem_map.mp hc'
    exact up_lt d (h d hd)
  · show (z.cps.map up1).size = z.cps.size
    simp
theorem asc_int (i : Int) : asc (toString i : String) := fun c hc => by
  by_cases h : c < 128
  · exact h
  · exact absurd hc (int_text_free' c ⟨by omega, .inr (by omega)⟩ i)
theorem log_of {M : Nat} {i : Int} (h : i.natAbs ≤ M) (hM : M ≤ 10 ^ 40) : i.natAbs.log2 < 1920 := by
  by_cases h0 : i.natAbs = 0
  · rw [h0]
    decide
  · exact (Nat.log2_lt h0).mpr (Nat.lt_of_le_of_lt (Nat.le_trans h hM) (by decide))
theorem len_int {M : Nat} {i : Int} (h : i.natAbs ≤ M) (hM : M ≤ 10 ^ 40) : (Str.ofString (toString i)).length ≤ 1921 := int_text_len_1921 (log_of h hM)
/-- t[::-1] -/
theorem spD_or {K : PySem.W.Frag} {f1 f2 : FD} {vs : List V} {H : Hp} {Q : VK} {E : XK} (h : spD K (fun ds os QA EA => f1 ds os QA EA ∨ f2 ds os QA EA) vs H Q E) : spD K f1 vs H Q E ∨ spD K f2 vs H Q E := by
  obtain ⟨as, os, ds, QA, EA, R, r, hf, k1, k2⟩ := h
  rcases hf with hf | hf
  · exact .inl ⟨as, os, ds, QA, EA, R, r, hf, k1, k2⟩
  · exact .inr ⟨as, os, ds, QA, EA, R, r, hf, k1, k2⟩
theorem spD_imp {K : PySem.W.Frag} {f1 f2 : FD} {vs : List V} {H : Hp} {Q : VK} {E : XK} (m : ∀ ds os QA EA, f1 ds os QA EA → f2 ds os QA EA) (h : spD K f1 vs H Q E) : spD K f2 vs H Q E := by
  obtain ⟨as, os, ds, QA, EA, R, r, hf, k1, k2⟩ := h
  exact ⟨as, os, ds, QA, EA, R, r, m _ _ _ _ hf, k1, k2⟩
def fNo : FD := fun _ _ _ _ => False
theorem ok_no {P : Program} {w : World} {K : PySem.W.Frag} {mg : Str → Option Value} {base : Heap} {k : Nat} {f : Addr} {fd : FuncData} {ps : List Str} : FnOk P w K mg base CX0 k f fd ps (spD K fNo) :=
  ⟨fun vs H Q E h => by obtain ⟨_, _, _, _, _, _, _, hf, _⟩ := h; exact hf.elim, fun A outer s H args us vs Q E _ _ _ _ h => by obtain ⟨_, _, _, _, _, _, _, hf, _⟩ := h; exact hf.elim⟩
theorem cut_take {xs : List D} {j : Nat} (h : j ≤ xs.length) : Br.cutD xs none (some (j : Int)) = xs.take j := by
  unfold Br.cutD
  rw [HT.sIx_nat, HT.sIx_none, Nat.min_eq_left h, List.drop_zero, Nat.sub_zero]
theorem cut_drop {xs : List D} {j : Nat} (h : j ≤ xs.length) : Br.cutD xs (some (j : Int)) none = xs.drop j := by
  unfold Br.cutD
  rw [HT.sIx_nat, HT.sIx_none, Nat.min_eq_left h, List.take_of_length_le (by rw [List.length_drop]; exact Nat.le_refl _)]
theorem isi_int {x : D} {a : String} (h : x.ty = some a) : ∃ r, kitB a "int" = some r ∧ ∃ r2, kitB a "bool" = some r2 ∧ (r && !r2) = x.isI := by
  cases x <;> cases h <;> exact ⟨_, rfl, _, rfl, rfl⟩
theorem isi_tup {x : D} {a : String} (h : x.ty = some a) : (∃ xs, x = .tup xs ∧ kitB a "tuple" = some true) ∨ ((∀ xs, x ≠ .tup xs) ∧ kitB a "tuple" = some false) := by
  cases x with
  | tup xs => cases h; exact .inl ⟨xs, rfl, rfl⟩
  | ob C fs => cases h
  | xo C fs => cases h
  | _ => cases h; exact .inr ⟨fun xs e => (nomatch e), rfl⟩
theorem isi_str {x : D} {a : String} (h : x.ty = some a) : (∃ z, x = .str z ∧ kitB a "str" = some true) ∨ ((∀ z, x ≠ .str z) ∧ kitB a "str" = some false) := by
  cases x with
  | str xs => cases h; exact .inl ⟨xs, rfl, rfl⟩
  | ob C fs => cases h
  | xo C fs => cases h
  | _ => cases h; exact .inr ⟨fun xs e => (nomatch e), rfl⟩
theorem isT_no {x : D} {n : Int} (h : ∀ xs, x ≠ .tup xs) : x.isT n = false := by
  cases x with
  | tup xs => exact absurd rfl (h xs)
  | _ => rfl
theorem isB_no {x : D} {lo hi : Int} (h : x.isI = false) : x.isB lo hi = false := by
  cases x with
  | int i => cases h
  | _ => rfl
theorem isI_is {x : D} (h : x.isI = true) : ∃ i, x = .int i := by
  cases x with
  | int i => exact ⟨i, rfl⟩
  | _ => cases h
end Br

/-! BrO: a list of the store asked for its kind, walked in a comprehension. -/
namespace Br
open PySem PySem.Spec PyProof.Rows L2
section
variable {K : PySem.W.Frag} {X : Xc} {S : Sa} {Q : Sv → Os → Prop} {te tl : TE} {g : TG} {tt : TT}
theorem ew_isiL {n : String} (h : EW K X te S fun x os => ∃ j xs r, x = .o j ∧ os[j]? = some (.ml xs) ∧ kitB "list" n = some r ∧ Q (.d (.bl r)) os) : EW K X (tCB (rIsi K) (tCons te (tCons (tC (.ty n)) tNil))) S Q := fun as H σ Q' R x k =>
  h as H σ _ R x fun v H1 d os1 g1 R1 r1 ⟨j, xs, r, ed, eo, er, q⟩ => by
    subst ed
    obtain ⟨a, ea, rfl⟩ := r1
    obtain ⟨vs, h1, _⟩ := R1.own j a _ ea eo
    exact ⟨_, .ty n, .type "list", .type n, r, rfl, .ty n, .base (.lst h1), kit_ty er, k (.bl r) H1 (.d (.bl r)) os1 g1 R1 (Dx.bl r) q⟩
/-- a comprehension over a list of the store that stays as it is -/
theorem ew_lcO {vs : List Nat} (hg : Wg g vs) (hm : Mg g) (h : EW K X tl S fun x os => ∃ j ds, x = .o j ∧ os[j]? = some (.ml ds) ∧ j < os.length ∧ ∃ Pv : Nat → List D → Os → Prop, Pv 0 [] os ∧ (∀ i acc os', Pv i acc os' → os'[j]? = some (.ml ds)) ∧
      (∀ i d acc os', ds[i]? = some d → Pv i acc os' → GW K g (.d d) ⟨wipeS S.s vs, os' ++ [.ml acc]⟩ fun S2 => TW K X0 tt S2 fun b os2 =>
        if b = true then EW K X0 te ⟨S2.s, os2⟩ fun y os3 => ∃ z os4, y = .d z ∧ os3 = os4 ++ [.ml acc] ∧ acc.length < sizeLine ∧ Pv (i + 1) (acc ++ [z]) os4 else ∃ os4, os2 = os4 ++ [.ml acc] ∧ Pv (i + 1) acc os4) ∧
      ∀ acc os', Pv ds.length acc os' → Q (.d (.lst acc)) os') : EW K X (tLc (iList K tl) g tt te vs) S Q := fun as H σ Q' R x k =>
  h as H σ _ R x fun v H1 d1 os1 g1 R1 r1 ⟨j, ds, ed, eo, hj, Pv, p0, stay, turn, fin⟩ => by
    subst ed
    obtain ⟨a, ea, rfl⟩ := r1
    obtain ⟨ws0, hw0, _⟩ := R1.own j a _ ea eo
    refine ⟨a, rfl, ⟨ws0, .inl (.inl hw0)⟩, fun Dl hD => ?_⟩
    have R1' := R.go g1 R1
    have seq : ∀ {H2 : Hp} {os2 : Os} {acc : List D}, Ro K (as ++ [Dl]) H2 (os2 ++ [.ml acc]) → os2[j]? = some (.ml ds) → ∃ vs, H2 a = some (.lst vs) ∧ DxA K (as ++ [Dl]) H2 vs ds := fun {H2 os2 acc} R2 e => by
      have ha : (as ++ [Dl])[j]? = some a := by rw [List.getElem?_append_left (List.getElem?_eq_some_iff.mp ea).1]; exact ea
      have he : (os2 ++ [Ob.ml acc])[j]? = some (.ml ds) := by rw [List.getElem?_append_left (List.getElem?_eq_some_iff.mp e).1]; exact e
      obtain ⟨vs, h1, h2⟩ := R2.own j a _ ha he
      exact ⟨vs, h1, h2⟩
    refine ⟨fun i m H2 => m = ds.length - i ∧ i ≤ ds.length ∧ ∃ acc os2, Stp as H1 (as ++ [Dl]) H2 ∧ Re K (as ++ [Dl]) H2 σ ⟨S.s, os2 ++ [.ml acc]⟩ ∧ Pv i acc os2, ⟨_, rfl, Nat.zero_le _, [], os1, stp_add hD, ?_, p0⟩, ?_⟩
    · refine ⟨ro_add R1 hD, R1'.slen, fun i d hd => ?_⟩
      obtain ⟨u, e, r⟩ := R1'.slot i d hd
      exact ⟨u, e, (r.wayA hD).go (Go.at (by simp))⟩
    rintro i m H2 ⟨rfl, hi, acc, os2, s2, R2, p⟩
    obtain ⟨us, hu1, hu2⟩ := seq R2.o (stay i acc os2 p)
    by_cases hlt : i < ds.length
    · have hd : ds[i]? = some ds[i] := List.getElem?_eq_getElem hlt
      obtain ⟨u, e1, e2⟩ := hu2.get hd
      refine .inr ⟨⟨us, u, .inl (.inl hu1), e1⟩, fun H' => ∃ acc os3, Stp as H1 (as ++ [Dl]) H' ∧ Re K (as ++ [Dl]) H' σ ⟨S.s, os3 ++ [.ml acc]⟩ ∧ Pv (i + 1) acc os3, fun H' z => ⟨ds.length - (i + 1), by omega, rfl, hlt, z⟩, fun y H3 hyl => ?_⟩
      obtain ⟨rfl, hy⟩ := hyl
      have z := hy us (.inl (.inl hu1))
      rw [e1] at z
      cases z
      have base := turn i _ acc os2 hd p (as ++ [Dl]) H3 (wipe σ vs) _ (fun σ2 H4 => H4 = H3 ∧ ∃ S2, Re K (as ++ [Dl]) H3 σ2 S2 ∧ TW K X0 tt S2 fun b os2 =>
        if b = true then EW K X0 te ⟨S2.s, os2⟩ fun y os3 => ∃ z os4, y = .d z ∧ os3 = os4 ++ [.ml acc] ∧ acc.length < sizeLine ∧ Pv (i + 1) (acc ++ [z]) os4 else ∃ os4, os2 = os4 ++ [.ml acc] ∧ Pv (i + 1) acc os4) (re_wipe R2) e2 fun σ2 S2 R4 q => ⟨rfl, S2, R4, q⟩
      refine hm _ _ _ _ _ ?_ (hg _ _ _ _ base)
      rintro σ2 H4 ⟨⟨rfl, S2, R4, tw⟩, hl, ho⟩
      refine ⟨(wipe_ext hl fun i hi => ho i hi).trans (wipe_ext (wipe_length σ vs) fun i hi => wipe_out1 hi), ?_⟩
      refine tw _ H4 σ2 _ R4 XH.x0 fun b H5 os5 g5 R5 q5 => ?_
      have s5 := s2.trans (Stp.of_go g5 R5)
      cases b with
      | false =>
        obtain ⟨os4, rfl, q6⟩ := (show ∃ os4, os5 = os4 ++ [.ml acc] ∧ Pv (i + 1) acc os4 from q5)
        show ∃ acc os3, _
        exact ⟨acc, os4, s5, R2.go g5 R5, q6⟩
      | true =>
        show te σ2 H5 _
        refine (show EW K X0 te ⟨S2.s, os5⟩ _ from q5) _ H5 σ2 _ (R4.go g5 R5) XH.x0 fun w H6 e os6 g6 R6 r6 ⟨z, os7, ez, eo, hz, q7⟩ => ?_
        subst ez
        subst eo
        obtain ⟨ws, ew, rw'⟩ := (ro_drop R6).2.1
        refine ⟨ws, ew, by rw [rw'.length]; exact hz, acc ++ [z], os7, ?_, ?_, q7⟩
        · exact (s5.trans (Stp.of_go g6 R6)).trans (Stp.of_go (Go.at (by simp)) (ro_grow R6 ew r6))
        · exact (R2.go (g5.trans g6) R6).go (Go.at (by simp)) (ro_grow R6 ew r6)
    · have e : i = ds.length := by omega
      subst e
      obtain ⟨Rd, ob, nin⟩ := ro_drop R2.o
      obtain ⟨ws, ew, rw'⟩ := ob
      exact .inl ⟨⟨us, .inl (.inl hu1), by rw [hu2.length]; exact Nat.le_refl _⟩, k (.ref Dl) H2 (.d (.lst acc)) os2 (g1.trans s2.go) Rd (Dx.lst (.inl ⟨nin, .inl ew⟩) rw') (fin acc os2 p)⟩
end
/-! ### data that is copied -/
mutual
def D.cpy : D → Bool
  | .non => true
  | .bl _ => true
  | .int _ => true
  | .lst xs => decide (xs.length ≤ 100000) && D.cpys xs
  | .tup xs => decide (xs.length ≤ 100000) && D.cpys xs
  | _ => false
def D.cpys : List D → Bool
  | [] => true
  | x :: r => D.cpy x && D.cpys r
end
theorem cpys_all : ∀ {xs : List D}, D.cpys xs = true ↔ ∀ x ∈ xs, x.cpy = true
  | [] => ⟨fun _ _ h => (nomatch h), fun _ => rfl⟩
  | x :: r => by
    have e : D.cpys (x :: r) = (D.cpy x && D.cpys r) := rfl
    have ih := cpys_all (xs := r)
    rw [e, Bool.and_eq_true]
    constructor
    · intro h y hy
      rcases List.mem_cons.mp hy with z | z
      · exact z ▸ h.1
      · exact ih.mp h.2 y z
    · intro h
      exact ⟨h x List.mem_cons_self, ih.mpr fun y hy => h y (List.mem_cons_of_mem _ hy)⟩
end Br

/-! BrXB: own classes of exceptions over RuntimeError, with their own __init__. -/
namespace Br
open PySem PySem.Spec PyProof.Rows L2
/-- a built-in class of exceptions, as own classes stand over it -/
structure OvB (B newId initId : String) (bmB : List Value) : Prop where
  FB : ExcBaseFacts B newId initId bmB
  SF : StoreFacts B bmB "object.__setattr__" "object"
abbrev reMro : List Value := [.type "RuntimeError", .type "Exception", .type "BaseException", .type "object"]
theorem ovR : OvB "RuntimeError" "RuntimeError.__new__" "RuntimeError.__init__" reMro := ⟨PySem.F.excBase_RuntimeError, PySem.F.store_RuntimeError⟩
theorem ty_re : typeOf (.type "RuntimeError") = pure (.type "type") := by kernel_rfl
/-- an own class over it -/
structure OeB (K : PySem.W.Frag) (C : Addr) (bmB : List Value) (newId : String) : Prop where
  q : PySem.W.excInitIn K C bmB newId = true
  ov : PySem.W.excOver K C bmB = true
  hd : PySem.W.hasDictIn K C = true
  sa : PySem.W.findIn K (.ref C) "__setattr__" = some (some (.builtin "object.__setattr__"))
  exC : PySem.W.subIn K (.ref C) (.type "BaseException") = some true
  tyC : PySem.W.typeIn K (.ref C) = some (.type "type")
  kC : PySem.W.keepIn K (.ref C) = true
section
variable {B newId initId : String} {bmB : List Value} {X : Cx} {pins : List (Addr × Obj)} {σ : L2.St} {H : Hp} {s : Shared} {a C : Addr} {A : Around} {E : Value → Shared → Prop}
/-- self.f = u, the only field: first the dict is laid, then the exception is turned to it -/
theorem ostB {f : Str} {y : V} {u : Value} {Q : Unit → Shared → Prop} (V : OvB B newId initId bmB) (T : OeB X.K C bmB newId) (I : Inv X pins σ H s) (e : H a = some (exo a C none)) (hno : NoAttr X.K C f) (ry : RelV y u)
    (h : ∀ dx s', H dx = none → dx ≠ a → Inv X pins σ (upd (upd H dx (exd dx [(f, y)])) a (exo a C (some dx))) s' → Q () s') : wpAny (model X.prog X.w) A (setAttr (.ref a) f u) Q E s := by
  obtain ⟨t1, ho⟩ := exo_at I.hok e
  obtain ⟨cd, hc, hd⟩ := PySem.W.any_some T.hd
  obtain ⟨hp, g, d, t, os⟩ := s
  refine PySem.W.set_plain I.kIn (od := none) ⟨ho, rfl, rfl, trivial⟩ T.sa ?_
  refine PySem.W.osa_openX (od := none) V.SF I.kIn ⟨ho, rfl, rfl, trivial⟩ T.ov (NoAttr.taker hno) fun b => ?_
  refine wpAny_bind (wpAny_pure (wpAny_bind (PySem.W.instanceDict_exc (t := t1) (c2 := .none) ho (PySem.W.looks_clsIn I.kIn hc) hd ?_)))
  have hlt : ∀ {b : Addr} {o : Obj}, hp.get? b = some o → b ≠ hp.objs.size := fun q => Nat.ne_of_lt (Heap.lt_size q)
  have hda : hp.objs.size ≠ a := (hlt ho).symm
  show wpAny _ _ (Builtin.ObjectAttr.storeInDict hp.objs.size (.str f _) f u) _ _ _
  refine PySem.HandSPX.store_in_new ?_ ?_
  · exact ⟨_, #[], _, (Heap.get?_update_ne _ _ _ _ hda).trans (Heap.get?_push_at rfl rfl), rfl, fun e he => absurd he (by simp), fun _ => rfl⟩
  · intro h' tk' hn' hs
    have ga : h'.get? a = some ({ cls := .ref C, dict := some hp.objs.size, data := .fields #[.ref t1, .none, .none, .none, .bool false, .none] } : Obj) := (hs.2 a hda.symm).trans (Heap.get?_update_self _ (Heap.get?_push_of_some _ ho) rfl)
    have g1 : (h'.update a fun o => { o with dict := none }).get? a = some ({ cls := .ref C, data := .fields #[.ref t1, .none, .none, .none, .bool false, .none] } : Obj) := Heap.get?_update_self _ ga rfl
    have g2 : ∀ b, b ≠ a → (h'.update a fun o => { o with dict := none }).get? b = h'.get? b := fun b hb => Heap.get?_update_ne _ _ _ _ hb
    have I1 := I.laid (t' := tk') (a := hp.objs.size) (o := exd hp.objs.size [(f, y)]) (h' := h'.update a fun o => { o with dict := none }) (fun b o q => by
      by_cases hb : b = a
      · subst hb
        rw [show hp.get? b = _ from ho] at q
        rw [g1]
        exact q
      · exact (g2 b hb).trans ((hs.2 b (hlt q)).trans ((Heap.get?_update_ne _ _ _ _ hb).trans (Heap.get?_push_of_some _ q)))) (Nat.le_refl _) (exd_ok (hn'.at fun o q => (g2 _ hda).trans q) (relO_put (fs := []) ry fun _ => True.intro))
    have I2 := I1.write (t' := tk') (x := a) (e := a) (o := exo a C (some hp.objs.size)) (h' := h') (by rw [upd_ne hda.symm, e]; exact True.intro) (.inl rfl) (fun b o hb q => (g2 b hb).symm.trans q) ⟨_, ga⟩ (exo_ok ga)
    exact h hp.objs.size _ (I.hok.fresh (Nat.le_refl _)) hda I2
/-- B.__init__(self, ..) tells nothing -/
theorem initB {us : List Value} {Q : Value → Shared → Prop} (V : OvB B newId initId bmB) (T : OeB X.K C bmB newId) (I : Inv X pins σ H s) (e : H a = some (exo a C none)) (hl : us.length ≤ sizeLine) (h : ∀ s', Inv X pins σ H s' → Q .none s') :
    wpAny (model X.prog X.w) A (call (.builtin initId) (.ref a :: us)) Q E s := by
  obtain ⟨_, _, _, _, _, _, _, _, _, _, _, _, _, _, _, _, hC, hT⟩ := PySem.W.excInit_of I.kIn T.q
  obtain ⟨t1, ho⟩ := exo_at I.hok e
  obtain ⟨hp, g, d, t, os⟩ := s
  refine wpAny_call (PySem.HandSPX.init_base V.FB hT hC ho hl fun h' t2 k hx => ?_)
  have J := I.write (t' := t) (x := a) (e := a) (o := exo a C none) (by rw [e]; trivial) (.inl rfl) k ⟨_, hx⟩ (exo_ok hx)
  have same : upd H a (exo a C none) = H := funext fun b => by
    by_cases hb : b = a
    · subst hb
      exact upd_same.trans e.symm
    · exact upd_ne hb
  rw [same] at J
  exact h _ J
end
/-- what RuntimeError.__init__(self, ..) asks -/
def tReI (K : PySem.W.Frag) (ta : TA) : TE := fun σ H Q => ta σ H fun vs H1 => ∃ (a C : Addr) (ws : List V), vs = .ref a :: ws ∧ ws.length ≤ 1000 ∧ OeB K C reMro "RuntimeError.__new__" ∧ H1 a = some (exo a C none) ∧ Q .non H1
/-- self.f = e asks -/
def tReF (K : PySem.W.Frag) (f : Str) (to te : TE) : TS := fun D σ H => te σ H fun y H1 => to σ H1 fun x H2 => ∃ a C : Addr, x = .ref a ∧ OeB K C reMro "RuntimeError.__new__" ∧ NoAttr K C f ∧ H2 a = some (exo a C none) ∧
  ∀ dx, H2 dx = none → dx ≠ a → D.nx σ (upd (upd H2 dx (exd dx [(f, y)])) a (exo a C (some dx)))
section
variable {X : Cx} {o e : Expr} {es : List Expr} {to te : TE} {ta : TA} {f : Str} {p p' p1 p2 pos : Pos}
theorem pe_reinit {pl : Sem Bool} (hg : Gl X "RuntimeError") (hm : X.mg "RuntimeError" = none) (vV : PySem.W.findCls X.K (.type "RuntimeError") (.type "type") "__init__" = some (.val (.builtin "RuntimeError.__init__"))) (ha : PA X (e :: es) ta)
    (hc : eval (.Call (.Attribute (.Name "RuntimeError" p1) "__init__" p2) (e :: es) [] pos) X.env = (do let ov ← eval (.Name "RuntimeError" p1) X.env; standAt p2.atName; let (f, first) ← holding [ov] (getMethod ov "__init__" pl); callWith pos f first (backTo pos (starEach (e :: es) X.env)) (backToKw pos (keywordEach [] X.env))) := by rfl)
    (h1 : starEach (e :: es) X.env = (false, eval e X.env) :: starEach es X.env := by rfl) (h2 : (backTo pos (starEach es X.env)).any (·.1) = false := by rfl) :
    PE X (.Call (.Attribute (.Name "RuntimeError" p1) "__init__" p2) (e :: es) [] pos) (tReI X.K ta) := by
  refine ⟨fun pins s σ H Q I h => PySem.W.methodCall_KW (ld_blt I hg hm PyProof.Rows.Boot.«RuntimeError» ?_ (by decide) (by decide)) hc⟩
  obtain ⟨m, fr⟩ := I.fr
  refine PySem.W.method_type fr I.ok.mod.kin ty_re (by decide +kernel) vV (by decide +kernel) ?_
  show wpAny _ _ (callWith pos (Value.builtin "RuntimeError.__init__") [] (backTo pos (starEach (e :: es) X.env)) []) _ _ _
  refine PyProof.Rows.callWith_method1 (thn (ha.run pos pins _ σ H _ (I.tok _) h) ?_) h1 h2
  rintro us s1 ⟨_, H1, I1, r1, a, C, ws, rfl, hl, T, ea, q⟩
  cases r1 with
  | @cons _ w0 _ ur ra rw' =>
    cases (show w0 = Value.ref a from ra)
    exact initB ovR T I1 ea (by rw [← rw'.length]; exact Nat.le_trans hl (by decide)) fun s' J => ⟨.non, H1, J, rfl, q⟩
theorem ps_reF (ho : PE X o to) (he : PE X e te) (hs : swapsWith e (some (.Attribute o f p')) pos.line X.env = pure false := by rfl) : PS X (.Assign [.Attribute o f p'] e pos) (tReF X.K f to te) := by
  refine ⟨fun pins s σ H D I h => plainObj_wpAny_Assign_Attribute (thn (he.run pins s σ H _ I h) ?_) hs⟩
  rintro v s1 ⟨y, H1, I1, r1, q1⟩
  refine thn (ho.run pins s1 σ H1 _ I1 q1) ?_
  rintro u s2 ⟨x, H2, I2, r2, a, C, rfl, T, hno, ea, q⟩
  cases (show u = Value.ref a from r2)
  exact ostB ovR T I2 ea hno r1 fun dx s' n ne J => ⟨σ, _, J, q dx n ne⟩
/-- C(e, ..), to be raised -/
theorem pmk_re {CX : CXT} {x : Str} {C fI : Addr} {k : Nat} {fd : FuncData} {ps : List Str} {sp : Sp} (T : OeB X.K C reMro "RuntimeError.__new__") (iC : PySem.W.findIn X.K (.ref C) "__init__" = some (some (.ref fI))) (tI : PySem.W.typeIn X.K (.ref fI) = some (.type "function"))
    (F1 : FnOk X.prog X.w X.K X.mg X.base CX k fI fd ps sp) (hr : Room (k + 1) X.A) (hb : Binds X.K fd ps []) (hx : Passes CX X (fun _ _ _ => False)) (hg : Gl X x) (hm : X.mg x = some (.ref C)) (ha : PA X (e :: es) ta)
    (hdb : (x == ("__debug__" : Str)) = false := by decide) (h1 : starEach (e :: es) X.env = (false, eval e X.env) :: starEach es X.env := by rfl) (h2 : (backTo pos (starEach es X.env)).any (·.1) = false := by rfl) :
    PMk X (.Call (.Name x p) (e :: es) [] pos) (tMkO C sp [] ta) := fun pins s σ H Q I h => by
  refine wpAny_Call_Name_kw (ld_glob I hg hm (PySem.W.callWith_K (h₀ := X.base) I.ok.mod.kin T.kC (thn (ha.run pos pins _ σ H _ (I.tok _) h) ?_) h1 h2) hdb)
  rintro us ⟨hp, g, dr, tk, os⟩ ⟨vs, H1, I1, r1, hz, q1⟩
  refine ⟨I1.kIn, ?_⟩
  show wpAny _ _ (call (.ref C) us) _ _ _
  obtain ⟨_, _, _, _, _, _, _, _, _, _, _, _, _, _, _, _, hC, hT⟩ := PySem.W.excInit_of I1.kIn T.q
  have hn : hp.objs.size ≤ hp.objs.size + 1 := Nat.le_succ _
  have hq := q1 (hp.objs.size + 1) (I1.hok.fresh hn)
  have up : ∀ b o, hp.get? b = some o → ((hp.push (PySem.W.kdv_tup us)).push (PySem.HandSPX.excO C hp.objs.size)).get? b = some o := fun b o z => Heap.get?_push_of_some _ (Heap.get?_push_of_some _ z)
  have I2 := I1.laid (t' := tk) (o := exo (hp.objs.size + 1) C none) up hn (exo_ok (t1 := hp.objs.size) (by heap_get))
  have rs : Vals (V.ref (hp.objs.size + 1) :: (vs ++ [])) (Value.ref (hp.objs.size + 1) :: (us ++ [])) := .cons rfl (r1.append .nil)
  have many := rs.length
  rw [F1.len _ _ _ _ hq] at many
  refine wpAny_call (PySem.HandSPX.call_own ovR.FB hT hC (PySem.W.looks_findIn I1.kIn iC) (fun me => PySem.W.bind_fn I1.kIn me tI) (by rw [← r1.length]; exact Nat.le_trans hz (by decide)) (codeAny_mono (F1.run _ X.stack _ _ ⟨Value.ref (hp.objs.size + 1) :: us, []⟩ _ _ _ _ (hr.make C us []) (I2.env0.make C us []) (hb _ (Value.ref (hp.objs.size + 1) :: us) I2.kIn many.symm) rs hq) fun r s' back => ?_))
  cases r with
  | error er => exact hx pins σ _ _ er s' I2 back
  | ok fl =>
    cases fl with
    | ret u =>
      obtain ⟨_, H2, o2, b2, n2, k2, rv, rfl, d, fs, ea, ed, hd1, z⟩ := back
      obtain ⟨h2, g2, d2, t2, os'⟩ := s'
      exact ⟨rv, mk_end (raises_own T.exC T.tyC) I1 hn up n2 k2 o2 b2 ea ed hd1 z⟩
    | next => exact False.elim back
    | brk => exact False.elim back
    | cont => exact False.elim back
end
end Br

/-! BrG2: the law's own def, with the module table's place known. -/
namespace Br
open PySem PySem.Spec PyProof.Rows L2
/-- the module table is there and is no list -/
def sysAt (h : Heap) : Bool := match h.get? sysModules with
  | some ⟨.type c, _, _, _⟩ => !decide (c = "list")
  | _ => false
theorem sysAt_on {h : Heap} (e : sysAt h = true) : SysOn h := by
  unfold sysAt at e
  cases q : h.get? sysModules with
  | none =>
    rw [q] at e
    cases e
  | some o =>
    rw [q] at e
    obtain ⟨c, dd, dt, sl⟩ := o
    cases c with
    | type n =>
      have e2 : (!decide (n = "list")) = true := e
      refine ⟨_, q, fun z => ?_⟩
      cases z
      cases e2
    | _ => cases e
/-- a Hook, the module table looked at beside it -/
def sysHook (Hk : PySem.W.Hook) : PySem.W.Hook :=
  ⟨Hk.α × Bool, fun s => (Hk.obs s, sysAt s.heap), fun w => (Hk.val w, true), fun w h => Hk.says w h ∧ SysOn h, fun w s e => ⟨Hk.of w s (congrArg Prod.fst e), sysAt_on (congrArg Prod.snd e)⟩,
    fun w h h' ⟨a, o, e, n⟩ k => ⟨Hk.keeps w h h' a k, o, k _ _ e, n⟩⟩
/-- the goal that the head leaves, the module table's place told to the defs -/
theorem walkG2 {l : PySem.W.OpenLaw} {n k : Nat} {q : Program} {loose : List Str} {XP : (Str → Option Value) → Heap → Prop} {YP : World → Heap → Prop} {d : DefRec} {K : Params → PySem.W.Frag} {sp : World → Sp} {x : Str}
    (hn : l.most = some n) (hn2 : n ≤ sizeLine) (hdf : d.params.defaults = []) (room : Room k callerA) (hY : ∀ (w : World) (h : Heap), YP w h → (K w.params).In h ∧ SysOn h)
    (F : ∀ (w : World) (mg : Str → Option Value) (fa : Addr) (h : Heap), (K w.params).In h → h.Ns mainGlobals mg → mg d.name = some (.ref fa) →
      ∃ fd : FuncData, (∀ (s : Shared) (u : Value), BindsTo s fd ⟨[u], []⟩ [(x, u)]) ∧ ∀ base : Heap, SysOn base → (K w.params).In base → base.Ns mainGlobals mg → FnG l.prog w (K w.params) mg base k fa fd [x] (sp w))
    (promise : ∀ (w : World) (H : Hp) (a : Addr) (ns : List Int), ns.length ≤ n → SqL (K w.params) H a (ns.map V.int) → sp w [.ref a] H (fun v _ => v = .bl true) fun _ _ _ => False) :
    PySem.W.WalkO q loose XP YP l.row.toRowW d [] (fun f vs => PySem.call f vs) := by
  refine Att.attach_call hn hdf ?_
  intro w s₀ s₁ mg mb fa o pm cd doc a vs ns G Y _ _ _ named obj nums len gens
  obtain ⟨inK, o2, e2, n2⟩ := hY w _ Y
  obtain ⟨fd, binds, hF⟩ := F w mg fa _ inK G.T.g named
  exact called inK G.T.g G.T.b G.T.builtins G.T.nolimit gens obj nums (Nat.le_trans len hn2) room (fun base kb nb old => hF base ⟨o2, old _ _ e2 n2, n2⟩ kb nb) binds fun H seq => promise w H a ns len seq
end Br

/-! BrMS: an instance whose making may raise; len and == by the own methods; lists taken apart, repeated, turned round. -/
namespace Br
open PySem PySem.Spec PyProof.Rows L2
/-- C(e, ..) where __init__ may raise -/
def tMakeS (C : Addr) (sp : Sp) (E : L2.St → XK) (t : TA) : TE := fun σ H Q => t σ H fun vs H1 => ∀ x dx, H1 x = none → H1 dx = none → dx ≠ x →
  sp (.ref x :: vs) (upd (upd H1 dx (.own x)) x (.ins C dx [])) (fun v H2 => v = .non ∧ Q (.ref x) H2) (E σ)
section
variable {X : Cx} {CX : CXT} {k : Nat} {C f : Addr} {fd : FuncData} {ps : List Str} {sp : Sp} {E : L2.St → XK} {x : Str} {p pos : Pos} {e : Expr} {es : List Expr} {t : TA}
theorem run_makeS {pins : List (Addr × Obj)} {σ : L2.St} {H : Hp} {s : Shared} {Q : VK} {us : List Value} {vs : List V} (M : Mk X.K C f) (F : FnOk X.prog X.w X.K X.mg X.base CX k f fd ps sp) (hr : Room (k + 1) X.A) (hb : Binds X.K fd ps []) (hx : PassesAt CX X σ (E σ)) (I : Inv X pins σ H s) (r : Vals vs us)
    (h : ∀ x dx, H x = none → H dx = none → dx ≠ x → sp (.ref x :: vs) (upd (upd H dx (.own x)) x (.ins C dx [])) (fun v H2 => v = .non ∧ Q (.ref x) H2) (E σ)) : wpAny (model X.prog X.w) X.A (call (.ref C) us) (EP X pins σ Q) X.xe s := by
  have hq := h (s.heap.objs.size + 1) s.heap.objs.size (I.hok.fresh (Nat.le_succ _)) (I.hok.fresh (Nat.le_refl _)) (Nat.ne_of_lt (Nat.lt_succ_self _))
  have J := Inv.made (C := C) I
  have rs : Vals (V.ref (s.heap.objs.size + 1) :: vs) (Value.ref (s.heap.objs.size + 1) :: us) := .cons rfl r
  have many := rs.length
  rw [F.len _ _ _ _ hq] at many
  have rs2 : Vals (V.ref (s.heap.objs.size + 1) :: vs) (Value.ref (s.heap.objs.size + 1) :: us ++ []) := by rw [List.append_nil]; exact rs
  refine wpAny_call (make_map (f := f) I.kIn M.makes M.init (beq_iff_eq.mp M.fn) (codeAny_mono (F.run _ X.stack _ _ ⟨Value.ref (s.heap.objs.size + 1) :: us, []⟩ _ _ _ (E σ) (hr.make C us []) (J.env0.make C us []) (hb _ (Value.ref (s.heap.objs.size + 1) :: us) J.kIn (by rw [List.append_nil]; exact many.symm)) rs2 hq) fun r s' back => ?_))
  cases r with
  | error er => exact hx pins _ _ er s' J back
  | ok fl =>
    cases fl with
    | ret u =>
      obtain ⟨v, H', J', rv, rfl, q⟩ := J.after back
      exact ⟨rv, V.ref (s.heap.objs.size + 1), H', J', rfl, q⟩
    | next => exact False.elim back
    | brk => exact False.elim back
    | cont => exact False.elim back
theorem pe_makeS (M : Mk X.K C f) (F : FnOk X.prog X.w X.K X.mg X.base CX k f fd ps sp) (hr : Room (k + 1) X.A) (hg : Gl X x) (hm : X.mg x = some (.ref C)) (hb : Binds X.K fd ps []) (hx : ∀ σ, PassesAt CX X σ (E σ))
    (ha : PA X (e :: es) t) (hdb : (x == ("__debug__" : Str)) = false := by decide) (h1 : starEach (e :: es) X.env = (false, eval e X.env) :: starEach es X.env := by rfl) (h2 : (backTo pos (starEach es X.env)).any (·.1) = false := by rfl) :
    PE X (.Call (.Name x p) (e :: es) [] pos) (tMakeS C sp E t) :=
  ⟨fun pins s σ H Q I h => wpAny_Call_Name_kw (ld_glob I hg hm (PySem.W.callWith_K (h₀ := X.base) I.ok.mod.kin M.kp (thn (ha.run pos pins _ σ H _ (I.tok _) h) fun us s1 ⟨vs, H1, I1, r, q⟩ => ⟨I1.kIn, run_makeS M F hr hb (hx σ) I1 r q⟩) h1 h2) hdb)⟩
end
section
variable {K : PySem.W.Frag} {X : Xc} {S : Sa} {Q : Sv → Os → Prop} {t : TA}
theorem ew_makeS {C : Addr} {f : FD} {wx : WX} {xe : Addr → List (Str × D) → Sa → Prop}
    (h : AW K ⟨wx, xe⟩ t S fun ds os => f (.o os.length :: ds) (os ++ [.mi C []]) (fun d os' => d = .non ∧ ∃ os2 fds, os' = os2 ++ [.mi C fds] ∧ Q (.d (.ob C fds)) os2) fun C' fds os' => ∃ os2 ob, os' = os2 ++ [ob] ∧ xe C' fds ⟨S.s, os2⟩) : EW K ⟨wx, xe⟩ (tMakeS C (spD K f) (WE wx) t) S Q := fun as H σ Q' R x k =>
  h as H σ _ R x fun vs H1 ds os1 g1 R1 r1 q1 x0 dx hx hdx hne => by
    have R2 := ro_addI (C := C) R1 hx hdx hne
    have g2 : Go as H1 (upd (upd H1 dx (.own x0)) x0 (.ins C dx [])) := (Go.new hdx).trans (Go.new (by rw [upd_ne (Ne.symm hne)]; exact hx))
    have s2 : Stp as H1 (as ++ [x0]) (upd (upd H1 dx (.own x0)) x0 (.ins C dx [])) := ⟨⟨[x0], rfl, fun a ha => by rw [List.mem_singleton.mp ha]; exact hx⟩, g2, fun a ha => by
      by_cases e1 : a = x0
      · rw [e1]; exact hx
      · rw [upd_ne e1] at ha
        by_cases e2 : a = dx
        · rw [e2]; exact hdx
        · rw [upd_ne e2] at ha
          exact ha⟩
    have rs : ∀ {us : List V} {es : List Sv}, SvA K as H1 us es → SvA K (as ++ [x0]) (upd (upd H1 dx (.own x0)) x0 (.ins C dx [])) us es := fun {us es} r => by
      induction r with
      | nil => exact .nil
      | cons h _ ih => exact .cons (h.stp s2) ih
    have back : ∀ {H' : Hp}, Go (as ++ [x0]) (upd (upd H1 dx (.own x0)) x0 (.ins C dx [])) H' → Go as H1 H' := fun {H'} g3 a o e n => g3 a o (g2 a o e n) fun z => by
      rcases List.mem_append.mp z with z | z
      · exact n z
      · rw [List.mem_singleton.mp z, hx] at e
        cases e
    refine ⟨as ++ [x0], os1 ++ [.mi C []], .o os1.length :: ds, _, _, R2, .cons ⟨x0, by rw [← R1.len]; simp, rfl⟩ (rs r1), q1, fun v H' d os' g3 R3 r3 ⟨ed, os2, fds, eo, q⟩ => ?_, fun C' dd H' fs fds os' g3 R3 nd ed rf ⟨os2, ob, eo, q⟩ => ?_⟩
    · subst ed
      subst eo
      cases r3
      obtain ⟨Rf, ⟨dx', vs', h1, h2, h3, h4⟩, nin⟩ := ro_drop R3
      exact ⟨rfl, k (.ref x0) H' (.d (.ob C fds)) os2 (g1.trans (back g3)) Rf (Dx.ob nin h2 h1 h3 h4) q⟩
    · subst eo
      obtain ⟨Rf, _, nin⟩ := ro_drop R3
      have g5 := back g3
      have sub : ∀ a ∈ as, a ∈ as ++ [x0] := fun a ha => List.mem_append_left _ ha
      have n1 : H1 dd = none := by
        by_cases e1 : dd = x0
        · rw [e1]; exact hx
        · rw [upd_ne e1] at nd
          by_cases e2 : dd = dx
          · rw [e2]; exact hdx
          · rw [upd_ne e2] at nd
            exact nd
      exact x H' C' dd fs fds os2 (g1.trans g5) Rf (g1.free (R1.notin n1) n1) ed (rf.way (Way.of_sub sub)) q
end
/-! ### len and == by the own methods -/
/-- the class at C, without a base, with an own __len__ -/
structure LnC (K : PySem.W.Frag) (C f : Addr) : Prop where
  cls : ∃ nm q N bs hdct sn sub ab col dd k0 k1 k2 k3 k5 newId, K.lookup C = some (excClassObj nm q C N bs [.type "object"] hdct sn sub ab col dd k0 k1 k2 k3 k5 newId) ∧
    (∃ oc od es ep sl, K.lookup N = some ⟨oc, od, .dict es ep, sl⟩ ∧ strKeysB es = true) ∧ PySem.W.nsIn K N "__len__" = some (some (.ref f))
theorem obj_len : typeLookup (.type "object") "__len__" = pure none := by
  rw [typeLookup_type, builtinLookup_eq_fast]
  kernel_rfl
/-- len(x), x of the class at C -/
def rLenI (C : Addr) (sp : Sp) : List V → Hp → VK → Prop := fun xs H Q => ∃ a dx fs, xs = [.ref a] ∧ H a = some (.ins C dx fs) ∧ sp [.ref a] H (fun v H' => ∃ n : Nat, v = .int (n : Int) ∧ n < 2 ^ 63 ∧ Q (.int (n : Int)) H') fun _ _ _ => False
section
variable {X : Cx} {C f : Addr} {fd : FuncData} {k : Nat} {sp : Sp}
theorem call_lenI (T : LnC X.K C f) (tf : PySem.W.typeIn X.K (.ref f) = some (.type "function")) (G : FnOk X.prog X.w X.K X.mg X.base CX0 k f fd ["self"] sp) (hb : Binds X.K fd ["self"] []) (hr : Room (k + 1) X.A) : CallR X (.builtin "len") (rLenI C sp) := by
  intro pins s σ H xs us Q I r h
  obtain ⟨a, dx, fs, rfl, ha, hs⟩ := h
  obtain ⟨u, rfl, rx⟩ := vals1 r
  cases (show u = Value.ref a from rx)
  obtain ⟨mA, J, _⟩ := ins_get I.hok ha
  obtain ⟨oa, Ja, _⟩ := J.look
  obtain ⟨nm, q, N, bs, hdct, sn, sub, ab, col, dd, k0, k1, k2, k3, k5, newId, hC, ⟨oc, od, es, ep, sl, hN, hk⟩, hq⟩ := T.cls
  obtain ⟨of, hof, hft⟩ := Option.map_eq_some_iff.mp (show (X.K.lookup f).map (·.cls) = some (.type "function") from tf)
  have hn : s.heap.Ns N (nsFind es) := ⟨_, es, ep, I.kIn _ _ hN, rfl, strKeys_of hk, fun _ => rfl⟩
  have e0 : Env0 X.prog X.w X.K X.mg X.base X.A.in1 X.stack s H := by
    have e := I.env0
    exact ⟨e.frames, e.mod, e.bs, e.bsz, e.funs, e.frf, e.hok, e.bare⟩
  obtain ⟨hp, g, d, tk, os⟩ := s
  obtain ⟨ea, ca, _, _⟩ := Ja
  have XX : hp.OwnSpecial a C f "object" "__len__" := ⟨_, of, nm, q, N, bs, [.type "object"], hdct, sn, sub, ab, col, dd, k0, k1, k2, k3, k5, newId, nsFind es, _, ea, ca, I.kIn _ _ hC, hn, ns_find hN hq, I.kIn _ _ hof, hft, F.cmp_object.mro, obj_len⟩
  refine len_own XX (wpAny_call (codeAny_mono (G.run X.A.in1 X.stack ⟨hp, g, d, tk, os⟩ H ⟨[.ref a], []⟩ [.ref a] [.ref a] _ _ hr.in1 e0 (by
    have z := hb ⟨hp, g, d, tk, os⟩ [.ref a] I.kIn rfl
    simpa using z) (.cons rfl .nil) hs) fun r s' back => ?_))
  cases r with
  | error e => exact back.elim
  | ok fl =>
    cases fl with
    | ret w =>
      obtain ⟨z, H', J', rz, n, rfl, hlt, q2⟩ := I.after back
      obtain ⟨t, rfl⟩ := (show ∃ t, w = Value.int (n : Int) t from rz)
      exact ⟨(n : Int), t, rfl, by omega, by omega, .int (n : Int), H', J'.tok _, ⟨_, rfl⟩, q2⟩
    | next => exact False.elim back
    | brk => exact False.elim back
    | cont => exact False.elim back
/-- x == y by the own ==, y a tuple -/
def rEqIT (K : PySem.W.Frag) (C : Addr) (sp : Sp) : R2 := fun x y H Q => ∃ a b dx fs ys, x = .ref a ∧ y = .ref b ∧ H a = some (.ins C dx fs) ∧ SqT K H b ys ∧ sp [.ref a, .ref b] H (fun v H' => ∃ r, v = .bl r ∧ Q (.bl r) H') fun _ _ _ => False
theorem op_eqIT (hs : PySem.W.findIn X.K (.ref C) "__eq__" = some (some (.ref f))) (tf : PySem.W.isFn X.K (.ref f) = true) (hno : PySem.W.notFirst X.K C (.type "tuple") = true) (G : FnOk X.prog X.w X.K X.mg X.base CX0 k f fd ["self", "other"] sp) (hb : Binds X.K fd ["self", "other"] []) (hr : Room (k + 1) X.A) :
    OpR X (compareOp .Eq) (rEqIT X.K C sp) := by
  intro pins s σ H x y v u Q I rx ry h
  obtain ⟨a, b, dx, fs, ys, rfl, rfl, ha, hys, hsp⟩ := h
  cases (show v = Value.ref a from rx)
  cases (show u = Value.ref b from ry)
  obtain ⟨mA, J, _⟩ := ins_get I.hok ha
  obtain ⟨oa, Ja, _⟩ := J.look
  obtain ⟨its, rv, ⟨ob, hob, hoc, _, _⟩, _⟩ := I.tuple hys
  obtain ⟨m, fr⟩ := I.fr
  have hu : X.A.units < cLine := by
    have := hr.un
    omega
  have LT : PySem.W.Looks (model X.prog X.w) s.heap (typeOf (.ref b)) (.type "tuple") := fun A Q E s k q => wpAny_typeOf_ref (k _ _ hob) (by rw [hoc]; exact q)
  refine PySem.W.cmp_ofEq (PySem.W.cmp_K hu fr I.ok.mod.kin Ja LT hno hs tf (wpAny_call (codeAny_mono (G.run X.A X.stack s H ⟨[.ref a, .ref b], []⟩ [.ref a, .ref b] [.ref a, .ref b] _ _ (hr.mono (Nat.le_succ _)) I.env0 (by
    have z := hb s [.ref a, .ref b] I.kIn rfl
    simpa using z) (.cons rfl (.cons rfl .nil)) hsp) fun r s' back => ?_)))
  cases r with
  | error e => exact back.elim
  | ok fl =>
    cases fl with
    | ret w =>
      obtain ⟨z, H', J', rz, c, ez, q2⟩ := I.after back
      subst ez
      cases rz
      exact ⟨.bl c, H', J', rfl, q2⟩
    | next => exact False.elim back
    | brk => exact False.elim back
    | cont => exact False.elim back
end
/-! ### taken apart: a tuple or a list -/
def gTL (K : PySem.W.Frag) (n : Nat) (t : TGs) : TG := fun v σ H Q => gTup K n t v σ H Q ∨ gLst K n t v σ H Q
theorem pg_tl {X : Cx} {pos : Pos} {es : List Expr} {k : Nat} {t : TGs} {n : Nat} (hc : X.calm = true) (h : PGs X es t) (hn : (assignEach es X.env).length = n := by rfl) (hst : (assignEach es X.env).findIdx? (·.1) = none := by rfl) : PG X (.Tuple es k pos) (gTL X.K n t) :=
  ⟨fun pins s σ H v u Q I r hw => hw.elim (fun z => (pg_tup hc h hn hst).run pins s σ H v u Q I r z) fun z => (pg_lst hc h hn hst).run pins s σ H v u Q I r z⟩
section
variable {K : PySem.W.Frag} {X : Xc} {S : Sa} {os : Os} {Q : Sv → Os → Prop} {te : TE} {ta : TA}
theorem gw_tl {gs : TGs} {n : Nat} {xs : List D} {d : D} {Q : Sa → Prop} (hd : d = .tup xs ∨ d = .lst xs) (hn : xs.length = n) (h : GsW K gs xs S Q) : GW K (gTL K n gs) (.d d) S Q := fun as H σ v Q' R r k => by
  rcases hd with rfl | rfl
  · cases r with
    | tup hl hr => exact .inl ⟨_, _, rfl, hl.sq, by rw [hr.length]; exact hn, h as H σ _ Q' R hr k⟩
  · cases r with
    | lst hl hr => exact .inr ⟨_, _, rfl, hl.sq, by rw [hr.length]; exact hn, h as H σ _ Q' R hr k⟩
/-- len by the own method -/
theorem cw_lenI {C : Addr} {f : FD} {fs : List (Str × D)} (h : f [.d (.ob C fs)] os (fun d os' => ∃ n : Nat, d = .int (n : Int) ∧ n < 2 ^ 63 ∧ Q (.d (.int (n : Int))) os') fun _ _ _ => False) : CW K (rLenI C (spD K f)) [.d (.ob C fs)] os Q := fun as H vs Q' R rx k => by
  cases rx with
  | cons r t =>
    cases t
    have r' : Dx K as H _ (.ob C fs) := r
    cases r' with
    | ob n1 n2 h1 h2 hr =>
      refine ⟨_, _, _, rfl, h1, as, os, [.d (.ob C fs)], _, _, R, .cons (show SvR K as H _ (.d (.ob C fs)) from Dx.ob n1 n2 h1 h2 hr) .nil, h, fun v H' d os' g R' r' ⟨n, ed, hl, q⟩ => ?_, fun _ _ _ _ _ _ _ _ _ _ _ z => z.elim⟩
      subst ed
      cases r'
      exact ⟨n, rfl, hl, k _ _ (.d (.int (n : Int))) os' g R' (Dx.int _) q⟩
/-- == by the own method, to a tuple -/
theorem bw_eqIT {C : Addr} {f : FD} {fs : List (Str × D)} {ys : List D} (h : f [.d (.ob C fs), .d (.tup ys)] os (fun d os' => ∃ r, d = .bl r ∧ Q (.d (.bl r)) os') fun _ _ _ => False) : BW K (rEqIT K C (spD K f)) (.d (.ob C fs)) (.d (.tup ys)) os Q := fun as H v u Q' R rx ry k => by
  have rx' : Dx K as H v (.ob C fs) := rx
  have ry' : Dx K as H u (.tup ys) := ry
  cases rx' with
  | ob n1 n2 h1 h2 hr =>
    cases ry' with
    | tup hl ht =>
      refine ⟨_, _, _, _, _, rfl, rfl, h1, hl.sq, as, os, [.d (.ob C fs), .d (.tup ys)], _, _, R, .cons (show SvR K as H _ (.d (.ob C fs)) from Dx.ob n1 n2 h1 h2 hr) (.cons (show SvR K as H _ (.d (.tup ys)) from Dx.tup hl ht) .nil), h, fun v H' d os' g R' r' ⟨c, ed, q⟩ => ?_, fun _ _ _ _ _ _ _ _ _ _ _ z => z.elim⟩
      subst ed
      cases r'
      exact ⟨c, rfl, k _ _ (.d (.bl c)) os' g R' (Dx.bl _) q⟩
/-- [e, ..] * i -/
theorem ew_repL {i : Int} (h : AW K X ta S fun xs os => ∃ ds, unD xs = some ds ∧ ds.length ≤ sizeLine ∧ (0 ≤ i ∧ i < 2 ^ 63) ∧ ds.length * i.toNat ≤ sizeLine ∧ Q (.d (.lst (List.replicate i.toNat ds).flatten)) os) : EW K X (tOp rRep (tLst ta) (tC (.int i))) S Q := fun as H σ Q' R x k =>
  h as H σ _ R x fun vs H1 xs os1 g1 R1 r1 ⟨ds, e, hl, hi, hz, q⟩ => by
    have hd := (unD_all e).dx r1
    refine ⟨by rw [hd.length]; exact hl, fun p hp => ⟨p, i, vs, rfl, rfl, upd_same, by omega, by omega, by rw [hd.length]; exact hz, fun p2 hp2 => ?_⟩⟩
    have hne : p2 ≠ p := fun z => by
      rw [z, upd_same] at hp2
      cases hp2
    rw [upd_ne hne] at hp2
    have g2 : Go as H1 (upd H1 p (.lst vs)) := Go.new hp
    have R2 : Ro K as (upd H1 p (.lst vs)) os1 := R1.new hp
    have hp3 : upd H1 p (.lst vs) p2 = none := by rw [upd_ne hne]; exact hp2
    have rep : ∀ n : Nat, DxA K as (upd H1 p (.lst vs)) (List.replicate n vs).flatten (List.replicate n ds).flatten := fun n => by
      induction n with
      | zero => exact .nil
      | succ n ih =>
        rw [List.replicate_succ, List.replicate_succ, List.flatten_cons, List.flatten_cons]
        exact (hd.way (Way.of_go g2)).app ih
    exact k (.ref p2) _ (.d (.lst (List.replicate i.toNat ds).flatten)) os1 ((g1.trans g2).trans (Go.new hp3)) (R2.new hp3) (dx_newL R2 hp3 (rep _)) q
theorem ew_revL (h : EW K X te S fun x os => ∃ xs, x = .d (.lst xs) ∧ Q (.d (.lst xs.reverse)) os) : EW K X (tRevL K te) S Q := fun as H σ Q' R x k =>
  h as H σ _ R x fun v H1 d os1 g1 R1 r1 ⟨xs, e, q⟩ => by
    subst e
    cases r1 with
    | lst hl hr => exact ⟨_, _, rfl, hl.sq, fun p hp => k (.ref p) _ (.d (.lst xs.reverse)) os1 (g1.trans (Go.new hp)) (R1.new hp) (dx_newL R1 hp hr.rev) q⟩
/-- a list of the store, put ahead of a list -/
theorem bw_catO {j : Nat} {xs ys : List D} (e : os[j]? = some (.ml xs)) (hl : xs.length + ys.length ≤ sizeLine) (q : Q (.d (.lst (xs ++ ys))) os) : BW K (rCatL K) (.o j) (.d (.lst ys)) os Q := fun as H v u Q' R rx ry k => by
  obtain ⟨a, ws, rfl, hs, hr⟩ := o_list R rx e
  have ry' : Dx K as H u (.lst ys) := ry
  cases ry' with
  | lst h3 h4 => exact ⟨_, _, _, _, rfl, rfl, hs, h3.sq, by rw [hr.length, h4.length]; exact hl, fun p hp => k (.ref p) _ (.d (.lst (xs ++ ys))) os (Go.new hp) (R.new hp) (dx_newL R hp (hr.app h4)) q⟩
theorem bw_neB {a b : Bool} (q : Q (.d (.bl (!decide (a = b)))) os) : BW K rNe (.d (.bl a)) (.d (.bl b)) os Q :=
  bw_pure (fun as H v u Q' R rx ry k => by
    cases rx
    cases ry
    have e : decide (V.bl a = V.bl b) = decide (a = b) := by simp
    exact ⟨rfl, by rw [e]; exact k _ (.bl _)⟩) q
end
end Br

/-! BrCG: calls of defs that stand at the law's own guards; an instance made by names alone; isinstance of an own class over plain things. -/
namespace Br
open PySem PySem.Spec PyProof.Rows L2
section
variable {X : Cx} {k : Nat} {f : Addr} {fd : FuncData} {ps : List Str} {sp : Sp} {x : Str} {p pos : Pos} {e : Expr} {es : List Expr} {t : TA}
theorem run_fnG {pins : List (Addr × Obj)} {σ : L2.St} {H : Hp} {s : Shared} {Q : VK} {us : List Value} {vs : List V} (F : FnG X.prog X.w X.K X.mg X.base k f fd ps sp) (hgd : X.A.guards = some []) (hr : Room k X.A) (hb : Binds X.K fd ps []) (I : Inv X pins σ H s) (r : Vals vs us) (h : sp vs H Q E0) :
    wpAny (model X.prog X.w) X.A (call (.ref f) us) (EP X pins σ Q) X.xe s := by
  have many := r.length
  rw [F.len _ _ _ _ h] at many
  refine wpAny_call (codeAny_mono (F.run X.A X.stack s H ⟨us, []⟩ us vs Q _ hgd hr I.env0 (by
    have z := hb s us I.kIn (by simpa using many.symm)
    simpa using z) r h) fun r s' back => ?_)
  cases r with
  | error e => exact back.elim
  | ok fl =>
    cases fl with
    | ret w =>
      obtain ⟨z, H', J', rz, q2⟩ := I.after back
      exact ⟨z, H', J', rz, q2⟩
    | next => exact False.elim back
    | brk => exact False.elim back
    | cont => exact False.elim back
theorem pe_callG (F : FnG X.prog X.w X.K X.mg X.base k f fd ps sp) (hgd : X.A.guards = some []) (hr : Room k X.A) (hg : Gl X x) (hm : X.mg x = some (.ref f)) (hk : PySem.W.keepIn X.K (.ref f) = true) (hb : Binds X.K fd ps []) (ha : PA X (e :: es) t)
    (hdb : (x == ("__debug__" : Str)) = false := by decide) (h1 : starEach (e :: es) X.env = (false, eval e X.env) :: starEach es X.env := by rfl) (h2 : (backTo pos (starEach es X.env)).any (·.1) = false := by rfl) :
    PE X (.Call (.Name x p) (e :: es) [] pos) (tCall sp [] E0 t) :=
  ⟨fun pins s σ H Q I h => wpAny_Call_Name_kw (ld_glob I hg hm (PySem.W.callWith_K (h₀ := X.base) I.ok.mod.kin hk (thn (ha.run pos pins _ σ H _ (I.tok _) h) fun us s1 ⟨vs, H1, I1, r, q⟩ => ⟨I1.kIn, run_fnG F hgd hr hb I1 r (by have q2 : sp (vs ++ []) H1 Q E0 := q; rw [List.append_nil] at q2; exact q2)⟩) h1 h2) hdb)⟩
end
section
variable {K : PySem.W.Frag} {X : Xc} {S : Sa} {Q : Sv → Os → Prop} {te : TE} {tk : TA}
theorem ew_makeK {m : Nat} {C : Addr} {f : FD} {gV : List V → List V → List V} {gS : List Sv → List Sv → List Sv} {E : XK} (hg : ∀ as H vs zs ds es, SvA K as H vs ds → SvA K as H zs es → SvA K as H (gV vs zs) (gS ds es))
    (h : AW K X tk S fun es os => es.length = m ∧ f (gS [.o os.length] es) (os ++ [.mi C []]) (fun d os' => d = .non ∧ ∃ os2 fds, os' = os2 ++ [.mi C fds] ∧ Q (.d (.ob C fds)) os2) fun _ _ _ => False) : EW K X (tMakeK C 0 m (spD K f) gV E tNil tk) S Q := fun as H σ Q' R x k =>
  h as H σ _ R x fun zs H1 es os1 g1 R1 r1 ⟨l1, q1⟩ => ⟨rfl, by rw [r1.length]; exact l1, fun x0 dx hx hdx hne => by
    have R2 := ro_addI (C := C) R1 hx hdx hne
    have g2 : Go as H1 (upd (upd H1 dx (.own x0)) x0 (.ins C dx [])) := (Go.new hdx).trans (Go.new (by rw [upd_ne (Ne.symm hne)]; exact hx))
    have s2 : Stp as H1 (as ++ [x0]) (upd (upd H1 dx (.own x0)) x0 (.ins C dx [])) := ⟨⟨[x0], rfl, fun a ha => by rw [List.mem_singleton.mp ha]; exact hx⟩, g2, fun a ha => by
      by_cases e1 : a = x0
      · rw [e1]; exact hx
      · rw [upd_ne e1] at ha
        by_cases e2 : a = dx
        · rw [e2]; exact hdx
        · rw [upd_ne e2] at ha
          exact ha⟩
    have rs : ∀ {us : List V} {es : List Sv}, SvA K as H1 us es → SvA K (as ++ [x0]) (upd (upd H1 dx (.own x0)) x0 (.ins C dx [])) us es := fun {us es} r => by
      induction r with
      | nil => exact .nil
      | cons h _ ih => exact .cons (h.stp s2) ih
    refine ⟨as ++ [x0], os1 ++ [.mi C []], gS [.o os1.length] es, _, _, R2, hg _ _ _ _ _ _ (.cons ⟨x0, by rw [← R1.len]; simp, rfl⟩ .nil) (rs r1), q1, fun v H' d os' g3 R3 r3 ⟨ed, os2, fds, eo, q⟩ => ?_, fun _ _ _ _ _ _ _ _ _ _ _ z => z.elim⟩
    subst ed
    subst eo
    cases r3
    obtain ⟨Rf, ⟨dx', vs', h1, h2, h3, h4⟩, nin⟩ := ro_drop R3
    have g5 : Go as H1 H' := fun a o e n => g3 a o (g2 a o e n) fun z => by
      rcases List.mem_append.mp z with z | z
      · exact n z
      · rw [List.mem_singleton.mp z, hx] at e
        cases e
    exact ⟨rfl, k (.ref x0) H' (.d (.ob C fds)) os2 (g1.trans g5) Rf (Dx.ob nin h2 h1 h3 h4) q⟩⟩
/-- isinstance(x, C) of a plain thing -/
theorem ew_isiP {C : Addr} (h : EW K X te S fun x os => ∃ d a r, x = .d d ∧ d.ty = some a ∧ PySem.W.kitOne K (.type a) (.ref C) = some r ∧ Q (.d (.bl r)) os) : EW K X (tCB (rIsi K) (tCons te (tCons (tC (.ref C)) tNil))) S Q := fun as H σ Q' R x k =>
  h as H σ _ R x fun v H1 d os1 g1 R1 r1 ⟨e, a, r, ed, ea, er, q⟩ => by
    subst ed
    exact ⟨v, .ref C, .type a, .ref C, r, rfl, .own C, dx_ty r1 ea, er, k (.bl r) H1 (.d (.bl r)) os1 g1 R1 (Dx.bl r) q⟩
end
end Br

/-! BrEO: enumerate over a list of the store, isinstance of it among two types, x = list(t) as a list of the store. -/
namespace Br
open PySem PySem.Spec PyProof.Rows L2
section
variable {K : PySem.W.Frag} {X : Xc} {S : Sa} {E : Ea} {te : TE} {tl : TA}
/-- for .. in enumerate(a list of the store that stays as it is) -/
theorem w_forEnO {g : TG} {tb : TS} (h : AW K X tl S fun xs os => ∃ j ds, xs = [.o j] ∧ os[j]? = some (.ml ds) ∧ ∃ Pv : Nat → Sa → Prop, Pv 0 ⟨S.s, os⟩ ∧ (∀ i S', Pv i S' → S'.os[j]? = some (.ml ds)) ∧
      (∀ i d S', ds[i]? = some d → Pv i S' → GW K g (.d (.tup [.int (i : Nat), d])) S' (W K X tb { nx := Pv (i + 1), ct := Pv (i + 1), bk := E.nx, rt := E.rt })) ∧ ∀ S', Pv ds.length S' → E.nx S') : W K X (tFor (iEn K tl) g tb) E S := fun as H σ D R x n r b c =>
  h as H σ _ R (x.h R) fun vs0 H1 xs0 os1 g1 R1 r1 ⟨j, ds, ed, eo, Pv, p0, stay, turn, fin⟩ => by
    subst ed
    cases r1 with
    | cons r1 rn =>
    cases rn
    obtain ⟨a, ea, rfl⟩ := r1
    have s1 : Stp as H as H1 := Stp.of_go g1 R1
    have seq : ∀ {bs H2 os2}, Stp as H1 bs H2 → Ro K bs H2 os2 → os2[j]? = some (.ml ds) → ∃ vs, H2 a = some (.lst vs) ∧ DxA K bs H2 vs ds := fun {bs H2 os2} s R2 e => by
      obtain ⟨nw, eb, _⟩ := s.pre
      have ha : bs[j]? = some a := by rw [eb, List.getElem?_append_left (List.getElem?_eq_some_iff.mp ea).1]; exact ea
      obtain ⟨vs, h1, h2⟩ := R2.own j a _ ha e
      exact ⟨vs, h1, h2⟩
    obtain ⟨ws, hw, _⟩ := seq Stp.refl R1 eo
    refine ⟨a, ws, rfl, .inl ⟨.inl (.inl hw), fun i m σ H2 => m = ds.length - i ∧ i ≤ ds.length ∧ ∃ bs S', Stp as H1 bs H2 ∧ Re K bs H2 σ S' ∧ Pv i S', ⟨_, rfl, Nat.zero_le _, as, _, Stp.refl, R.go g1 R1, p0⟩, ?_⟩⟩
    rintro i m σ2 H2 ⟨rfl, hi, bs, S2, s2, R2, p⟩
    obtain ⟨vs, h1, h2⟩ := seq s2 R2.o (stay i S2 p)
    by_cases hlt : i < ds.length
    · have hd : ds[i]? = some ds[i] := List.getElem?_eq_getElem hlt
      obtain ⟨u, e1, e2⟩ := h2.get hd
      refine .inr ⟨⟨vs, u, .inl (.inl h1), e1⟩, fun σ' H' => ∃ cs S', Stp as H1 cs H' ∧ Re K cs H' σ' S' ∧ Pv (i + 1) S', fun σ' H' z => ⟨ds.length - (i + 1), by omega, rfl, hlt, z⟩, fun y H3 hyl => ?_⟩
      obtain ⟨T, x2, rfl, hT, rfl, hy⟩ := hyl
      have z := hy vs (.inl (.inl h1))
      rw [e1] at z
      cases z
      have R3 := R2.o.new (o := .tup [.int (i : Nat), u]) hT
      have s3 : Stp bs H2 bs (upd H2 T (.tup [.int (i : Nat), u])) := Stp.of_go (Go.new hT) R3
      refine turn i _ S2 hd p bs _ σ2 _ _ (R2.go (Go.new hT) R3) (dx_newT R2.o hT (.cons (.int _) (.cons e2 .nil))) fun σ4 S4 R4 w => ?_
      refine w bs _ σ4 _ R4 ((x.stp s1).stp (s2.trans s3)) (fun cs H5 σ5 S5 s5 R5 q5 => ⟨cs, S5, (s2.trans s3).trans s5, R5, q5⟩) (fun cs H5 v d os5 s5 R5 r5 q5 => r cs H5 v d os5 (((s1.trans s2).trans s3).trans s5) R5 r5 q5)
        (fun cs H5 σ5 S5 s5 R5 q5 => n cs H5 σ5 S5 (((s1.trans s2).trans s3).trans s5) R5 q5) (fun cs H5 σ5 S5 s5 R5 q5 => ⟨cs, S5, (s2.trans s3).trans s5, R5, q5⟩)
    · have e : i = ds.length := by omega
      subst e
      exact .inl ⟨⟨vs, .inl (.inl h1), by rw [h2.length]; exact Nat.le_refl _⟩, n bs H2 σ2 S2 (s1.trans s2) R2 (fin S2 p)⟩
/-- x = list(a tuple or a list), a list that changes -/
theorem w_asgLo {i : Nat} (h : AW K X tl S fun xs os => ∃ ds, (xs = [.d (.tup ds)] ∨ xs = [.d (.lst ds)]) ∧ E.nx ⟨S.s.set i (some (.o os.length)), os ++ [.ml ds]⟩) : W K X (tAsg (tCB (rListOf K) tl) (gName i)) E S := fun as H σ D R x n r b c =>
  h as H σ _ R (x.h R) fun vs H1 xs os1 g1 R1 r1 ⟨ds, e, q⟩ => by
    have hv : ∃ a ws, vs = [.ref a] ∧ (SqL K H1 a ws ∨ SqT K H1 a ws) ∧ DxA K as H1 ws ds := by
      rcases e with rfl | rfl
      · cases r1 with
        | cons r1 rn =>
          cases rn
          cases (show Dx K as H1 _ (.tup ds) from r1) with
          | @tup a ws _ hl hr => exact ⟨a, ws, rfl, .inr hl.sq, hr⟩
      · cases r1 with
        | cons r1 rn =>
          cases rn
          cases (show Dx K as H1 _ (.lst ds) from r1) with
          | @lst a ws _ hl hr => exact ⟨a, ws, rfl, .inl hl.sq, hr⟩
    obtain ⟨a, ws, rfl, hs, hd⟩ := hv
    refine ⟨a, ws, rfl, hs, fun p hp => ?_⟩
    have R2 := ro_addL R1 hp hd
    have s2 : Stp as H1 (as ++ [p]) (upd H1 p (.lst ws)) := stp_add hp
    have sN := (Stp.of_go g1 R1).trans s2
    have RR : Re K (as ++ [p]) (upd H1 p (.lst ws)) σ ⟨S.s, os1 ++ [.ml ds]⟩ := ⟨R2, R.slen, fun j d hd => by
      obtain ⟨u, e, z⟩ := R.slot j d hd
      exact ⟨u, e, z.stp sN⟩⟩
    exact n _ _ _ _ sN (RR.set i (v := .ref p) (d := .o os1.length) ⟨p, by rw [← R1.len]; simp, rfl⟩) q
end
section
variable {K : PySem.W.Frag} {X : Xc} {S : Sa} {Q : Sv → Os → Prop} {te : TE}
theorem ew_isi2O {n1 n2 : String} (h : EW K X te S fun x os => ∃ j xs r, x = .o j ∧ os[j]? = some (.ml xs) ∧ PySem.W.kitAny K (.type "list") [.type n1, .type n2] = some r ∧ Q (.d (.bl r)) os) : EW K X (tCB (rIsiT K) (tCons te (tCons (tTup (tCons (tC (.ty n1)) (tCons (tC (.ty n2)) tNil))) tNil))) S Q := fun as H σ Q' R x k =>
  h as H σ _ R x fun v H1 d os1 g1 R1 r1 ⟨j, xs, r, ed, eo, er, q⟩ => by
    subst ed
    refine ⟨by show 2 ≤ sizeLine; decide, fun p hp => ?_⟩
    have g2 : Go as H1 (upd H1 p (.tup [.ty n1, .ty n2])) := Go.new hp
    have R2 := R1.new (o := .tup [.ty n1, .ty n2]) hp
    obtain ⟨a, ea, rfl⟩ := r1
    obtain ⟨vs, h1, h2⟩ := R2.own j a _ ea eo
    exact ⟨.ref a, p, [.ty n1, .ty n2], .type "list", [.type n1, .type n2], r, rfl, upd_same, .cons (.ty n1) (.cons (.ty n2) .nil), .base (.lst h1), er, k (.bl r) _ (.d (.bl r)) os1 (g1.trans g2) R2 (Dx.bl r) q⟩
end
end Br

/-! BrLm: a lambda handed to a def, its own names and the store known within. -/
namespace Br
open PySem PySem.Spec PyProof.Rows L2
/-! ### a lambda is made -/
/-- from H to H1: at most the table at P has grown, by the code object c1 -/
structure LamN (H H1 : Hp) (P c1 : Addr) (q : Str) : Prop where
  tab : LamX.TabS H1 P q
  ext : ∀ b o, b ≠ P → H b = some o → H1 b = some o
  th : ∀ b, H1 b = none → H b = none
  co : H1 c1 = some (LamX.CodeO c1 q)
section
variable {X : Cx} {pins : List (Addr × Obj)} {σ : L2.St} {H : Hp} {s : Shared}
theorem lam_new {c P : Addr} {params : Arguments} {body : Expr} {scope : Scope} {pos : Pos} {E Q : Value → Shared → Prop} (I : Inv X pins σ H s) (B : LamX.TabB X.base X.mg c P) (here : X.env.code = .ref c)
    (tab : LamX.TabS H P (X.env.qual ++ "<lambda>")) (noD : defaultsOf params X.env = ([], [])) (caught : ∀ y ∈ scope.names, y.2 = .free → ∃ c, X.env.cells.lookup y.1 = some c)
    (go : ∀ (f c1 : Addr) (pm ct : Value) (H1 : Hp) (s1 : Shared), Inv X pins σ H1 s1 → LamN H H1 P c1 (X.env.qual ++ "<lambda>") →
      s1.heap.get? f = some (PySem.W.kla_obj "<lambda>" (X.env.qual ++ "<lambda>") params body scope (cloFrom X.env.cells scope.names []) pm c1 ct) → H1 f = none → f ∉ frs X.stack → Q (.ref f) s1) :
    wpAny (model X.prog X.w) X.A (eval (.Lambda params body scope pos) X.env) Q E s := by
  obtain ⟨cells, atP, three, among⟩ := tab
  have onHeap : s.heap.get? P = some { cls := .none, data := .fields cells } := I.hok P _ atP
  have built : s.heap.BuiltinsAt X.mg P := B.bm.keeps I.bk
  have tall : ∀ f, s.heap.objs.size ≤ f → f ∉ frs X.stack := fun f le m => by
    cases List.mem_cons.mp (I.stkSub _ m) with
    | inl e =>
      have lt := I.lt
      rw [← e] at lt
      exact absurd (Nat.lt_of_lt_of_le lt le) (Nat.lt_irrefl _)
    | inr e => exact I.nofs le e
  apply PySem.W.kla_eval noD
  cases known : codeAmong pos cells.toList with
  | some cv =>
    obtain ⟨c1, ec, co⟩ := among pos cv known
    cases ec
    apply PySem.W.kla_makeFunctionHit (mg := X.mg) (c := c) (P := P) (ps := cells) (closure_ok caught) I.ok.glob (I.mod.glob.keeps I.bk) here (B.code.keeps I.bk) onHeap three known built
    intro ct h1 tk keeps size
    exact go h1.objs.size c1 _ ct H _ (I.kept fun b o e => Heap.get?_push_of_some _ (keeps b o e)) ⟨⟨cells, atP, three, among⟩, fun _ _ _ e => e, fun _ e => e, co⟩ (Heap.get?_push_size _ rfl) (I.hok.fresh size) (tall _ size)
  | none =>
    apply PySem.W.kla_makeFunction (mg := X.mg) (c := c) (P := P) (ps := cells) (closure_ok caught) I.ok.glob (I.mod.glob.keeps I.bk) here (B.code.keeps I.bk) onHeap three known B.gP built
    intro c1 ct h1 tk keeps le lt rec atP1
    obtain ⟨c2, oc, vs, t, e2, atc, dc, named⟩ := rec
    cases e2
    have size : s.heap.objs.size ≤ h1.objs.size := by omega
    have free : H c1 = none := I.hok.fresh le
    have ne : P ≠ c1 := ne_of_none atP free
    have J := LamX.inv_table (t' := tk) (more := #[rawInt pos.line, rawInt pos.col, .ref c1]) (h' := h1.push (PySem.W.kla_obj "<lambda>" (X.env.qual ++ "<lambda>") params body scope (cloFrom X.env.cells scope.names []) ((X.mg "__name__").getD .none) c1 ct)) I atP
      (fun b o n e => Heap.get?_push_of_some _ (keeps b o n e)) (Heap.get?_push_of_some _ atP1) le ⟨oc, vs, t, Heap.get?_push_of_some _ atc, dc, named⟩
    have old : ∀ b o, b ≠ P → H b = some o → upd (upd H P (.tbl (cells ++ #[rawInt pos.line, rawInt pos.col, .ref c1]))) c1 (LamX.CodeO c1 (X.env.qual ++ "<lambda>")) b = some o := fun b o n e => by
      rw [upd_ne (ne_of_none e free), upd_ne n]
      exact e
    have notP : ∀ c0, H c0 = some (LamX.CodeO c0 (X.env.qual ++ "<lambda>")) → c0 ≠ P := fun c0 e z => by
      rw [z, atP] at e
      exact LamX.codeO_ne _ (Option.some.inj e).symm
    refine go h1.objs.size c1 _ ct _ _ J ⟨⟨cells ++ #[rawInt pos.line, rawInt pos.col, .ref c1], ?_, ?_, ?_⟩, old, ?_, upd_same⟩ (Heap.get?_push_size _ rfl) ?_ (tall _ size)
    · rw [upd_ne ne, upd_same]
    · rw [Array.toList_append]
      exact PySem.TriplesOk_snoc _ _ _ _ three
    · intro p1 cv found
      rw [Array.toList_append] at found
      rcases LamX.among_app _ three found with z | z
      · obtain ⟨c0, e1, e2⟩ := among p1 cv z
        exact ⟨c0, e1, old _ _ (notP _ e2) e2⟩
      · exact ⟨c1, z, upd_same⟩
    · intro b e
      by_cases e1 : b = c1
      · rw [e1]
        exact free
      · rw [upd_ne e1] at e
        by_cases e2 : b = P
        · rw [e2, upd_same] at e
          cases e
        · rw [upd_ne e2] at e
          exact e
    · rw [upd_ne (show h1.objs.size ≠ c1 by omega), upd_ne (show h1.objs.size ≠ P from Nat.ne_of_gt (Nat.lt_of_lt_of_le (Heap.lt_size onHeap) size))]
      exact I.hok.fresh size
end
/-! ### a lambda is called -/
/-- a(), where the slot i holds the lambda f -/
def tAct (i : Nat) (f c1 : Addr) (q : Str) (tl : XK → Hp → VK → Prop) (W : WX) : TE := fun σ H Q => σ[i]? = some (some (.ref f)) ∧ H c1 = some (LamX.CodeO c1 q) ∧ tl (WE W σ) H Q
section
variable {X : Cx} {pins : List (Addr × Obj)} {σ : L2.St} {H : Hp} {s : Shared}
theorem pe_actS {CXg : CXT} {Eg : XK} {Ng : List Str} {qg a : Str} {sg scope : Scope} {g f c1 : Addr} {cdg pm ct : Value} {params : Arguments} {body : Expr} {k i : Nat} {pn : List (Addr × Obj)} {xe : Value → Shared → Prop} {W : WX} {t : XK → TE} {p1 p2 : Pos}
    (I : Inv X pins σ H s) (L : LamX.LamS X.env.scope scope) (obj : s.heap.get? f = some (PySem.W.kla_obj "<lambda>" (X.env.qual ++ "<lambda>") params body scope (cloFrom X.env.cells scope.names []) pm c1 ct)) (new : H f = none) (noFr : f ∉ frs X.stack)
    (binds : bindArgs (PySem.W.kla_fn "<lambda>" (X.env.qual ++ "<lambda>") params body scope (cloFrom X.env.cells scope.names []) pm (.ref c1) ct) ⟨[], []⟩ = pure [])
    (tk : Takes ((cxOf CXg X.prog X.w X.K X.mg X.base Ng qg sg g cdg X.A X.stack s H Eg).tr pn xe) W) (room : Room (k + 1) (X.A.deeper (envOfC qg sg s.heap.objs.size g cdg)))
    (inner : ∀ (A : Around) (outer : List Env) (s : Shared) (H : Hp) (E : XK), A.guards = X.A.guards → Room k (A.deeper (LamX.lamEnv X scope s.heap.objs.size f c1)) → PE (LamX.lamCx X A outer s H E scope f c1) body (t E))
    (named : Ng[i]? = some a) (vis : Vis sg a) (hd : (a == ("__debug__" : Str)) = false) (hcd : (a == ("__classdict__" : Str)) = false) :
    PE ((cxOf CXg X.prog X.w X.K X.mg X.base Ng qg sg g cdg X.A X.stack s H Eg).tr pn xe) (.Call (.Name a p1) [] [] p2) (tAct i f c1 (X.env.qual ++ "<lambda>") (fun E H' Q' => t E σ H' Q') W) := by
  constructor
  intro pinsZ sZ σZ HZ Q IZ ⟨slot, code, reading⟩
  apply wpAny_Call_Name_kw
  refine thn ((pe_var (pos := p1) (i := i) named vis hd hcd).run pinsZ sZ σZ HZ (fun v H1 => v = .ref f ∧ H1 = HZ) IZ ⟨.ref f, slot, rfl, rfl⟩) ?_
  rintro u s1 ⟨v, H1, I1, rel, ev, eH⟩
  subst ev
  rw [eH] at I1
  have eu : u = Value.ref f := rel
  subst eu
  have still : s1.heap.get? f = some (PySem.W.kla_obj "<lambda>" (X.env.qual ++ "<lambda>") params body scope (cloFrom X.env.cells scope.names []) pm c1 ct) := I1.base.keep f _ obj new noFr (fun z => nomatch (show f ∈ ([] : List Addr) from z))
  apply PySem.W.callWith_F0 ⟨_, _, _, _, still⟩
  have since : Un (frs X.stack) [] H HZ s.heap s1.heap := I1.base
  obtain ⟨⟨oc, vs, t0, atc, dc, nc⟩, _, _⟩ := I1.hok c1 _ code
  have ran : codeAny (model X.prog X.w) (X.A.deeper (envOfC qg sg s.heap.objs.size g cdg)) (.call (.ref f) ⟨[], []⟩) (CR (L2.CX X.prog X.w) (envOfC qg sg s.heap.objs.size g cdg :: X.stack) X.prog X.w HZ s1 Q (WE W σZ)) s1 := by
    apply PySem.W.kla_callFunE room.depth still rfl L.co L.gen rfl ⟨c1, oc, vs, t0, rfl, atc, dc, nc⟩
    rw [binds]
    apply wpAny_pure
    apply wpAny_newFunctionEnv (fun y m => (L.own y m).2) (fun y m => absurd m (by simp)) ?_ L.kind
    intro h1 ns sub
    refine ⟨I1.nolimit.fresh _ sub, ?_⟩
    show codeAny _ _ (.expr body (LamX.lamEnv X scope s1.heap.objs.size f c1)) _ _
    have kept : ∀ b o, s1.heap.get? b = some o → h1.get? b = some o := fun b o e => sub.extBut b o (Nat.ne_of_lt (Heap.lt_size e)) (Heap.get?_push_of_some _ e)
    have J := LamX.lam_start2 (A := X.A.deeper (envOfC qg sg s.heap.objs.size g cdg)) (outer := envOfC qg sg s.heap.objs.size g cdg :: X.stack) (E := WE W σZ) (tk := s1.toks + ([] : List (Str × Value)).length) (f := f) (c' := c1) I L I1.env0 room.hd since ns kept
    apply PySem.W.kla_codeExpr
    refine wpAny_mono ((inner (X.A.deeper (envOfC qg sg s.heap.objs.size g cdg)) _ s1 HZ (WE W σZ) rfl (room.deeper _)).run [] _ _ HZ Q J reading) ?_ fun _ _ z => z
    rintro v s2 ⟨w1, H2, J2, rv, q⟩
    exact ⟨w1, H2, J2.os, J2.bare, J2.base, J2.hok, rv, q⟩
  refine wpAny_call (codeAny_mono ran ?_)
  intro r s2 back
  cases r with
  | error e => exact passAt tk σZ pinsZ HZ s1 e s2 I1 back
  | ok fl =>
    cases fl with
    | ret u => exact I1.after back
    | next => exact False.elim back
    | brk => exact False.elim back
    | cont => exact False.elim back
end
/-! ### promises of lambdas, of defs that get one -/
abbrev FL := Os → (D → Os → Prop) → Xa → Prop
abbrev FG := FL → Os → (D → Os → Prop) → Prop
/-- a lambda keeps its promise -/
def LamOk (K : PySem.W.Frag) (r : Stb) (tl : XK → Hp → VK → Prop) (fl : FL) : Prop :=
  ∀ (as : List Addr) (H : Hp) (os : Os) (E : XK) (Q : VK) (QA : D → Os → Prop) (EA : Xa), r.R as H → Ro K as H os → fl os QA EA →
    (∀ v H' d os', Go as H H' → Ro K as H' os' → Dx K as H' v d → QA d os' → Q v H') →
    (∀ C dd H' fs fds os', Go as H H' → Ro K as H' os' → H dd = none → H' dd = some (.xd fs) → DxF K as H' fs fds → EA C fds os' → E (.ref C) (some dd) H') → tl E H Q
/-- what a def asks that gets a lambda -/
def TTof (K : PySem.W.Frag) (fg : FG) : (XK → Hp → VK → Prop) → Hp → VK → Prop := fun tl H Q => ∃ (as : List Addr) (os : Os) (r : Stb) (fl : FL) (QA : D → Os → Prop), Ro K as H os ∧ r.R as H ∧ LamOk K r tl fl ∧ fg fl os QA ∧
  ∀ v H' d os', Go as H H' → Ro K as H' os' → Dx K as H' v d → QA d os' → Q v H'
/-- the same, the code object named -/
def Stb.at (r : Stb) (c1 : Addr) (q : Str) : Stb where
  R as H := r.R as H ∧ c1 ∉ as ∧ H c1 = some (LamX.CodeO c1 q)
  go := fun ⟨h, n, e⟩ g => ⟨r.go h g, n, g _ _ e n⟩
  add := fun ⟨h, n, e⟩ hp => ⟨r.add h hp, ⟨fun z => (List.mem_append.mp z).elim n fun z => by
    rw [List.mem_singleton.mp z, hp] at e
    exact absurd e (by simp), e⟩⟩
theorem code_nin {K : PySem.W.Frag} {as : List Addr} {H : Hp} {os : Os} {c : Addr} {q : Str} (R : Ro K as H os) (e : H c = some (LamX.CodeO c q)) : c ∉ as := fun z => by
  obtain ⟨k, hk, ek⟩ := List.mem_iff_getElem.mp z
  have h1 : as[k]? = some c := by rw [List.getElem?_eq_getElem hk, ek]
  have h2 : k < os.length := R.len ▸ hk
  have w := R.own k c os[k] h1 (List.getElem?_eq_getElem h2)
  unfold LamX.CodeO at e
  cases eo : os[k] with
  | ml xs =>
    rw [eo] at w
    obtain ⟨_, u, _⟩ := w
    rw [e] at u
    cases u
  | md xs =>
    rw [eo] at w
    obtain ⟨_, u, _⟩ := w
    rw [e] at u
    cases u
  | mi C fs =>
    rw [eo] at w
    obtain ⟨_, _, u, _⟩ := w
    rw [e] at u
    cases u
  | tb P q =>
    rw [eo] at w
    obtain ⟨_, u, _⟩ := w
    rw [e] at u
    cases u
section
variable {K : PySem.W.Frag} {X : Xc} {S : Sa} {Q : Sv → Os → Prop}
/-- the lambda called, in the def that got it -/
theorem ew_act {i : Nat} {f c1 : Addr} {q : Str} {r : Stb} {fl : FL} {tl : XK → Hp → VK → Prop} {wx : WX} {xe : Addr → List (Str × D) → Sa → Prop} (hs : S.s[i]? = some (some (.fn f (r.at c1 q)))) (hl : LamOk K r tl fl)
    (h : fl S.os (fun d os' => Q (.d d) os') fun C fds os' => xe C fds ⟨S.s, os'⟩) : EW K ⟨wx, xe⟩ (tAct i f c1 q tl wx) S Q := fun as H σ Q' R x k => by
  obtain ⟨v, e, ev, hr, hn, hc⟩ := R.slot i _ hs
  subst ev
  exact ⟨e, hc, hl as H S.os _ _ _ _ hr R.o h (fun v H' d os' g R' r' z => k v H' (.d d) os' g R' r' z) fun C dd H' fs fds os' g R' n e' rf z => x H' C dd fs fds os' g R' n e' rf z⟩
/-- from what is asked to the body's reading -/
theorem readL_of {N : List Str} {fg : FG} {t : TS} {f c1 : Addr} {q : Str} {H : Hp} {QV : VK} {tl : XK → Hp → VK → Prop} (h : TTof K fg tl H QV) (hc : H c1 = some (LamX.CodeO c1 q))
    (w : ∀ r fl os QA, LamOk K r tl fl → fg fl os QA → W K X0 t { nx := fun S => RetOk os.length QA (.d .non) S.os, rt := RetOk os.length QA } ⟨startS N [.fn f (r.at c1 q)], os⟩) : t { nx := fun _ H' => QV .non H', rt := QV } (L2.start N [.ref f]) H := by
  obtain ⟨as, os, r, fl, QA, R, hr, hl, hg, kq⟩ := h
  have rs : SvA K as H [.ref f] [.fn f (r.at c1 q)] := .cons (show SvR K as H (.ref f) (.fn f (r.at c1 q)) from ⟨rfl, hr, code_nin R hc, hc⟩) .nil
  refine w r fl os QA hl hg as H _ _ (re_start R rs) XS.x0 (fun bs H' σ' S' s R' z => ?_) (fun bs H' v d os' s R' r' z => ?_) (fun _ _ _ _ _ _ z => z.elim) fun _ _ _ _ _ _ z => z.elim
  · exact ret_back s R.len R'.o (v := .non) (x := .d .non) Dx.non z kq
  · exact ret_back s R.len R' r' z kq
end
/-- a def that gets a lambda -/
def Lams (P : Program) (w : World) (K : PySem.W.Frag) (mg : Str → Option Value) (base : Heap) (x a : Str) (st : Stmt) (g : Addr) (N : List Str) (k : Nat) (q : Str) (fg : FG) : Prop :=
  ∀ (cdg : Value) (A : Around) (outer : List Env) (f c1 : Addr) (s : Shared) (H : Hp) (Q : VK) (tl : XK → Hp → VK → Prop), Room k (A.deeper (envOfC x (defScope st) s.heap.objs.size g cdg)) →
    (∀ (W : WX) (pn : List (Addr × Obj)) (xe : Value → Shared → Prop) (p1 p2 : Pos), Takes ((cxOf CX0 P w K mg base N x (defScope st) g cdg A outer s H E0).tr pn xe) W →
      PE ((cxOf CX0 P w K mg base N x (defScope st) g cdg A outer s H E0).tr pn xe) (.Call (.Name a p1) [] [] p2) (tAct 0 f c1 q tl W)) →
    H c1 = some (LamX.CodeO c1 q) → TTof K fg tl H Q →
    ∃ t, PSs (cxOf CX0 P w K mg base N x (defScope st) g cdg A outer s H E0).nox (defBody st) t ∧ t { nx := fun _ H' => Q .non H', rt := Q } (L2.start N [.ref f]) H
/-- x(lambda: ..) -/
def tLamB (P : Addr) (q : Str) (TT : (XK → Hp → VK → Prop) → Hp → VK → Prop) (t : XK → TE) : TE := fun σ H Q => LamX.TabS H P q ∧ ∀ c1 H1, LamN H H1 P c1 q → TT (fun E H' Q' => t E σ H' Q') H1 Q
theorem pe_lamB {X : Cx} {fg : FG} {x a : Str} {st : Stmt} {g c P : Addr} {fd : FuncData} {k : Nat} {Ng : List Str} {params : Arguments} {body : Expr} {scope : Scope} {t : XK → TE} {p lpos pos : Pos} (L : Lams X.prog X.w X.K X.mg X.base x a st g Ng (k + 1) (X.env.qual ++ "<lambda>") fg)
    (F : Fun X.K x x st g fd) (hg : Gl X x) (hm : X.mg x = some (.ref g)) (hb : L2.Binds X.K fd [a] []) (Sg : FnScope Ng [a] (defScope st)) (hN : Ng[0]? = some a) (hv : Vis (defScope st) a)
    (B : LamX.TabB X.base X.mg c P) (here : X.env.code = .ref c) (hr : Room (k + 2) X.A) (Ls : LamX.LamS X.env.scope scope) (noD : defaultsOf params X.env = ([], []))
    (binds : ∀ (q : Str) (cl : List (Str × Addr)) (pm cv ct : Value), bindArgs (PySem.W.kla_fn "<lambda>" q params body scope cl pm cv ct) ⟨[], []⟩ = pure [])
    (inner : ∀ (A : Around) (outer : List Env) (s : Shared) (H : Hp) (E : XK) (f c1 : Addr), A.guards = X.A.guards → Room k (A.deeper (LamX.lamEnv X scope s.heap.objs.size f c1)) → PE (LamX.lamCx X A outer s H E scope f c1) body (t E))
    (hdb : (x == ("__debug__" : Str)) = false := by decide) (hd : (a == ("__debug__" : Str)) = false := by decide) (hcd : (a == ("__classdict__" : Str)) = false := by decide) :
    PE X (.Call (.Name x p) [.Lambda params body scope lpos] [] pos) (tLamB P (X.env.qual ++ "<lambda>") (TTof X.K fg) t) := by
  obtain ⟨oc, od, kV, doc, pm, an, cdv, ct, osl, efd, lk, hcd2⟩ := F.ex
  constructor
  intro pins s σ H Q I ⟨tab, more⟩
  apply wpAny_Call_Name_kw
  refine ld_glob I hg hm ?_ hdb
  refine PySem.W.callWith_K (h₀ := X.base) I.ok.mod.kin F.kp ?_ (by rfl) (by rfl)
  show wpAny _ _ (spliced ((false, eval (.Lambda params body scope lpos) X.env) :: backTo pos (starEach [] X.env))) _ _ s
  refine Calls.spliced_cons (lam_new I B here tab noD (Ls.has I.ok) ?_)
  intro f c1 pm1 ct1 H1 s1 I1 grown obj new noFr
  refine Calls.spliced_nil ⟨I1.kIn, ?_⟩
  subst efd
  have ran : codeAny (model X.prog X.w) X.A (.call (.ref g) ⟨[.ref f], []⟩) (CR CX0 X.stack X.prog X.w H1 s1 Q E0) s1 := by
    refine LamX.run_ofS (N := Ng) (ps := [a]) (us := [.ref f]) (vs := [.ref f]) lk hcd2 Sg hr I1.env0 (hb s1 [.ref f] I1.kIn rfl) (.cons rfl .nil) rfl fun hr1 => ?_
    obtain ⟨t1, h1, q1⟩ := L cdv X.A X.stack f c1 s1 H1 Q (fun E H' Q' => t E σ H' Q') hr1 (fun W pn xe p1 p2 tk => pe_actS (i := 0) I1 Ls obj new noFr (binds _ _ _ _ _) tk hr1 (fun A outer s H E gd hr2 => inner A outer s H E f c1 gd hr2) hN hv hd hcd) grown.co (more c1 H1 grown)
    exact ⟨t1, h1.nox, q1⟩
  refine wpAny_call (codeAny_mono ran ?_)
  intro r s2 back
  cases r with
  | error e => exact (show False from back).elim
  | ok fl =>
    cases fl with
    | ret u => exact I1.after back
    | next => exact False.elim back
    | brk => exact False.elim back
    | cont => exact False.elim back
section
variable {K : PySem.W.Frag} {X : Xc} {S : Sa} {Q : Sv → Os → Prop}
theorem ew_lamB {j : Nat} {P : Addr} {q : Str} {fg : FG} {t : XK → TE} (fl : FL) (hk : S.os[j]? = some (.tb P q))
    (hl : ∀ (os : Os) (QA : D → Os → Prop) (EA : Xa) (E : XK), fl os QA EA → EW K ⟨fun cls d _ H => E cls d H, fun C fds S' => EA C fds S'.os⟩ (t E) ⟨S.s, os⟩ fun x os' => ∃ d, x = .d d ∧ QA d os')
    (h : fg fl S.os fun d os' => Q (.d d) os') : EW K X (tLamB P q (TTof K fg) t) S Q := fun as H σ Q' R x k => by
  have hj : j < as.length := by
    rw [R.o.len]
    exact (List.getElem?_eq_some_iff.mp hk).1
  have atj : as[j]? = some as[j] := List.getElem?_eq_getElem hj
  obtain ⟨ps, e1, eP, e2, e3⟩ := R.o.own j as[j] _ atj hk
  rw [eP] at e1
  have inP : P ∈ as := by
    rw [← eP]
    exact List.getElem_mem hj
  refine ⟨⟨ps, e1, e2, fun pos cv hc => ?_⟩, fun c1 H1 N => ?_⟩
  · obtain ⟨c, a, _, b⟩ := e3 pos cv hc
    exact ⟨c, a, b⟩
  · have g1 : Go as H H1 := fun a o e n => N.ext a o (fun z => n (z ▸ inP)) e
    have R1 : Ro K as H1 S.os := ⟨R.o.nd, R.o.len, fun i a ob h1 h2 => by
      by_cases ea : a = P
      · have ei : i = j := by
          obtain ⟨l1, m1⟩ := List.getElem?_eq_some_iff.mp h1
          exact (List.getElem_inj R.o.nd).mp (m1.trans (ea.trans eP.symm))
        subst ei
        rw [hk] at h2
        cases h2
        obtain ⟨ps2, a1, a2, a3⟩ := N.tab
        refine ⟨ps2, by rw [ea]; exact a1, ea, a2, fun pos cv hc => ?_⟩
        obtain ⟨c, b1, b2⟩ := a3 pos cv hc
        refine ⟨c, b1, fun z => ?_, b2⟩
        -- a code object is nothing of the store
        obtain ⟨i2, hi2, ei2⟩ := List.mem_iff_getElem.mp z
        have hc1 : as[i2]? = some c := by rw [List.getElem?_eq_getElem hi2, ei2]
        have hc2 : i2 < S.os.length := R.o.len ▸ hi2
        have w := R.o.own i2 c S.os[i2] hc1 (List.getElem?_eq_getElem hc2)
        by_cases ec : c = P
        · rw [ec, a1] at b2
          exact LamX.codeO_ne _ (Option.some.inj b2).symm
        · have nn : ∃ o, H c = some o ∧ ∀ q, o ≠ LamX.CodeO c q := by
            unfold LamX.CodeO
            cases eo : S.os[i2] with
            | ml xs =>
              rw [eo] at w
              obtain ⟨_, u, _⟩ := w
              exact ⟨_, u, fun _ z => by cases z⟩
            | md xs =>
              rw [eo] at w
              obtain ⟨_, u, _⟩ := w
              exact ⟨_, u, fun _ z => by cases z⟩
            | mi C fs =>
              rw [eo] at w
              obtain ⟨_, _, u, _⟩ := w
              exact ⟨_, u, fun _ z => by cases z⟩
            | tb P q =>
              rw [eo] at w
              obtain ⟨_, u, _⟩ := w
              exact ⟨_, u, fun _ z => by cases z⟩
          obtain ⟨o, u, no⟩ := nn
          have b3 := N.ext c o ec u
          rw [b2] at b3
          exact no _ (Option.some.inj b3).symm
      · exact (R.o.own i a ob h1 h2).way (Way.of_go g1) fun u e => N.ext a u ea e⟩
    let r : Stb := ⟨fun as H => σ.length = S.s.length ∧ ∀ (i : Nat) (d : Sv), S.s[i]? = some (some d) → ∃ v, σ[i]? = some (some v) ∧ SvR K as H v d,
      fun ⟨l, h⟩ g => ⟨l, fun i d e => let ⟨v, a, b⟩ := h i d e; ⟨v, a, b.go g⟩⟩, fun ⟨l, h⟩ hp => ⟨l, fun i d e => let ⟨v, a, b⟩ := h i d e; ⟨v, a, b.wayA hp⟩⟩⟩
    refine ⟨as, S.os, r, fl, _, R1, ⟨R.slen, fun i d e => let ⟨v, a, b⟩ := R.slot i d e; ⟨v, a, b.go g1⟩⟩, ?_, h, fun v H' d os' g R' r' z => k v H' (.d d) os' (g1.trans g) R' r' z⟩
    intro as2 H2 os2 E2 Q2 QA EA hr R2 f kq ke
    refine hl os2 QA EA E2 f as2 H2 σ Q2 ⟨R2, hr.1, hr.2⟩ (fun H' C dd fs fds os' g R' n e rf z => ke C dd H' fs fds os' g R' n e rf z) fun v H' y os' g R' r' ⟨d, ey, z⟩ => ?_
    subst ey
    exact kq v H' d os' g R' r' z
end
end Br

/-! BrLk: bits, insert, reversed, sums of tuples; calls by names that may raise; own exceptions whose field is any data; the copy of an empty dict. -/
namespace Br
open PySem PySem.Spec PyProof.Rows L2
/-! ### operations -/
def rAndM : R2 := fun x y H Q => ∃ (i : Int) (k : Nat), x = .int i ∧ y = .int (2 ^ k - 1) ∧ Q (.int (i % 2 ^ k)) H
def rShrN : R2 := fun x y H Q => ∃ (i : Int) (k : Nat), x = .int i ∧ y = .int (k : Int) ∧ Q (.int (i / 2 ^ k)) H
def rIns : V → List V → Hp → VK → Prop := fun x vs H Q => ∃ (l : Addr) (xs : List V) (i : Int) (y : V), x = .ref l ∧ vs = [.int i, y] ∧ H l = some (.lst xs) ∧ xs.length < sizeLine ∧ 0 ≤ i ∧ i < 2 ^ 63 ∧ Q .non (upd H l (.lst (xs.take i.toNat ++ [y] ++ xs.drop i.toNat)))
section
variable {X : Cx}
theorem op_maskA : OpR X (binaryOp .BitAnd) rAndM := op_andM
theorem op_rightA : OpR X (binaryOp .RShift) rShrN := op_shrN
theorem mt_insA : MtR X "list.insert" rIns := mt_insert
/-- sum of a tuple -/
def rSumT (K : PySem.W.Frag) : List V → Hp → VK → Prop := fun vs H Q => ∃ (a : Addr) (ns : List Int), vs = [V.ref a] ∧ SqT K H a (ns.map V.int) ∧ Q (.int ns.sum) H
theorem call_sumT (hc : X.calm = true) : CallR X (.builtin "sum") (rSumT X.K) := by
  intro pins s σ H vs us Q I r h
  obtain ⟨a, ns, rfl, hs, q⟩ := h
  obtain ⟨its, rv, ht, _⟩ := I.tuple hs
  rw [Vals.ref1 r]
  have hi := rv.ints
  obtain ⟨xs, e⟩ := hi.allInts.items
  have hn : numsOf (intItems xs).toList = ns := by rw [← e]; exact hi.numsOf
  rw [nums_intItems] at hn
  have ht2 : s.heap.IsTuple a its.toArray := by
    obtain ⟨o, ho, hc2, n, hd⟩ := ht
    exact ⟨o, ho, hc2, n, hd⟩
  rw [e] at ht2
  refine PySem.W.ktm_sumG (I.ok.hd hc) ht2 fun h' tk t' hk => ?_
  rw [preSum_eq, List.take_of_length_le (by simp), hn]
  exact ⟨.int _, H, I.kept hk, ⟨_, rfl⟩, q⟩
end
section
variable {K : PySem.W.Frag} {X : Xc} {S : Sa} {os : Os} {Q : Sv → Os → Prop} {to te tk : TE}
theorem bw_mask {i j : Int} (k : Nat) (hj : j = 2 ^ k - 1) (q : Q (.d (.int (i % 2 ^ k))) os) : BW K rAndM (.d (.int i)) (.d (.int j)) os Q :=
  bw_pure (fun as H v u Q' R rx ry z => by
    cases rx
    cases ry
    exact ⟨i, k, rfl, by rw [hj], z _ (.int _)⟩) q
theorem bw_right {i j : Int} (k : Nat) (hj : j = (k : Int)) (q : Q (.d (.int (i / 2 ^ k))) os) : BW K rShrN (.d (.int i)) (.d (.int j)) os Q :=
  bw_pure (fun as H v u Q' R rx ry z => by
    cases rx
    cases ry
    exact ⟨i, k, rfl, by rw [hj], z _ (.int _)⟩) q
theorem cw_sumT {ns : List Int} (q : Q (.d (.int ns.sum)) os) : CW K (rSumT K) [.d (.tup (ns.map D.int))] os Q :=
  cw_pure (fun as H vs Q' R r k => by
    cases r with
    | cons h t =>
      cases t
      cases h with
      | @tup a ws _ hl hr =>
        have e := DxA.of_ints hr
        subst e
        exact ⟨a, ns, rfl, hl.sq, k _ (.int _)⟩) q
/-- xs.insert(0, e) -/
theorem ew_ins0 (h : EW K X to S fun x os1 => ∃ k xs1, x = .o k ∧ os1[k]? = some (.ml xs1) ∧ EW K X tk ⟨S.s, os1⟩ fun z os2 => z = .d (.int 0) ∧ EW K X te ⟨S.s, os2⟩ fun y os3 => ∃ z xs, y = .d z ∧ os3[k]? = some (.ml xs) ∧ xs.length < sizeLine ∧ Q (.d .non) (os3.set k (.ml (z :: xs)))) :
    EW K X (tBM K "list" rIns to (tCons tk (tCons te tNil))) S Q := fun as H σ Q' R x k =>
  h as H σ _ R x fun v H1 d os1 g1 R1 r1 ⟨j, xs1, ed, eo1, h2⟩ => by
    subst ed
    obtain ⟨a, ea, rfl⟩ := r1
    refine ⟨?_, h2 as H1 σ _ (R.go g1 R1) (x.go g1 R1) fun w H2 e os2 g2 R2 r2 ⟨ez, h3⟩ => ?_⟩
    · obtain ⟨ws, q1, _⟩ := R1.own j a _ ea eo1
      exact .inl ⟨rfl, ws, .inl (.inl q1)⟩
    · subst ez
      cases r2
      refine h3 as H2 σ _ (R.go (g1.trans g2) R2) (x.go (g1.trans g2) R2) fun u H3 y os3 g3 R3 r3 ⟨z, xs, ey, eo, hl, q⟩ => ?_
      subst ey
      obtain ⟨vs, h4, h5⟩ := R3.own j a _ ea eo
      have hm : a ∈ as := List.mem_of_getElem? ea
      have g4 : Go as H3 (upd H3 a (.lst (u :: vs))) := Go.at hm
      have rz : Dx K as H3 u z := r3
      have R4 : Ro K as (upd H3 a (.lst (u :: vs))) (os3.set j (.ml (z :: xs))) := ro_set R3 ea ⟨_, upd_same, DxA.way (Way.of_go g4) (.cons rz h5)⟩
      exact ⟨a, vs, 0, u, rfl, rfl, h4, by rw [h5.length]; exact hl, by decide, by decide, k .non _ (.d .non) _ (((g1.trans g2).trans g3).trans g4) R4 Dx.non q⟩
/-- tuple(reversed(xs)) of a list of the store -/
theorem ew_tupRevO (h : EW K X te S fun x os => ∃ j xs, x = .o j ∧ os[j]? = some (.ml xs) ∧ Q (.d (.tup xs.reverse)) os) : EW K X (RT.tTupRev K te) S Q := fun as H σ Q' R x k =>
  h as H σ _ R x fun v H1 d os1 g1 R1 r1 ⟨j, xs, e, eo, q⟩ => by
    subst e
    obtain ⟨a, vs, rfl, hs, hr⟩ := o_list R1 r1 eo
    exact ⟨a, vs, rfl, hs, fun p hp => k (.ref p) _ (.d (.tup xs.reverse)) os1 (g1.trans (Go.new hp)) (R1.new hp) (dx_newT R1 hp hr.rev) q⟩
theorem ew_isKR {C C2 : Addr} (h : EW K X te S fun x os => ∃ fds r, x = .d (.xo C fds) ∧ PySem.W.kitOne K (.ref C) (.ref C2) = some r ∧ Q (.d (.bl r)) os) : EW K X (tCB (rIsK K C) (tCons te (tCons (tC (.ref C2)) tNil))) S Q := fun as H σ Q' R x k =>
  h as H σ _ R x fun v H1 d os1 g1 R1 r1 ⟨fds, r, ed, er, q⟩ => by
    subst ed
    cases r1 with
    | xo n1 n2 h1 h2 hr => exact ⟨_, _, _, .ref C2, .ref C2, r, rfl, h1, h2, .own C2, er, k (.bl r) H1 (.d (.bl r)) os1 g1 R1 (Dx.bl r) q⟩
end
/-! ### calls that may raise -/
def tCallNS (n m : Nat) (sp : Sp) (gV : List V → List V → List V) (E : L2.St → XK) (t tk : TA) : TE := fun σ H Q => t σ H fun vs H1 => tk σ H1 fun zs H2 => vs.length = n ∧ zs.length = m ∧ sp (gV vs zs) H2 Q (E σ)
section
variable {X : Cx} {CX : CXT} {k n : Nat} {f : Addr} {fd : FuncData} {ps ks : List Str} {sp : Sp} {E : L2.St → XK} {x : Str} {p pos : Pos} {e : Expr} {es : List Expr} {kws : List Keyword} {t tk : TA} {g : List Value → List Value → List Value} {gV : List V → List V → List V}
theorem pe_callNS (F : FnOk X.prog X.w X.K X.mg X.base CX k f fd ps sp) (hr : Room k X.A) (hg : Gl X x) (hm : X.mg x = some (.ref f)) (hk : PySem.W.keepIn X.K (.ref f) = true) (hb : KBn X.K fd ps n ks g gV) (hx : ∀ σ, PassesAt CX X σ (E σ))
    (ha : PA X (e :: es) t) (hkw : PK X kws tk) (hall : (backToKw pos (keywordEach kws X.env)).all (·.1.isSome) = true := by rfl) (hks : (backToKw pos (keywordEach kws X.env)).filterMap (·.1) = ks := by rfl)
    (hdb : (x == ("__debug__" : Str)) = false := by decide) (he : starEach (e :: es) X.env = (false, eval e X.env) :: starEach es X.env := by rfl)
    (hpl : ((backTo pos (starEach (e :: es) X.env)).any (·.1) || (backToKw pos (keywordEach kws X.env)).any (·.1.isNone)) = false := by rfl) :
    PE X (.Call (.Name x p) (e :: es) kws pos) (tCallNS n ks.length sp gV E t tk) := by
  constructor
  intro pins s σ H Q I h
  apply wpAny_Call_Name_kw
  refine ld_glob I hg hm ?_ hdb
  refine PySem.W.callWith_KW (h₀ := X.base) I.ok.mod.kin hk hall (thn (ha.run pos pins s σ H _ I h) ?_) hpl he
  rintro us s1 ⟨vs, H1, I1, r, q⟩
  refine thn (hkw.run pos pins s1 σ H1 _ I1 q) ?_
  rintro ws s2 ⟨zs, H2, I2, rz, l1, l2, q2⟩
  refine ⟨I2.kIn, ?_⟩
  rw [hks]
  refine wpAny_call (codeAny_mono (F.run X.A X.stack s2 H2 ⟨us, ks.zip ws⟩ (g us ws) (gV vs zs) Q (E σ) hr I2.env0 (hb.to s2 us ws I2.kIn (r.length.symm.trans l1) (rz.length.symm.trans l2)) (hb.rel r rz) q2) ?_)
  intro r3 s3 back
  cases r3 with
  | error e => exact hx σ pins H2 s2 e s3 I2 back
  | ok fl =>
    cases fl with
    | ret u => exact I2.after back
    | next => exact False.elim back
    | brk => exact False.elim back
    | cont => exact False.elim back
end
section
variable {K : PySem.W.Frag} {X : Xc} {S : Sa} {Q : Sv → Os → Prop} {ta tl tk : TA} {f : FD}
theorem ew_callNS {wx : WX} {xe : Addr → List (Str × D) → Sa → Prop} {n m : Nat} {gV : List V → List V → List V} {gS : List Sv → List Sv → List Sv} (hg : ∀ as H vs zs ds es, SvA K as H vs ds → SvA K as H zs es → SvA K as H (gV vs zs) (gS ds es))
    (h : AW K ⟨wx, xe⟩ tl S fun ds os => ds.length = n ∧ AW K ⟨wx, xe⟩ tk ⟨S.s, os⟩ fun es os2 => es.length = m ∧ f (gS ds es) os2 (fun d os' => Q (.d d) os') fun C fds os' => xe C fds ⟨S.s, os'⟩) : EW K ⟨wx, xe⟩ (tCallNS n m (spD K f) gV (WE wx) tl tk) S Q := fun as H σ Q' R x k =>
  h as H σ _ R x fun vs H1 ds os1 g1 R1 r1 ⟨l1, q1⟩ => q1 as H1 σ _ (R.go g1 R1) (x.go g1 R1) fun zs H2 es os2 g2 R2 r2 ⟨l2, q2⟩ => by
    refine ⟨by rw [r1.length]; exact l1, by rw [r2.length]; exact l2, as, os2, _, _, _, R2, hg _ _ _ _ _ _ (r1.go g2) r2, q2, fun v H3 d os3 g3 R3 r3 q3 => k v H3 (.d d) os3 ((g1.trans g2).trans g3) R3 r3 q3, fun C dd H3 fs fds os3 g3 R3 n3 e3 rf z => ?_⟩
    exact x H3 C dd fs fds os3 ((g1.trans g2).trans g3) R3 ((g1.trans g2).free (R2.notin n3) n3) e3 rf z
/-- with defaults that are filled up -/
theorem ew_callSD {wx : WX} {xe : Addr → List (Str × D) → Sa → Prop} {dvs : List V} {des : List Sv} (hd : ∀ as H, SvA K as H dvs des) (h : AW K ⟨wx, xe⟩ ta S fun ds os => f (ds ++ des) os (fun d os' => Q (.d d) os') fun C fds os' => xe C fds ⟨S.s, os'⟩) :
    EW K ⟨wx, xe⟩ (tCallSD (spD K f) dvs (WE wx) ta) S Q := fun as H σ Q' R x k =>
  h as H σ _ R x fun vs H1 ds os1 g1 R1 r1 q1 => by
    have app : ∀ {us : List V} {es : List Sv}, SvA K as H1 us es → SvA K as H1 (us ++ dvs) (es ++ des) := fun {us es} r => by
      induction r with
      | nil => exact hd as H1
      | cons h _ ih => exact .cons h ih
    refine ⟨as, os1, ds ++ des, _, _, R1, app r1, q1, fun v H2 d os2 g2 R2 r2 q2 => k v H2 (.d d) os2 (g1.trans g2) R2 r2 q2, fun C dd H2 fs fds os2 g2 R2 n2 e2 r2 z => ?_⟩
    exact x H2 C dd fs fds os2 (g1.trans g2) R2 (g1.free (R1.notin n2) n2) e2 r2 z
theorem ew_callD {dvs : List V} {des : List Sv} (hd : ∀ as H, SvA K as H dvs des) (h : AW K X ta S fun ds os => f (ds ++ des) os (fun d os' => Q (.d d) os') fun _ _ _ => False) : EW K X (tCall (spD K f) dvs E0 ta) S Q := fun as H σ Q' R x k =>
  h as H σ _ R x fun vs H1 ds os1 g1 R1 r1 q1 => by
    have app : ∀ {us : List V} {es : List Sv}, SvA K as H1 us es → SvA K as H1 (us ++ dvs) (es ++ des) := fun {us es} r => by
      induction r with
      | nil => exact hd as H1
      | cons h _ ih => exact .cons h ih
    exact ⟨as, os1, ds ++ des, _, _, R1, app r1, q1, fun v H2 d os2 g2 R2 r2 q2 => k v H2 (.d d) os2 (g1.trans g2) R2 r2 q2, fun _ _ _ _ _ _ _ _ _ _ _ z => z.elim⟩
end
/-! ### own exceptions over ValueError whose field is any data -/
theorem heap_one (a : Addr) (o : Obj) (nf : o.data ≠ .freed) : ∃ h : Heap, h.get? a = some o := by
  refine ⟨{ objs := Array.replicate (a + 1) o }, ?_⟩
  have e : (Array.replicate (a + 1) o)[a]? = some o := by simp
  obtain ⟨c, dd, dt, sl⟩ := o
  unfold Heap.get?
  rw [e]
  cases dt <;> first | rfl | exact absurd rfl nf
theorem exo_ne_exk {C C2 dd b : Addr} : Exk C2 dd b ≠ exo b C none := fun z => by
  unfold Exk exo at z
  injection z with z
  obtain ⟨h, e⟩ := heap_one b { cls := .ref C, dict := none, data := .fields #[.ref 0, .none, .none, .none, .bool false, .none] } (fun z => by cases z)
  have w : (∃ t1 : Addr, h.get? b = some ({ cls := .ref C, dict := none, data := .fields #[.ref t1, .none, .none, .none, .bool false, .none] } : Obj)) := ⟨0, e⟩
  rw [← congrFun z h] at w
  obtain ⟨oe, vs, e2, hz, _⟩ := w
  rw [e] at e2
  cases e2
  cases hz.2
theorem exo_ne_code {C c : Addr} {q : Str} : LamX.CodeO c q ≠ exo c C none := fun z => by
  unfold LamX.CodeO exo at z
  injection z with z
  obtain ⟨h, e⟩ := heap_one c { cls := .ref C, dict := none, data := .fields #[.ref 0, .none, .none, .none, .bool false, .none] } (fun z => by cases z)
  have w : (∃ t1 : Addr, h.get? c = some ({ cls := .ref C, dict := none, data := .fields #[.ref t1, .none, .none, .none, .bool false, .none] } : Obj)) := ⟨0, e⟩
  rw [← congrFun z h] at w
  obtain ⟨oe, vs, t, e2, ed, ev⟩ := w
  rw [e] at e2
  cases e2
  cases ed
  simp at ev
/-- all but an exception in the making stays -/
def KeepX (C : Addr) (H H' : Hp) : Prop := ∀ b u, H b = some u → u ≠ exo b C none → H' b = some u
section
variable {K : PySem.W.Frag} {as : List Addr} {H H' : Hp} {C : Addr}
theorem rd_kx (k : KeepX C H H') {a : Addr} {u : HO} (hu : ∀ b, u ≠ exo b C none) (h : Rd H a u) : Rd H' a u := by
  rcases h with h | ⟨o, h⟩
  · exact .inl (k a u h (hu a))
  · exact .inr ⟨o, k a _ h fun z => exo_frz z.symm⟩
theorem ql_kx (k : KeepX C H H') {a : Addr} {xs : List V} (h : QL K as H a xs) : QL K as H' a xs := by
  rcases h with ⟨n, h⟩ | h
  · exact .inl ⟨n, rd_kx k (fun b z => by unfold exo at z; cases z) h⟩
  · exact .inr h
theorem qt_kx (k : KeepX C H H') {a : Addr} {xs : List V} (h : QT K as H a xs) : QT K as H' a xs := by
  rcases h with ⟨n, h⟩ | h
  · exact .inl ⟨n, rd_kx k (fun b z => by unfold exo at z; cases z) h⟩
  · exact .inr h
mutual
theorem Dx.kx (k : KeepX C H H') : ∀ {v : V} {d : D}, Dx K as H v d → Dx K as H' v d
  | _, _, .non => .non
  | _, _, .bl b => .bl b
  | _, _, .int i => .int i
  | _, _, .str x => .str x
  | _, _, .lst h r => .lst (ql_kx k h) (DxA.kx k r)
  | _, _, .tup h r => .tup (qt_kx k h) (DxA.kx k r)
  | _, _, .dk n h r => .dk n (rd_kx k (fun b z => by unfold exo at z; cases z) h) (DxP.kx k r)
  | _, _, .ob n n2 h h2 r => .ob n n2 (k _ _ h (fun z => by unfold exo at z; cases z)) (k _ _ h2 (fun z => by unfold exo at z; cases z)) (DxF.kx k r)
  | _, _, .xo n n2 h h2 r => .xo n n2 (k _ _ h exo_ne_exk) (k _ _ h2 (fun z => by unfold exo at z; cases z)) (DxF.kx k r)
theorem DxA.kx (k : KeepX C H H') : ∀ {v : List V} {d : List D}, DxA K as H v d → DxA K as H' v d
  | _, _, .nil => .nil
  | _, _, .cons h r => .cons (Dx.kx k h) (DxA.kx k r)
theorem DxP.kx (k : KeepX C H H') : ∀ {v : List (Key × V)} {d : List (Key × D)}, DxP K as H v d → DxP K as H' v d
  | _, _, .nil => .nil
  | _, _, .cons h r => .cons (Dx.kx k h) (DxP.kx k r)
theorem DxF.kx (k : KeepX C H H') : ∀ {v : List (Str × V)} {d : List (Str × D)}, DxF K as H v d → DxF K as H' v d
  | _, _, .nil => .nil
  | _, _, .cons h r => .cons (Dx.kx k h) (DxF.kx k r)
end
theorem Ro.kx {os : Os} (k : KeepX C H H') (R : Ro K as H os) : Ro K as H' os := ⟨R.nd, R.len, fun i a ob h1 h2 => by
  have h := R.own i a ob h1 h2
  cases ob with
  | ml xs =>
    obtain ⟨vs, a1, a2⟩ := h
    exact ⟨vs, k _ _ a1 ((fun z => by unfold exo at z; cases z)), DxA.kx k a2⟩
  | md kds =>
    obtain ⟨vs, a1, a2⟩ := h
    exact ⟨vs, k _ _ a1 ((fun z => by unfold exo at z; cases z)), DxP.kx k a2⟩
  | mi C2 fds =>
    obtain ⟨dx, vs, a1, a2, a3, a4⟩ := h
    exact ⟨dx, vs, k _ _ a1 ((fun z => by unfold exo at z; cases z)), a2, k _ _ a3 ((fun z => by unfold exo at z; cases z)), DxF.kx k a4⟩
  | tb P q =>
    obtain ⟨ps, a1, a2, a3, a4⟩ := h
    refine ⟨ps, k _ _ a1 ((fun z => by unfold exo at z; cases z)), a2, a3, fun pos cv hc => ?_⟩
    obtain ⟨c, b1, b2, b3⟩ := a4 pos cv hc
    exact ⟨c, b1, b2, k _ _ b3 exo_ne_code⟩⟩
end
/-- C.__init__ of one field, of any data that is ok -/
def spIX (K : PySem.W.Frag) (C : Addr) (f : Str) (ok : D → Bool) : Sp := fun vs H Q _ => ∃ (as : List Addr) (os : Os) (a : Addr) (v : V) (d : D), vs = [.ref a, v] ∧ Ro K as H os ∧ a ∉ as ∧ Dx K as H v d ∧ ok d = true ∧ H a = some (exo a C none) ∧
  ∀ (dx : Addr) (v' : V) (H' : Hp), H dx = none → dx ≠ a → H' a = some (exo a C (some dx)) → H' dx = some (exd dx [(f, v')]) →
    (∀ Hf : Hp, (∀ b o, b ≠ a → b ≠ dx → H' b = some o → Hf b = some o) → (∀ b o, b ≠ a → b ∉ as → H b = some o → Hf b = some o) ∧ Ro K as Hf os ∧ Dx K as Hf v' d) → Q .non H'
section
variable {K : PySem.W.Frag} {X : Xc} {S : Sa} {E : Ea} {ta : TA}
theorem w_raiseX {C : Addr} {f : Str} {ok : D → Bool} {Wx : WX} (hw : Wx = X.wx) (h : AW K X ta S fun xs os => ∃ d, xs = [.d d] ∧ ok d = true ∧ X.xe C [(f, d)] ⟨S.s, os⟩) :
    W K X (fun _ σ H => tMkO C (spIX K C f ok) [] ta σ H fun cls dd H' => Wx cls dd σ H') E S := fun as H σ D R x n r b c => by
  refine h as H σ _ R (x.h R) fun vs H1 xs os1 g1 R1 r1 ⟨d, e, hP, q⟩ => ?_
  subst e
  cases r1 with
  | @cons u _ _ _ r1 rn =>
    cases rn
    have r1' : Dx K as H1 u d := r1
    refine ⟨Nat.le_of_ble_eq_true rfl, fun a ha => ⟨as, os1, a, _, d, rfl, R1.new ha, R1.notin ha, Dx.way (Way.of_go (Go.new ha)) r1', hP, upd_same, fun dx v' H2 h1 h2 h3 h4 hk => ⟨rfl, dx, _, h3, h4, ?_, ?_⟩⟩⟩
    · rw [upd_ne h2] at h1
      exact h1
    · have hdx : H1 dx = none := by
        rw [upd_ne h2] at h1
        exact h1
      obtain ⟨k1, R3, r3⟩ := hk (upd (del H2 a) dx (.xd [(f, v')])) fun b o n1 n2 e => by
        rw [upd_ne n2, del_ne n1]
        exact e
      have g2 : Go as H1 (upd (del H2 a) dx (.xd [(f, v')])) := fun b o e n => k1 b o (ne_of_none e ha) n (by rw [upd_ne (ne_of_none e ha)]; exact e)
      have z := x.h R _ C dx [(f, v')] [(f, d)] os1 (g1.trans g2) R3 (g1.free (R1.notin hdx) hdx) upd_same (.cons r3 .nil) q
      rw [hw]
      exact z
end
/-! ### {k: .. for k in {}} -/
section
variable {X : Cx} {tg e : Expr} {td : TE}
/-- locked, where it isn't yet -/
def tLk (t : TE) : TE := fun σ H Q => tLockE t σ H Q ∨ t σ H Q
theorem pe_lk {t : TE} (h : PE X e t) : PE X e (tLk t) := ⟨fun pins s σ H Q I z => z.elim ((pe_lock h).run pins s σ H Q I) (h.run pins s σ H Q I)⟩
end
section
variable {K : PySem.W.Frag} {X : Xc} {S : Sa} {Q : Sv → Os → Prop} {i : Nat} {g : TG} {tt : TT} {tk tv : TE} {vs : List Nat}
theorem dk_nil {as : List Addr} {H : Hp} {v : V} (r : Dx K as H v (.dk [])) : ∃ a, v = .ref a ∧ a ∉ as ∧ Rd H a (.dK []) := by
  cases r with
  | dk n h r =>
    cases r
    exact ⟨_, rfl, n, h⟩
theorem ew_dc0 (hs : S.s[i]? = some (some (.d (.dk [])))) (q : Q (.d (.dk [])) S.os) : EW K X (tLk (tDc (iKeys (tVar i)) g tt tk tv vs)) S Q := fun as H σ Q' R x k => by
  obtain ⟨v, e, r⟩ := R.slot i _ hs
  obtain ⟨a, rfl, na, rd⟩ := dk_nil r
  -- over a locked dict
  have walk : ∀ (H1 : Hp) (o : Obj) (Z : VK), H1 a = some (.frz o (.dK [])) → (∀ p, H1 p = none → Z (.ref p) (upd H1 p (.dK []))) → tDc (iKeys (tVar i)) g tt tk tv vs σ H1 Z := fun H1 o Z h z => by
    refine ⟨_, e, a, o, rfl, .inl ⟨[], h, fun p hp => ⟨fun i m H => i = 0 ∧ H = upd H1 p (.dK []), ⟨0, rfl, rfl⟩, ?_⟩⟩⟩
    rintro i m H2 ⟨rfl, rfl⟩
    refine .inl ⟨⟨?_, Nat.le_refl _⟩, z p hp⟩
    rw [upd_ne (ne_of_none h hp)]
    exact h
  rcases rd with h | ⟨o, h⟩
  · refine .inl ⟨a, _, h, by trivial, fun od => walk _ od _ upd_same fun p hp => ?_⟩
    have np : p ≠ a := fun z => by
      rw [z, upd_same] at hp
      cases hp
    have hp2 : H p = none := by
      rw [upd_ne np] at hp
      exact hp
    refine ⟨by rw [upd_ne (Ne.symm np), upd_same], ?_⟩
    have e2 : upd (upd (upd H a (.frz od (.dK []))) p (.dK [])) a (.dK []) = upd H p (.dK []) := funext fun b => by
      by_cases hb : b = a
      · rw [hb, upd_same, upd_ne (Ne.symm np)]
        exact h.symm
      · rw [upd_ne hb]
        by_cases hb2 : b = p
        · rw [hb2, upd_same, upd_same]
        · rw [upd_ne hb2, upd_ne hb2, upd_ne hb]
    rw [e2]
    exact k (.ref p) _ (.d (.dk [])) S.os (Go.new hp2) (R.o.new hp2) (Dx.dk (R.o.notin hp2) (.inl upd_same) .nil) q
  · exact .inr (walk H o _ h fun p hp => k (.ref p) _ (.d (.dk [])) S.os (Go.new hp) (R.o.new hp) (Dx.dk (R.o.notin hp) (.inl upd_same) .nil) q)
end
/-! ### what is shown, numbers of up to two hundred figures -/
mutual
theorem fit_pyW {M : Nat} (hM : M ≤ 10 ^ 200) : ∀ d : D, d.fit M = true → ∃ p, d.pyE = some p ∧ p.showable = true ∧ p.depth ≤ d.dpt ∧ p.shown.length ≤ d.ln
  | .non, _ => ⟨_, rfl, rfl, Nat.le_refl _, by decide⟩
  | .bl b, _ => ⟨_, rfl, rfl, Nat.le_refl _, by cases b <;> decide⟩
  | .int i, h => by
    have h1 : i.natAbs ≤ M := of_decide_eq_true h
    have h2 : i.natAbs.log2 < 1920 := by
      by_cases h0 : i.natAbs = 0
      · rw [h0]
        decide
      · refine (Nat.log2_lt h0).mpr (Nat.lt_of_le_of_lt (Nat.le_trans h1 hM) (by decide))
    exact ⟨_, rfl, decide_eq_true h2, Nat.le_refl _, int_text_len_1921 h2⟩
  | .str z, h => ⟨_, rfl, rfl, Nat.le_refl _, PySem.StrLaws.reprText_len z fun c hc => by
      have h1 := of_decide_eq_true (List.all_eq_true.mp (show z.cps.toList.all (fun c => decide (c < 128)) = true from h) c hc)
      exact Nat.lt_trans h1 (by decide)⟩
  | .lst xs, h => by
    obtain ⟨ps, e, h1, h2, h3⟩ := fits_pyW hM xs h
    refine ⟨.list ps, by show (D.pysE xs).map PyData.list = _; rw [e]; rfl, h1, Nat.succ_le_succ h2, ?_⟩
    refine Nat.le_trans (listText_len_le (PyData.shownAll ps)) ?_
    show _ ≤ D.lns xs + 3
    omega
  | .tup xs, h => by
    obtain ⟨ps, e, h1, h2, h3⟩ := fits_pyW hM xs h
    refine ⟨.tuple ps, by show (D.pysE xs).map PyData.tuple = _; rw [e]; rfl, h1, Nat.succ_le_succ h2, ?_⟩
    refine Nat.le_trans (tupleText_len_le (PyData.shownAll ps)) ?_
    show _ ≤ D.lns xs + 3
    omega
  | .dk [], _ => ⟨.dict [], rfl, rfl, by decide, by decide⟩
  | .dk (_ :: _), h => by cases (show false = true from h)
  | .ob _ _, h => by cases (show false = true from h)
  | .xo _ _, h => by cases (show false = true from h)
theorem fits_pyW {M : Nat} (hM : M ≤ 10 ^ 200) : ∀ ds : List D, D.fits M ds = true → ∃ ps, D.pysE ds = some ps ∧ PyData.showableAll ps = true ∧ PyData.depthAll ps ≤ D.dpts ds ∧ ((PyData.shownAll ps).map (·.length)).sum + 2 * (PyData.shownAll ps).length ≤ D.lns ds
  | [], _ => ⟨[], rfl, rfl, Nat.le_refl _, Nat.le_refl _⟩
  | d :: ds, h => by
    have e : D.fits M (d :: ds) = (D.fit M d && D.fits M ds) := rfl
    rw [e, Bool.and_eq_true] at h
    obtain ⟨p, a1, a2, a3, a4⟩ := fit_pyW hM d h.1
    obtain ⟨ps, b1, b2, b3, b4⟩ := fits_pyW hM ds h.2
    refine ⟨p :: ps, ?_, ?_, ?_, ?_⟩
    · show ((D.pyE d).bind fun p => (D.pysE ds).map fun ps => p :: ps) = _
      rw [a1, b1]
      rfl
    · show (p.showable && PyData.showableAll ps) = true
      rw [a2, b2]
      rfl
    · show max p.depth (PyData.depthAll ps) ≤ max d.dpt (D.dpts ds)
      omega
    · show ((p.shown.length :: (PyData.shownAll ps).map (·.length)).sum + 2 * ((PyData.shownAll ps).length + 1)) ≤ d.ln + 2 + D.lns ds
      rw [List.sum_cons]
      omega
end
theorem cw_reprW {K : PySem.W.Frag} {os : Os} {Q : Sv → Os → Prop} {M : Nat} {x : D} (hM : M ≤ 10 ^ 200) (h : x.fit M = true) (hl : x.ln ≤ 10000000) (hd : x.dpt ≤ 60) (q : Q (.d (.str (shownD x))) os) : CW K (rReprA K) [.d x] os Q := by
  obtain ⟨p, e, h1, h2, h3⟩ := fit_pyW hM x h
  have es : shownD x = p.shown := by
    unfold shownD
    rw [e]
  rw [es] at q
  exact cw_pure (fun as H vs Q' R r k => by
    cases r with
    | cons h t =>
      cases t
      exact ⟨as, _, x, p, rfl, h, e, h1, by omega, Nat.le_trans h3 (Nat.le_trans hl (by decide)), k _ (.str _)⟩) q
end Br

/-! BrGT: the law's own def, with its table of code objects and the module table's place. -/
namespace Br
open PySem PySem.Spec PyProof.Rows L2
theorem calledT {P : Program} {w : World} {K : PySem.W.Frag} {mg mb : Str → Option Value} {k : Nat} {fa a ct PT : Addr} {fd : FuncData} {x : Str} {sp : Sp} {s : Shared} {vs : List Value} {ns : List Int}
    (inK : K.In s.heap) (gl : s.heap.Ns mainGlobals mg) (bl : s.heap.Ns builtinsNs mb) (blb : ∀ y : Str, y ≠ "__name__" → mb y = bootBuiltins y) (lim : s.heap.NoLimit) (gens : s.gens = #[])
    (at_P : s.heap.get? PT = some { cls := .none, data := .fields #[] }) (notP : K.lookup PT = none) (hd : PySem.W.codeHdIn K ct PT = true)
    (mods : ∃ (bm : Addr) (ob : Obj), mg "__builtins__" = some (.ref bm) ∧ bm ≠ builtinsNs ∧ s.heap.get? bm = some ob ∧ ob.cls = .type "module" ∧ ob.dict = some builtinsNs ∧ ob.data = .plain)
    (at_a : s.heap.get? a = some { cls := .type "list", data := .seq vs.toArray }) (nums : IntsAre vs ns) (short : ns.length ≤ sizeLine) (room : Room k callerA)
    (F : ∀ base : Heap, K.In base → base.Ns mainGlobals mg → (∀ b o, s.heap.get? b = some o → o.cls ≠ .type "list" → b ≠ PT → base.get? b = some o) → LamX.TabB base mg ct PT → FnG P w K mg base k fa fd [x] sp) (binds : ∀ (s : Shared) (u : Value), BindsTo s fd ⟨[u], []⟩ [(x, u)])
    (promise : ∀ H : Hp, H PT = some (.tbl #[]) → SqL K H a (ns.map V.int) → sp [.ref a] H (fun v _ => v = .bl true) fun _ _ _ => False) :
    codeAny (model P w) callerA (.call (.ref fa) ⟨[.ref a], []⟩) (fun r s' => r = .ok (.ret (.bool true)) ∧ OldK s.heap s'.heap ∧ s'.os = s.os ∧ AllBare s'.gens) s := by
  have lenV := nums.length
  have vals := vals_ints nums
  have aP : a ≠ PT := fun z => by
    rw [z, at_P] at at_a
    cases at_a
  have Pa : PT ≠ a := Ne.symm aP
  -- what is tracked: the table, and the script, unless it is written
  obtain ⟨H, only, tabH, seq, ok, fresh⟩ : ∃ H : Hp, (∀ b, H b = none ∨ (b = a ∧ H b = some (.frz { cls := .type "list", data := .seq vs.toArray } (.lst (ns.map V.int)))) ∨ (b = PT ∧ H b = some (.tbl #[]))) ∧ H PT = some (.tbl #[]) ∧ SqL K H a (ns.map V.int) ∧ HOk P w H s.heap ∧ (H a ≠ none → K.lookup a = none) := by
    cases hk : K.lookup a with
    | some o =>
      have e := inK a o hk
      rw [at_a] at e
      cases e
      have look : ∀ b, (if b = PT then some (HO.tbl #[]) else none) = none ∨ (b = PT ∧ (if b = PT then some (HO.tbl #[]) else none) = some (.tbl #[])) := fun b => by
        by_cases e : b = PT
        · exact .inr ⟨e, if_pos e⟩
        · exact .inl (if_neg e)
      refine ⟨fun b => if b = PT then some (.tbl #[]) else none, fun b => (look b).imp id fun z => .inr z, if_pos rfl, .inr ⟨_, vs.toArray, _, hk, rfl, rfl, rfl, by rw [List.size_toArray, lenV]; exact short, by simpa using vals⟩, fun b u z => ?_, fun z => absurd (if_neg aP) z⟩
      rcases look b with q | ⟨e, q⟩
      · have y := q.symm.trans z
        cases y
      · have y := q.symm.trans z
        cases y
        rw [e]
        exact at_P
    | none =>
      have look : ∀ b, (if b = a then some (HO.frz { cls := .type "list", data := .seq vs.toArray } (.lst (ns.map V.int))) else if b = PT then some (HO.tbl #[]) else none) = none ∨
          (b = a ∧ (if b = a then some (HO.frz { cls := .type "list", data := .seq vs.toArray } (.lst (ns.map V.int))) else if b = PT then some (HO.tbl #[]) else none) = some (.frz { cls := .type "list", data := .seq vs.toArray } (.lst (ns.map V.int)))) ∨
          (b = PT ∧ (if b = a then some (HO.frz { cls := .type "list", data := .seq vs.toArray } (.lst (ns.map V.int))) else if b = PT then some (HO.tbl #[]) else none) = some (.tbl #[])) := fun b => by
        by_cases e : b = a
        · exact .inr (.inl ⟨e, if_pos e⟩)
        · by_cases e2 : b = PT
          · exact .inr (.inr ⟨e2, by rw [if_neg e, if_pos e2]⟩)
          · exact .inl (by rw [if_neg e, if_neg e2])
      refine ⟨fun b => if b = a then some (.frz { cls := .type "list", data := .seq vs.toArray } (.lst (ns.map V.int))) else if b = PT then some (.tbl #[]) else none, look, (if_neg Pa).trans (if_pos rfl), .inl (.inr ⟨_, if_pos rfl⟩), fun b u z => ?_, fun _ => rfl⟩
      rcases look b with q | ⟨e, q⟩ | ⟨e, q⟩
      · have y := q.symm.trans z
        cases y
      · have y := q.symm.trans z
        cases y
        subst e
        exact ⟨at_a, by rw [List.length_map]; exact short, vs, _, vals, at_a⟩
      · have y := q.symm.trans z
        cases y
        rw [e]
        exact at_P
  -- what isn't tracked
  have free : ∀ {b : Addr} {o : Obj}, s.heap.get? b = some o → o.cls ≠ .type "list" → b ≠ PT → H b = none := fun {b o} e n n2 => by
    rcases only b with z | ⟨rfl, _⟩ | ⟨q, _⟩
    · exact z
    · rw [at_a] at e
      cases e
      exact absurd rfl n
    · exact absurd q n2
  have dicts : ∀ {b : Addr} {o : Obj} {es : Array DictEntry} {ep : Nat}, s.heap.get? b = some o → o.data = .dict es ep → H b = none := fun {b o es ep} e d => by
    rcases only b with z | ⟨rfl, _⟩ | ⟨rfl, _⟩
    · exact z
    · rw [at_a] at e
      cases e
      exact absurd d (by intro z; cases z)
    · rw [at_P] at e
      cases e
      exact absurd d (by intro z; cases z)
  have low : ∀ {b : Addr} {m : Str → Option Value}, s.heap.Ns b m → (hidT s.heap H).Ns b m := by
    rintro b m ⟨o, es, ep, e, d, r⟩
    exact ⟨o, es, ep, hidT_get e (dicts e d), d, r⟩
  have lowK : K.In (hidT s.heap H) := fun b o e => hidT_get (inK b o e) (by
    rcases only b with z | ⟨rfl, z⟩ | ⟨rfl, _⟩
    · exact z
    · have y := fresh (by rw [z]; intro q; cases q)
      rw [e] at y
      cases y
    · rw [e] at notP
      cases notP)
  have others : ∀ b o, s.heap.get? b = some o → o.cls ≠ .type "list" → b ≠ PT → (hidT s.heap H).get? b = some o := fun b o e n n2 => hidT_get e (free e n n2)
  have limL : (hidT s.heap H).NoLimit := by
    obtain ⟨mc, h1, h2⟩ := lim
    exact ⟨mc, low h1, h2⟩
  have gP : mainGlobals ≠ PT := fun z => by
    obtain ⟨o, es, ep, e, d, _⟩ := gl
    rw [z, at_P] at e
    cases e
    cases d
  have TB : LamX.TabB (hidT s.heap H) mg ct PT := by
    refine ⟨PySem.W.codeHd_of_K lowK hd, ?_, gP⟩
    obtain ⟨bm, ob, b1, b2, b3, b4, b5, b6⟩ := mods
    have n1 : bm ≠ mainGlobals := fun z => by
      obtain ⟨o, es, ep, e, d, _⟩ := gl
      rw [z, e] at b3
      cases b3
      rw [d] at b6
      cases b6
    have n2 : bm ≠ PT := fun z => by
      rw [z, at_P] at b3
      cases b3
      cases b6
    exact ⟨bm, ob, b1, b2, n1, n2, others _ _ b3 (by rw [b4]; intro z; injection z with z; exact absurd z (by decide)) n2, b4, b5, b6⟩
  have e0 : Env0 P w K mg (hidT s.heap H) callerA [] s H :=
    ⟨rfl, ⟨lowK, low gl, ⟨mb, low bl, blb⟩, limL⟩, fun b o e => of_hidT e, Nat.le_of_eq (hidT_size _ _), trivial, fun b hb => (by cases hb), ok, .of_eq gens⟩
  have run := (F _ lowK (low gl) others TB).run callerA [] s H ⟨[.ref a], []⟩ [.ref a] [.ref a] (fun v _ => v = .bl true) (fun _ _ _ => False) rfl room e0 (binds s (.ref a)) (.cons rfl .nil) (promise H tabH seq)
  refine codeAny_mono run fun r s' q => ?_
  cases r with
  | error e => exact q.elim
  | ok fl =>
    cases fl with
    | next => exact q.elim
    | brk => exact q.elim
    | cont => exact q.elim
    | ret u =>
      obtain ⟨v, H2, os, bare, un, ok2, rv, ev⟩ := q
      have ev' : v = .bl true := ev
      subst ev'
      have eu : u = Value.bool true := rv
      subst eu
      obtain ⟨more, z2⟩ := un.tbls PT #[] tabH
      have grown : s'.heap.get? PT = some { cls := .none, data := .fields (#[] ++ more) } := ok2 PT _ z2
      have stays : ∀ b o, b ≠ PT → s.heap.get? b = some o → s'.heap.get? b = some o := fun b o n e => by
        rcases only b with z | ⟨rfl, z⟩ | ⟨q, _⟩
        · exact un.keep b o e z (by intro q; cases q) (by intro q; cases q)
        · have z2 := un.frzs _ _ _ z
          have y1 := (ok _ _ z).1
          have y2 := (ok2 _ _ z2).1
          rw [e] at y1
          cases y1
          exact y2
        · exact absurd q n
      refine ⟨rfl, ⟨fun b o e => ?_, fun b o e => ?_⟩, os, bare⟩
      · by_cases n : b = PT
        · rw [n] at e ⊢
          rw [at_P] at e
          cases e
          exact .inr (.inl ⟨((PySem.W.codeHd_of_K inK hd).tab at_P).isCodeTable, rfl, #[], more, rfl, grown⟩)
        · exact .inl (stays b o n e)
      · by_cases n : b = PT
        · rw [n]
          exact ⟨_, grown⟩
        · exact ⟨o, stays b o n e⟩
/-- the goal that the head leaves, the module table's place and the law's table told to the defs -/
theorem walkGT {l : PySem.W.OpenLaw} {n k : Nat} {q : Program} {loose : List Str} {XP : (Str → Option Value) → Heap → Prop} {YP : World → Heap → Prop} {d : DefRec} {K : Params → PySem.W.Frag} {PT : Addr} {sp : World → Sp} {x : Str}
    (hn : l.most = some n) (hn2 : n ≤ sizeLine) (hdf : d.params.defaults = []) (room : Room k callerA) (hY : ∀ (w : World) (h : Heap), YP w h → (K w.params).In h ∧ SysOn h ∧ h.get? PT = some { cls := .none, data := .fields #[] }) (hsys : sysModules ≠ PT)
    (F : ∀ (w : World) (mg : Str → Option Value) (fa : Addr) (h : Heap), (K w.params).In h → h.Ns mainGlobals mg → mg d.name = some (.ref fa) →
      ∃ (fd : FuncData) (ct : Addr), (K w.params).lookup PT = none ∧ PySem.W.codeHdIn (K w.params) ct PT = true ∧ (∀ (s : Shared) (u : Value), BindsTo s fd ⟨[u], []⟩ [(x, u)]) ∧ ∀ base : Heap, SysOn base → LamX.TabB base mg ct PT → (K w.params).In base → base.Ns mainGlobals mg → FnG l.prog w (K w.params) mg base k fa fd [x] (sp w))
    (promise : ∀ (w : World) (H : Hp) (a : Addr) (ns : List Int), ns.length ≤ n → H PT = some (.tbl #[]) → SqL (K w.params) H a (ns.map V.int) → sp w [.ref a] H (fun v _ => v = .bl true) fun _ _ _ => False) :
    PySem.W.WalkO q loose XP YP l.row.toRowW d [] (fun f vs => PySem.call f vs) := by
  refine Att.attach_callB hn hdf ?_
  intro w s₀ s₁ mg mb fa o pm cd doc a vs ns G Y _ _ _ named obj nums len _ gens
  obtain ⟨inK, ⟨o2, e2, n2⟩, at_P⟩ := hY w _ Y
  obtain ⟨fd, ct, nP, hd, binds, hF⟩ := F w mg fa _ inK G.T.g named
  exact calledT inK G.T.g G.T.b G.T.builtins G.T.nolimit gens at_P nP hd G.T.bmain obj nums (Nat.le_trans len hn2) room (fun base kb nb old TB => hF base ⟨o2, old _ _ e2 n2 hsys, n2⟩ TB kb nb) binds fun H hp seq => promise w H a ns len hp seq
end Br

/-! Nm: figures of numbers by 256, by 128. -/
namespace Nm
/-- the first i figures of n by B, the lowest first -/
def dg (B n : Int) (i : Nat) : List Int := (List.range i).map fun j => n / B ^ j % B
theorem dg_succ (B n : Int) (i : Nat) : dg B n (i + 1) = dg B n i ++ [n / B ^ i % B] := by simp [dg, List.range_succ]
theorem dg_len (B n : Int) (i : Nat) : (dg B n i).length = i := by simp [dg]
theorem div_step {n B : Int} (i : Nat) (hB : 0 < B) : n / B ^ i / B = n / B ^ (i + 1) := by
  rw [Int.pow_succ, Int.ediv_ediv_of_nonneg (Int.le_of_lt (Int.pow_pos hB))]
theorem dg_byte {n : Int} {i : Nat} : ∀ x ∈ dg 256 n i, 0 ≤ x ∧ x < 256 := fun x hx => by
  obtain ⟨j, _, rfl⟩ := List.mem_map.mp hx
  exact ⟨Int.emod_nonneg _ (by decide), Int.emod_lt_of_pos _ (by decide)⟩
/-- by seven bits a byte, the lowest first, i more than one -/
def sv (n : Int) (i : Nat) : List Int := n % 128 :: (List.range i).map fun j => 128 + n / 128 ^ (j + 1) % 128
theorem sv_succ (n : Int) (i : Nat) : sv n (i + 1) = sv n i ++ [128 + n / 128 ^ (i + 1) % 128] := by simp [sv, List.range_succ]
theorem sv_len (n : Int) (i : Nat) : (sv n i).length = i + 1 := by simp [sv]
/-- just so many as are wanted -/
def svE (n : Int) (i : Nat) : Prop := n / 128 ^ (i + 1) = 0 ∧ ∀ j, j < i → 0 < n / 128 ^ (j + 1)
theorem sv_one {n : Int} {i j : Nat} (h : svE n i) (g : svE n j) : i = j := by
  rcases Nat.lt_trichotomy i j with z | z | z
  · have := g.2 i z
    have := h.1
    omega
  · exact z
  · have := h.2 j z
    have := g.1
    omega
theorem sv_byte {n : Int} {i : Nat} : ∀ x ∈ sv n i, 0 ≤ x ∧ x < 256 := fun x hx => by
  rcases List.mem_cons.mp hx with rfl | hx
  · have h1 := Int.emod_nonneg n (show (128 : Int) ≠ 0 by decide)
    have h2 := Int.emod_lt_of_pos n (show (0 : Int) < 128 by decide)
    omega
  · obtain ⟨j, _, rfl⟩ := List.mem_map.mp hx
    have h1 := Int.emod_nonneg (n / 128 ^ (j + 1)) (show (128 : Int) ≠ 0 by decide)
    have h2 := Int.emod_lt_of_pos (n / 128 ^ (j + 1)) (show (0 : Int) < 128 by decide)
    omega
/-- from a bound of n one of i -/
theorem sv_few {n : Int} {i : Nat} (hn : n < 2 ^ 210) (h : i = 0 ∨ 0 < n / 128 ^ i) : i < 31 := by
  rcases h with rfl | h
  · decide
  · rcases Nat.lt_or_ge i 31 with z | z
    · exact z
    · exfalso
      have p : (128 : Int) ^ 31 ≤ 128 ^ i := by
        obtain ⟨k, rfl⟩ := Nat.exists_eq_add_of_le z
        rw [Int.pow_add]
        have : (1 : Int) ≤ 128 ^ k := Int.pow_pos (by decide)
        have q : (0 : Int) < 128 ^ 31 := by decide
        calc (128 : Int) ^ 31 = 128 ^ 31 * 1 := by omega
          _ ≤ 128 ^ 31 * 128 ^ k := Int.mul_le_mul_of_nonneg_left this (Int.le_of_lt q)
      have lt : n < 128 ^ i := Int.lt_of_lt_of_le (Int.lt_of_lt_of_le hn (by decide)) p
      have pp : (0 : Int) < 128 ^ i := Int.pow_pos (by decide)
      have : n / 128 ^ i < 1 := Int.ediv_lt_of_lt_mul pp (by omega)
      omega
theorem div_nn {n : Int} (i : Nat) (h : 0 ≤ n) : 0 ≤ n / 128 ^ i := Int.ediv_nonneg h (Int.le_of_lt (Int.pow_pos (by decide)))
theorem div_nn2 {n : Int} (i : Nat) (h : 0 ≤ n) : 0 ≤ n / 256 ^ i := Int.ediv_nonneg h (Int.le_of_lt (Int.pow_pos (by decide)))
/-- what a row is worth -/
def wo (row : List Int) : Int := row.foldl (fun a b => a * 256 + b) 0
theorem wo_snoc (row : List Int) (x : Int) : wo (row ++ [x]) = wo row * 256 + x := by simp [wo]
theorem pow_up (i : Nat) : (256 : Int) ^ (i + 1) = 256 ^ i * 256 := Int.pow_succ ..
theorem wo_lt : ∀ {i : Nat} {row : List Int}, row.length = i → (∀ x ∈ row, 0 ≤ x ∧ x < 256) → 0 ≤ wo row ∧ wo row < 256 ^ i
  | 0, row, h, _ => by
    rw [List.length_eq_zero_iff.mp h]
    decide
  | i + 1, row, h, hr => by
    rcases List.eq_nil_or_concat row with rfl | ⟨r, x, rfl⟩
    · cases h
    · rw [List.concat_eq_append] at *
      rw [List.length_append, List.length_singleton] at h
      obtain ⟨a, b⟩ := wo_lt (i := i) (row := r) (by omega) fun y hy => hr y (List.mem_append_left _ hy)
      have c := hr x (by simp)
      rw [wo_snoc, pow_up]
      omega
/-- a long number behind a place, or where it goes wrong -/
def lgo : List Int → Int → Nat → (Int × Nat) ⊕ Nat
  | [], _, p => .inr p
  | b :: r, a, p => if b < 128 then .inl (a * 128 + b % 128, p + 1) else lgo r (a * 128 + b % 128) (p + 1)
def long (row : List Int) (p : Nat) : (Int × Nat) ⊕ Nat := if row[p]? = some 128 then .inr p else lgo (row.drop p) 0 p
theorem acc_up {a b : Int} {i : Nat} (h : 0 ≤ a ∧ a < 256 ^ i) (hb : 0 ≤ b ∧ b < 256) : 0 ≤ a * 128 + b % 128 ∧ a * 128 + b % 128 < 256 ^ (i + 1) := by
  have h1 := Int.emod_nonneg b (show (128 : Int) ≠ 0 by decide)
  have h2 := Int.emod_lt_of_pos b (show (0 : Int) < 128 by decide)
  rw [pow_up]
  omega
theorem lgo_in : ∀ {r : List Int} {a : Int} {p : Nat} {v : Int} {e : Nat} {i : Nat}, lgo r a p = .inl (v, e) → (0 ≤ a ∧ a < 256 ^ i) → (∀ x ∈ r, 0 ≤ x ∧ x < 256) → 0 ≤ v ∧ v < 256 ^ (i + r.length) ∧ e ≤ p + r.length
  | [], _, _, _, _, _, h, _, _ => by cases h
  | b :: r, a, p, v, e, i, h, ha, hr => by
    rw [lgo] at h
    have up := acc_up ha (hr b List.mem_cons_self)
    have p1 : (256 : Int) ^ (i + 1) ≤ 256 ^ (i + (b :: r).length) := by
      rw [List.length_cons, show i + (r.length + 1) = (i + 1) + r.length by omega, Int.pow_add 256 (i + 1) r.length]
      have q : (1 : Int) ≤ 256 ^ r.length := Int.pow_pos (by decide)
      have q2 : (0 : Int) ≤ 256 ^ (i + 1) := Int.le_of_lt (Int.pow_pos (by decide))
      calc (256 : Int) ^ (i + 1) = 256 ^ (i + 1) * 1 := by omega
        _ ≤ 256 ^ (i + 1) * 256 ^ r.length := Int.mul_le_mul_of_nonneg_left q q2
    split at h
    · cases h
      rw [List.length_cons]
      rw [List.length_cons] at p1
      exact ⟨up.1, Int.lt_of_lt_of_le up.2 p1, by omega⟩
    · obtain ⟨g1, g2, g3⟩ := lgo_in (i := i + 1) h up fun x hx => hr x (List.mem_cons_of_mem _ hx)
      rw [List.length_cons, show i + (r.length + 1) = (i + 1) + r.length by omega]
      exact ⟨g1, g2, by omega⟩
/-- of the figures of a number the number is read -/
theorem lgo_app {a : Int} : ∀ {l r : List Int} {p : Nat}, (∀ x ∈ l, 128 ≤ x) → lgo (l ++ r) a p = lgo r (l.foldl (fun a b => a * 128 + b % 128) a) (p + l.length)
  | [], r, p, _ => rfl
  | x :: l, r, p, h => by
    rw [List.cons_append, lgo, if_neg (by have := h x List.mem_cons_self; omega), lgo_app fun y hy => h y (List.mem_cons_of_mem _ hy), List.foldl_cons, List.length_cons]
    congr 1
    omega
theorem fold_sv {n : Int} : ∀ (i : Nat), ((List.range i).map fun j => 128 + n / 128 ^ (j + 1) % 128).reverse.foldl (fun a b => a * 128 + b % 128) (n / 128 ^ (i + 1)) = n / 128
  | 0 => by simp
  | i + 1 => by
    rw [List.range_succ, List.map_append, List.reverse_append, List.map_singleton, List.reverse_singleton, List.singleton_append, List.foldl_cons]
    have e : n / 128 ^ (i + 1 + 1) * 128 + (128 + n / 128 ^ (i + 1) % 128) % 128 = n / 128 ^ (i + 1) := by
      rw [← div_step (B := 128) (n := n) (i + 1) (by decide)]
      omega
    rw [e]
    exact fold_sv i
/-- long_at of long_of -/
theorem long_sv {n : Int} {m : Nat} (h0 : 0 ≤ n) (h : svE n m) : long (sv n m).reverse 0 = .inl (n, m + 1) := by
  have e1 : (sv n m).reverse = ((List.range m).map fun j => 128 + n / 128 ^ (j + 1) % 128).reverse ++ [n % 128] := by rw [sv, List.reverse_cons]
  have first : (sv n m).reverse[0]? ≠ some 128 := by
    rw [e1]
    cases m with
    | zero =>
      have := Int.emod_lt_of_pos n (show (0 : Int) < 128 by decide)
      simp
      omega
    | succ m =>
      rw [List.range_succ, List.map_append, List.reverse_append]
      have g := h.2 m (by omega)
      have g2 := h.1
      rw [← div_step (B := 128) (n := n) (m + 1) (by decide)] at g2
      simp
      omega
  unfold long
  rw [if_neg first, List.drop_zero, e1, lgo_app, lgo]
  · have hm : n % 128 < 128 := Int.emod_lt_of_pos n (by decide)
    rw [if_pos hm]
    have f := fold_sv (n := n) m
    rw [h.1] at f
    rw [f]
    have e2 : n / 128 * 128 + n % 128 % 128 = n := by omega
    rw [e2]
    simp
  · intro x hx
    obtain ⟨j, _, rfl⟩ := List.mem_map.mp (List.mem_reverse.mp hx)
    have h1 := Int.emod_nonneg (n / 128 ^ (j + 1)) (show (128 : Int) ≠ 0 by decide)
    omega
end Nm

namespace Pa
open PySem PySem.Spec PyProof.Rows L2 Br
def topS (i : Nat) : Stmt := PySem.Challenge.pw_byteround_k02_numbers_as_bytes.main.body.getD i (.Pass ⟨0, 0, 0, 0⟩)
def pen (cells : List Int) (nth left : Int) : List (Key × D) := [(.inr "cells", .lst (cells.map D.int)), (.inr "nth", .int nth), (.inr "left", .int left)]
theorem pen_cells {c : List Int} {n l : Int} : lookD (pen c n l) (.inr "cells") = some (.lst (c.map D.int)) := rfl
theorem pen_nth {c : List Int} {n l : Int} : lookD (pen c n l) (.inr "nth") = some (.int n) := rfl
theorem pen_left {c : List Int} {n l : Int} : lookD (pen c n l) (.inr "left") = some (.int l) := rfl
theorem put_nth {c : List Int} {n l m : Int} : putD (pen c n l) (.inr "nth") (.int m) = pen c m l := rfl
theorem put_left {c : List Int} {n l m : Int} : putD (pen c n l) (.inr "left") (.int m) = pen c n m := rfl
/-- the store o, a pen of the cells at k, of at most b draws -/
def Pn (k : Nat) (cells : List Int) (b : Int) (o os : Os) : Prop := ∃ nth left, os = o.set k (.md (pen cells nth left)) ∧ k < o.length ∧ (0 ≤ nth ∧ nth ≤ b) ∧ 0 ≤ left
theorem Pn.mono {k : Nat} {cells : List Int} {b c : Int} {o os : Os} (h : Pn k cells b o os) (hb : b ≤ c) : Pn k cells c o os := by
  obtain ⟨n, l, e, hk, hn, hl⟩ := h
  exact ⟨n, l, e, hk, ⟨hn.1, by omega⟩, hl⟩
theorem Pn.len {k : Nat} {cells : List Int} {b : Int} {o os : Os} (h : Pn k cells b o os) : os.length = o.length := by
  obtain ⟨n, l, e, _⟩ := h
  rw [e, List.length_set]
theorem Pn.ret {k : Nat} {cells : List Int} {b c : Int} {o os os2 : Os} {d : D} {QA : D → Os → Prop} (h : Pn k cells b o os) (h2 : Pn k cells c o os2) (q : QA d os2) : RetOk os.length QA (.d d) os2 := by
  show QA d (os2.take os.length)
  rw [List.take_of_length_le (by rw [h.len, h2.len]; exact Nat.le_refl _)]
  exact q
theorem Pn.push {k : Nat} {cells : List Int} {b : Int} {o os : Os} (x : Ob) (h : Pn k cells b o os) : Pn k cells b (o ++ [x]) (os ++ [x]) := by
  obtain ⟨n, l, e, hk, hn, hl⟩ := h
  exact ⟨n, l, by rw [e, List.set_append_left _ _ hk], by rw [List.length_append]; omega, hn, hl⟩
theorem Pn.pop {k : Nat} {cells : List Int} {b : Int} {o os2 : Os} {x : Ob} (hk : k < o.length) (h : Pn k cells b (o ++ [x]) os2) : ∃ os3, os2 = os3 ++ [x] ∧ Pn k cells b o os3 := by
  obtain ⟨n, l, e, _, hn, hl⟩ := h
  exact ⟨o.set k _, by rw [e, List.set_append_left _ _ hk], n, l, rfl, hk, hn, hl⟩
def fDraw : FD := fun ds os QA _ => ∃ (k : Nat) (span : Int) (cells : List Int) (b : Int) (o : Os), ds = [.o k, .d (.int span)] ∧ Pn k cells b o os ∧ (0 < span ∧ span < 2 ^ 64) ∧ b < 2 ^ 39 ∧
  ∀ d os', 0 ≤ d → d < span → Pn k cells (b + 1) o os' → QA (.int d) os'
theorem draw_raw {ds : List Sv} {os : Os} {QA : D → Os → Prop} {EA : Xa} (h : fDraw ds os QA EA) : ∃ (k : Nat) (span : Int) (cells : List Int) (nth left : Int), ds = [.o k, .d (.int span)] ∧ os[k]? = some (.md (pen cells nth left)) ∧ (0 < span ∧ span < 2 ^ 64) ∧ (0 ≤ nth ∧ nth < 2 ^ 40) ∧ 0 ≤ left ∧
  ∀ d nth' left', 0 ≤ d → d < span → nth ≤ nth' → nth' ≤ nth + 1 → 0 ≤ left' → QA (.int d) (os.set k (.md (pen cells nth' left'))) := by
  obtain ⟨k, span, cells, b, o, e, ⟨nth, left, eo, hk, hn, hl⟩, hs, hb, q⟩ := h
  subst eo
  exact ⟨k, span, cells, nth, left, e, List.getElem?_set_self hk, hs, ⟨hn.1, by omega⟩, hl, fun d n2 l2 h0 h1 h2 h3 h4 => q d _ h0 h1 ⟨n2, l2, List.set_set .., hk, ⟨by omega, by omega⟩, h4⟩⟩
local macro_rules | `(tactic| walk_at "side") => `(tactic| first
  | exact c_divS (by omega) (by omega)
  | exact c_mulS (by omega) (by omega)
  | omega
  | (dsimp only; omega)
  | decide
  | exact ⟨by decide, by decide, by decide⟩)
local macro_rules | `(tactic| walk_at "b") => `(tactic| first
  | with_reducible refine w_seq ?_
  | with_reducible refine w_next ?_
  | with_reducible refine w_ret ?_
  | with_reducible refine w_if ?_
  | ((with_reducible refine w_asg ?_); (try dsimp only [List.set_cons_zero, List.set_cons_succ]))
  | ((with_reducible refine w_dputS ?_); (try dsimp only [List.set_cons_zero, List.set_cons_succ]))
  | with_reducible refine br_T ?_
  | with_reducible refine br_F ?_
  | with_reducible refine tw_test ?_
  | with_reducible refine tw_and ?_
  | with_reducible refine tw_or ?_
  | with_reducible refine tw_not ?_
  | with_reducible refine tw_B ?_
  | with_reducible refine ew_int ?_
  | with_reducible refine ew_str ?_
  | with_reducible refine ew_bl ?_
  | with_reducible refine ew_non ?_
  | ((with_reducible refine ew_var (d := ?hd) ?hv ?_); (case hv => exact rfl))
  | ((with_reducible refine ew_op ?_); (try dsimp only))
  | with_reducible refine ew_cb ?_
  | with_reducible refine ew_dgetS ?_
  | with_reducible refine ew_lst2 ?_
  | with_reducible refine ew_tup2 ?_
  | ((with_reducible refine aw_cons ?_); (try dsimp only))
  | with_reducible refine aw_nil ?_
  | with_reducible refine bw_i0 ?_
  | with_reducible refine bw_ib ?_
  | with_reducible refine bw_neNil ?_
  | ((with_reducible refine bw_i ?hc ?_); (case hc => walk_at "side"))
  | with_reducible refine cw_abs ?_
  | with_reducible refine cw_lenL ?_
  | ((with_reducible refine Exists.intro _ (And.intro rfl ?_)); (try dsimp only))
  | ((with_reducible refine And.intro (small_len (Nat.le_of_ble_eq_true rfl)) ?_); (try dsimp only))
  | ((with_reducible refine ⟨_, ?kv, ?dd, rfl, ?ho, ?lk, ?_⟩); (case ho => first | assumption | exact get_set (by assumption)); (case lk => rfl); (try dsimp only))
  | ((with_reducible refine ⟨_, ?kv, _, ?k2, ?o3, rfl, rfl, ?ho, ?lk, ?e1, ?e2, ?_⟩); (case ho => first | assumption | exact get_set (by assumption)); (case lk => exact Nat.le_of_ble_eq_true rfl); (case e1 => first | exact put_nth | exact put_left); (case e2 => first | exact List.set_set .. | rfl); (try dsimp only)))
section
variable {P : Program} {w : World} {K : PySem.W.Frag} {mg : Str → Option Value} {base : Heap}
abbrev s_l_draw : Stmt := topS 19
abbrev N_l_draw : List Str := ["_law_pen", "_law_span", "_law_digit", "_law_nth", "_law_cell", "_law_mixed", "_law_turn"]
theorem sc_l_draw : FnScope N_l_draw ["_law_pen", "_law_span"] (defScope s_l_draw) := ⟨rfl, rfl, rfl, by decide +kernel, rfl, by decide +kernel, by decide +kernel⟩
theorem ok_l_draw {f : Addr} {fd : FuncData} (F : Fun K "_law_draw" "_law_draw" s_l_draw f fd) (z_len : mg "len" = none) (z_abs : mg "abs" = none) (z_range : mg "range" = none) : FnOk P w K mg base CX0 1 f fd ["_law_pen", "_law_span"] (spD K fDraw) := by
  refine F.ok sc_l_draw (fun vs H Q E h => ?_) (fun cdv A outer s H vs Q E hr h => ?_)
  · obtain ⟨as, os, ds, QA, EA, R, r, ⟨k, span, cells, b, o, rfl, _⟩, _⟩ := h
    rw [r.length]
    rfl
  · have hu := hu_of hr
    have hu64 : (A.deeper (envOfC "_law_draw" (defScope s_l_draw) s.heap.objs.size f cdv)).units + 64 < cLine := by
      have := hr.un
      omega
    have passOwn := @PassesOwn.never
    refine ⟨_, (pss_cons (ps_if (pt_cmpR op_gt (pe_dget hu (pv 0) pe_str (fun _ _ => rfl)) pe_int (nomark _)) (pss_cons (ps_set (i := 2) sc_l_draw.nd rfl (Or.inl rfl) (pe_op op_mod (pe_dget hu (pv 0) pe_str (fun _ _ => rfl)) (pv 1)))
    (pss_cons (ps_dput hu (pv 0) pe_str (pe_op op_fdivW (pe_dget hu (pv 0) pe_str (fun _ _ => rfl)) (pv 1)) rfl)
    (pss_one (ps_ret (pv 2))))) pss_nil)
  (pss_cons (ps_set (i := 3) sc_l_draw.nd rfl (Or.inl rfl) (pe_dget hu (pv 0) pe_str (fun _ _ => rfl)))
  (pss_cons (ps_dput hu (pv 0) pe_str (pe_op op_add (pv 3) pe_int) rfl)
  (pss_cons (ps_set (i := 4) sc_l_draw.nd rfl (Or.inl rfl) (pe_op op_add (pe_op op_mulW (pv 3) (pv 3)) pe_int))
  (pss_cons (ps_if (pt_cmpR (op_neD hu64) (pe_dget hu (pv 0) pe_str (fun _ _ => rfl)) (pe_lst pa_nil) (nomark _)) (pss_one (ps_set (i := 4) sc_l_draw.nd rfl (Or.inl rfl) (pe_ix (r := rIxL K) ix_list (pe_dget hu (pv 0) pe_str (fun _ _ => rfl)) (pe_op op_mod (pv 3) (pe_callB call_lenA (by rfl) z_len PySem.boot_len (pa_cons (pe_dget hu (pv 0) pe_str (fun _ _ => rfl)) pa_nil))) (fun _ _ => rfl)))) pss_nil)
  (pss_cons (ps_if (PW.pt (pw_and (pt_cmpR op_lt (pv 3) (pe_callB call_lenA (by rfl) z_len PySem.boot_len (pa_cons (pe_dget hu (pv 0) pe_str (fun _ _ => rfl)) pa_nil)) (nomark _)) (pw_and1 (pt_cmpR op_ge (pe_callB (call_absA rfl) (by rfl) z_abs (by decide +kernel) (pa_cons (pv 4) pa_nil)) (pe_op op_pow pe_int pe_int) (nomark _))))) (pss_cons (ps_dput hu (pv 0) pe_str (pe_op op_fdivW (pe_callB (call_absA rfl) (by rfl) z_abs (by decide +kernel) (pa_cons (pv 4) pa_nil)) (pv 1)) rfl)
    (pss_one (ps_ret (pe_op op_mod (pe_callB (call_absA rfl) (by rfl) z_abs (by decide +kernel) (pa_cons (pv 4) pa_nil)) (pv 1))))) pss_nil)
  (pss_cons (ps_set (i := 5) sc_l_draw.nd rfl (Or.inl rfl) (pe_op op_mod (pe_op op_mulW (pe_op op_add (pe_op op_add (pe_op op_mod (pv 4) pe_int) (pe_op op_mulW pe_int (pv 3))) pe_int) pe_int) pe_int))
  (pss_cons (ps_for PassesOwn.never rfl (pi_range1 (by rfl) z_range (pa_cons pe_int pa_nil)) (pg_name (i := 6) sc_l_draw.nd rfl (Or.inl rfl))
    (pss_cons (ps_set (i := 5) sc_l_draw.nd rfl (Or.inl rfl) (pe_op op_add (pe_op op_add (pe_op op_add (pe_op op_mulW (pv 5) (pv 5)) (pe_op op_mulW pe_int (pv 5))) (pv 3)) (pv 6)))
    (pss_one (ps_set (i := 5) sc_l_draw.nd rfl (Or.inl rfl) (pe_op op_mod (pv 5) pe_int)))))
  (pss_one (ps_ret (pe_op op_mod (pe_op op_fdivW (pv 5) pe_int) (pv 1)))))))))))), read_of h fun ds os QA EA hf => ?_⟩
    obtain ⟨k, span, cells, nth, left, rfl, ho, hs, hn, hl, q⟩ := draw_raw hf
    dsimp only [cxOf, Cx.nox, Cx.wish]
    show W K _ _ _ ⟨[some (.o k), some (.d (.int span)), none, none, none, none, none], os⟩
    repeat (walk_at "b")
    refine br_ite (fun hl0 => ?_) (fun hl0 => ?_)
    · repeat (walk_at "b")
      exact ret_set (q _ _ _ (Int.emod_nonneg _ (by omega)) (Int.emod_lt_of_pos _ (by omega)) (by omega) (by omega) (Int.ediv_nonneg (by omega) (by omega)))
    · repeat (walk_at "b")
      refine w_join (fun S' => ∃ c : Int, S' = ⟨[some (.o k), some (.d (.int span)), none, some (.d (.int nth)), some (.d (.int c)), none, none], os.set k (.md (pen cells (nth + 1) left))⟩) ?_ ?_
      · refine br_iteB (fun hb => ?_) (fun hb => ?_)
        · repeat (walk_at "b")
          obtain ⟨c, hc⟩ := at_mod (n := nth) (ns := cells) (fun z => by subst z; cases hb)
          have hlen : 0 < ((cells.map D.int).length : Int) := by
            cases cells with
            | nil => cases hb
            | cons a r => simp
          refine bw_i hlen ?_
          refine bw_ixL hc ?_
          exact ⟨c, rfl⟩
        · repeat (walk_at "b")
          exact ⟨_, rfl⟩
      · rintro S' ⟨c, rfl⟩
        refine w_cut (fun S' => S' = ⟨[some (.o k), some (.d (.int span)), none, some (.d (.int nth)), some (.d (.int c)), none, none], os.set k (.md (pen cells (nth + 1) left))⟩) ?_ ?_
        · repeat (walk_at "b")
          refine br_ite (fun h1 => ?_) (fun h1 => ?_)
          · repeat (walk_at "b")
            refine br_ite (fun h2 => ?_) (fun h2 => ?_)
            · repeat (walk_at "b")
              refine ret_set (q _ _ _ (Int.emod_nonneg _ (by omega)) (Int.emod_lt_of_pos _ (by omega)) (by omega) (by omega) (Int.ediv_nonneg ?_ (by omega)))
              split <;> omega
            · repeat (walk_at "b")
              rfl
          · repeat (walk_at "b")
            rfl
        · rintro S' rfl
          repeat (walk_at "b")
          dsimp only
          refine w_for (iw_rng1 (aw_cons (ew_int (aw_nil ⟨3, rfl, by decide, by decide, fun _ S' => ∃ (m : Int) (o : Option Sv), (0 ≤ m ∧ m < 4294967311) ∧ S' = ⟨[some (.o k), some (.d (.int span)), none, some (.d (.int nth)), some (.d (.int c)), some (.d (.int m)), o], os.set k (.md (pen cells (nth + 1) left))⟩, ⟨_, none, ⟨Int.emod_nonneg _ (by decide), Int.emod_lt_of_pos _ (by decide)⟩, rfl⟩, ?_, ?_⟩))))
          · rintro i d S' hd ⟨m, o, hm, rfl⟩
            obtain ⟨hi, rfl⟩ := rngD_get hd
            refine gw_name ?_
            dsimp only [List.set_cons_zero, List.set_cons_succ]
            repeat (walk_at "b")
            refine ⟨_, _, ⟨Int.emod_nonneg _ (by decide), Int.emod_lt_of_pos _ (by decide)⟩, rfl⟩
          · rintro S' ⟨m, o, hm, rfl⟩
            repeat (walk_at "b")
            exact ret_set (q _ _ _ (Int.emod_nonneg _ (by omega)) (Int.emod_lt_of_pos _ (by omega)) (by omega) (by omega) hl)
end

open PySem PySem.Spec PyProof.Rows L2 Br
/-- how a def of the text is called -/
structure Cal (K : PySem.W.Frag) (mg : Str → Option Value) (x : Str) (f : Addr) (fd : FuncData) (ps : List Str) : Prop where
  m : mg x = some (.ref f)
  k : PySem.W.keepIn K (.ref f) = true
  b : Binds K fd ps []
local macro_rules | `(tactic| walk_at "dr") => `(tactic| ((with_reducible refine ew_call ?_); repeat (walk_at "b")))
def fPick : FD := fun ds os QA _ => ∃ (k : Nat) (xs : List D) (cells : List Int) (b : Int) (o : Os), ds = [.o k, .d (.lst xs)] ∧ Pn k cells b o os ∧ (0 < xs.length ∧ xs.length ≤ 1000) ∧ b < 2 ^ 38 ∧
  ∀ d os', d ∈ xs → Pn k cells (b + 1) o os' → QA d os'
theorem br_nT {A B : Prop} (h : B) : if (!true) = true then A else B := h
theorem br_nF {A B : Prop} (h : A) : if (!false) = true then A else B := h
local macro_rules | `(tactic| walk_at "b") => `(tactic| first
  | with_reducible refine ew_isi ?_
  | with_reducible refine br_nT ?_
  | with_reducible refine br_nF ?_
  | with_reducible refine bw_eqI ?_
  | with_reducible refine bw_neI ?_
  | with_reducible refine ew_sl ?_
  | with_reducible refine ow_none ?_
  | with_reducible refine ow_some ?_
  | with_reducible refine ew_if ?_
  | with_reducible refine ew_andV ?_
  | with_reducible refine ew_orV ?_
  | with_reducible refine ew_notV ?_
  | with_reducible refine ew_chain ?_
  | with_reducible refine ew_revT ?_
  | with_reducible refine ew_negI ?_
  | with_reducible refine bw_ix0 ?_
  | with_reducible refine bw_ix1 ?_
  | with_reducible refine bw_ix2 ?_
  | with_reducible refine bw_neNilT ?_
  | with_reducible refine cw_lenU ?_
  | with_reducible refine ew_call ?_
  | with_reducible refine w_asgN ?_
  | with_reducible refine w_asgG ?_
  | with_reducible refine gs_nil ?_
  | with_reducible refine gs_cons ?_
  | ((with_reducible refine gw_name ?_); (try dsimp only [List.set_cons_zero, List.set_cons_succ]))
  | with_reducible refine bw_eqB ?_)
def fFeed : FN := fun ds os QN => ∃ ns : List Int, ds = [.d (.lst (ns.map D.int))] ∧ ns.length ≤ 63 ∧ QN (.md (pen ns 0 0)) os
/-- a row of bytes -/
def isR (row : List Int) : Prop := ∀ b ∈ row, 0 ≤ b ∧ b < 256
abbrev rowD (row : List Int) : D := .tup (row.map D.int)
def fByte : FD := fun ds os QA _ => ∃ (k : Nat) (cells : List Int) (b : Int) (o : Os), ds = [.o k] ∧ Pn k cells b o os ∧ b < 2 ^ 37 ∧ ∀ x os', 0 ≤ x → x < 256 → Pn k cells (b + 2) o os' → QA (.int x) os'
theorem at_mem {α : Type} {xs : List α} {i : Int} (h0 : 0 ≤ i) (h1 : i < (xs.length : Int)) : ∃ d, L2.atI xs i = some d ∧ d ∈ xs := by
  obtain ⟨j, rfl⟩ : ∃ j : Nat, i = (j : Int) := ⟨i.toNat, by omega⟩
  have hj : j < xs.length := by omega
  exact ⟨xs[j], atI_nat (List.getElem?_eq_getElem hj), List.getElem_mem hj⟩
section
variable {P : Program} {w : World} {K : PySem.W.Frag} {mg : Str → Option Value} {base : Heap}
abbrev s_l_pick : Stmt := topS 20
abbrev N_l_pick : List Str := ["_law_pen", "_law_some"]
theorem sc_l_pick : FnScope N_l_pick ["_law_pen", "_law_some"] (defScope s_l_pick) := ⟨rfl, rfl, rfl, by decide +kernel, rfl, by decide +kernel, by decide +kernel⟩
theorem ok_l_pick {f f_draw : Addr} {fd fd_draw : FuncData} (F : Fun K "_law_pick" "_law_pick" s_l_pick f fd) (z_len : mg "len" = none)
    (G_l_draw : FnOk P w K mg base CX0 1 f_draw fd_draw ["_law_pen", "_law_span"] (spD K fDraw)) (C_l_draw : Cal K mg "_law_draw" f_draw fd_draw ["_law_pen", "_law_span"]) : FnOk P w K mg base CX0 2 f fd ["_law_pen", "_law_some"] (spD K fPick) := by
  refine F.ok sc_l_pick (fun vs H Q E h => ?_) (fun cdv A outer s H vs Q E hr h => ?_)
  · obtain ⟨as, os, ds, QA, EA, R, r, ⟨k, xs, cells, b, o, rfl, _⟩, _⟩ := h
    rw [r.length]
    rfl
  · refine ⟨_, (pss_one (ps_ret (pe_ix (r := rIxL K) ix_list (pv 1) (pe_call G_l_draw (hr.mono (by decide)) rfl C_l_draw.m C_l_draw.k C_l_draw.b .nil pass0 (pa_cons (pv 0) (pa_cons (pe_callB call_lenA (by rfl) z_len PySem.boot_len (pa_cons (pv 1) pa_nil)) pa_nil))) (fun _ _ => rfl)))), read_of h fun ds os QA EA hf => ?_⟩
    obtain ⟨k, xs, cells, b, o, rfl, ho, hs, hb, q⟩ := hf
    dsimp only [cxOf, Cx.nox, Cx.wish]
    show W K _ _ _ ⟨[some (.o k), some (.d (.lst xs))], os⟩
    repeat (walk_at "b")
    refine ⟨_, _, _, _, _, rfl, ho, by omega, by omega, fun d os' h0 h1 ho => ?_⟩
    obtain ⟨x, hx, hm⟩ := at_mem h0 h1
    exact bw_ixL hx (Pn.ret ‹Pn k cells b o os› ho (q x os' hm ho))
end
section
variable {P : Program} {w : World} {K : PySem.W.Frag} {mg : Str → Option Value} {base : Heap}
abbrev s_l_feed : Stmt := topS 18
abbrev N_l_feed : List Str := ["_law_script", "_law_cell"]
theorem sc_l_feed : FnScope N_l_feed ["_law_script"] (defScope s_l_feed) := ⟨rfl, rfl, rfl, by decide +kernel, rfl, by decide +kernel, by decide +kernel⟩
theorem ok_l_feed {f : Addr} {fd : FuncData} (F : Fun K "_law_feed" "_law_feed" s_l_feed f fd) : FnOk P w K mg base CX0 1 f fd ["_law_script"] (spN K fFeed) := by
  refine F.ok sc_l_feed (fun vs H Q E h => ?_) (fun cdv A outer s H vs Q E hr h => ?_)
  · obtain ⟨as, os, ds, QN, R, r, ⟨ns, rfl, _⟩, _⟩ := h
    rw [r.length]
    rfl
  · refine ⟨_, (pss_one (ps_ret (pe_disp (pps_cons pe_str (pe_lc (own := [("_law_cell", 1)]) (g := (gName 1)) rfl sc_l_feed.nd (pi_list (pe_slice sl_list (pv 0) po_none (po_some pe_int))) (blkOk_by (own := [("_law_cell", 1)]) (N := N_l_feed) (sc := defScope s_l_feed) (by decide +kernel)) (fun _ _ _ _ _ => (pg_name (i := 1) sc_l_feed.nd rfl (Or.inl rfl))) (fun _ _ _ _ _ => pts_nil) (fun _ _ _ _ _ => (pv 1))) (pps_cons pe_str pe_int (pps_cons pe_str pe_int pps_nil))) (by rfl) (by rfl) (fun z => by cases z) (by decide)))), readN_of h fun ds os QN hf => ?_⟩
    obtain ⟨ns, rfl, hl, q⟩ := hf
    try dsimp only [cxOf, Cx.nox, Cx.wish]
    show W K _ _ _ ⟨[some (.d (.lst (ns.map D.int))), none], os⟩
    refine w_retDisp ?_
    refine dw_cons (ew_str ?_)
    refine ew_lc (wg_name (by decide)) mg_name ?_
    refine iw_list ?_
    repeat (walk_at "b")
    refine sw_L ?_
    have ec : Br.cutD (ns.map D.int) none (some 63) = ns.map D.int := by
      unfold Br.cutD
      have e : (some (63 : Int)) = some ((63 : Nat) : Int) := rfl
      rw [e, HT.sIx_nat, HT.sIx_none, List.length_map, Nat.min_eq_right (by omega), List.drop_zero, Nat.sub_zero, List.take_of_length_le (by rw [List.length_map]; exact Nat.le_refl _)]
    rw [ec]
    refine ⟨_, rfl, ?_⟩
    refine ⟨fun i acc os2 => os2 = os ++ [.md []] ∧ acc = (ns.take i).map D.int, ⟨rfl, rfl⟩, ?_, ?_⟩
    · rintro i d acc os2 hd ⟨rfl, rfl⟩
      have hn : i < ns.length := by
        have z := (List.getElem?_eq_some_iff.mp hd).1
        rw [List.length_map] at z
        exact z
      have ed : d = D.int ns[i] := by
        rw [List.getElem?_map, List.getElem?_eq_getElem hn] at hd
        cases hd
        rfl
      subst ed
      refine gw_name ?_
      refine tw_yes (br_T ?_)
      show EW K X0 _ ⟨[some (.d (.lst (ns.map D.int))), some (.d (.int ns[i]))], _⟩ _
      repeat (walk_at "b")
      refine ⟨_, _, rfl, rfl, by rw [List.length_map, List.length_take, sizeLine_eq]; omega, rfl, ?_⟩
      rw [← List.take_append_getElem hn, List.map_append]
      rfl
    · rintro acc os2 ⟨rfl, rfl⟩
      rw [List.length_map, List.take_length]
      refine ⟨_, _, rfl, rfl, ?_⟩
      refine dw_cons (ew_str (ew_int ⟨_, _, rfl, rfl, dw_cons (ew_str (ew_int ⟨_, _, rfl, rfl, dw_nil ?_⟩))⟩))
      refine ⟨os, pen ns 0 0, rfl, rfl, by show 3 ≤ 15; decide, rfl, by rw [List.length_append]; rfl, .md (pen ns 0 0), ?_, ?_⟩
      · show (os ++ [Ob.md (pen ns 0 0)])[os.length]? = _
        simp
      · show QN _ ((os ++ [Ob.md (pen ns 0 0)]).take os.length)
        rw [List.take_left' rfl]
        exact q
end
section
variable {P : Program} {w : World} {K : PySem.W.Frag} {mg : Str → Option Value} {base : Heap}
abbrev s_l_byte : Stmt := topS 21
abbrev N_l_byte : List Str := ["_law_pen"]
theorem sc_l_byte : FnScope N_l_byte ["_law_pen"] (defScope s_l_byte) := ⟨rfl, rfl, rfl, by decide +kernel, rfl, by decide +kernel, by decide +kernel⟩
theorem ok_l_byte {f a1 : Addr} {fd d1 : FuncData} (F : Fun K "_law_byte" "_law_byte" s_l_byte f fd)
    (G_l_draw : FnOk P w K mg base CX0 1 a1 d1 ["_law_pen", "_law_span"] (spD K fDraw)) (C_l_draw : Cal K mg "_law_draw" a1 d1 ["_law_pen", "_law_span"]) : FnOk P w K mg base CX0 2 f fd ["_law_pen"] (spD K fByte) := by
  refine F.ok sc_l_byte (fun vs H Q E h => ?_) (fun cdv A outer s H vs Q E hr h => ?_)
  · obtain ⟨as, os, ds, QA, EA, R, r, ⟨k, cells, b, o, rfl, _⟩, _⟩ := h
    rw [r.length]
    rfl
  · refine ⟨_, (pss_one (ps_ret (pe_ix (r := rIxL K) ix_list (pe_lst (pa_cons pe_int (pa_cons pe_int (pa_cons pe_int (pa_cons pe_int (pa_cons (pe_call G_l_draw (hr.mono (by decide)) rfl C_l_draw.m C_l_draw.k C_l_draw.b .nil pass0 (pa_cons (pv 0) (pa_cons pe_int pa_nil))) pa_nil)))))) (pe_call G_l_draw (hr.mono (by decide)) rfl C_l_draw.m C_l_draw.k C_l_draw.b .nil pass0 (pa_cons (pv 0) (pa_cons pe_int pa_nil))) (fun _ _ => rfl)))), read_of h fun ds os QA EA hf => ?_⟩
    obtain ⟨k, cells, b, o, rfl, ho, hb, q⟩ := hf
    try dsimp only [cxOf, Cx.nox, Cx.wish]
    show W K _ _ _ ⟨[some (.o k)], os⟩
    repeat (walk_at "b")
    refine ⟨_, _, _, _, _, rfl, ho, by omega, by omega, fun c os4 c0 c1 ho4 => ?_⟩
    repeat (walk_at "b")
    refine ⟨_, _, _, _, _, rfl, ho4, by omega, by omega, fun d os5 d0 d1 ho5 => ?_⟩
    obtain ⟨x, hx, hm⟩ := at_mem (xs := [D.int 0, .int 15, .int 16, .int 255, .int c]) d0 (by show d < 5; omega)
    have hd5 : ∃ x2 : Int, x = .int x2 ∧ 0 ≤ x2 ∧ x2 < 256 := by
      simp only [List.mem_cons, List.not_mem_nil, or_false] at hm
      rcases hm with rfl | rfl | rfl | rfl | rfl
      · exact ⟨_, rfl, by decide, by decide⟩
      · exact ⟨_, rfl, by decide, by decide⟩
      · exact ⟨_, rfl, by decide, by decide⟩
      · exact ⟨_, rfl, by decide, by decide⟩
      · exact ⟨_, rfl, c0, c1⟩
    obtain ⟨y, rfl, y0, y1⟩ := hd5
    have ho6 : Pn k cells (b + 2) o os5 := ho5.mono (by omega)
    exact bw_ixL hx (Pn.ret ho ho6 (q y os5 y0 y1 ho6))
end

open PySem PySem.Spec PyProof.Rows L2 Br
open Nm (dg sv svE wo lgo long)
theorem mulB {a j : Int} {i : Nat} (h0 : 0 ≤ a) (h1 : a < 256 ^ i) (hi : i ≤ 1000) (j0 : 0 ≤ j) (j1 : j < 2 ^ 64) : CMulW a j := by
  have e : (256 : Int) ^ i = 2 ^ (8 * i) := by
    rw [Int.pow_mul]
    rfl
  rw [e] at h1
  have e2 : (2 : Int) ^ (8 * i + 1) = 2 ^ (8 * i) * 2 := Int.pow_succ ..
  have pp : (0 : Int) < 2 ^ (8 * i) := Int.pow_pos (by decide)
  refine wide_mul (a := 8 * i + 1) (b := 64) ?_ (by omega) (by omega) (by decide) (by omega)
  have : ((a.natAbs : Nat) : Int) < ((2 ^ (8 * i + 1) : Nat) : Int) := by
    rw [Int.natCast_pow]
    show (a.natAbs : Int) < 2 ^ (8 * i + 1)
    omega
  exact Int.ofNat_lt.mp this
/-- a number of at most 2 ^ 210 -/
def isN (n : Int) : Prop := 0 ≤ n ∧ n < 2 ^ 210
def fNumber : FD := fun ds os QA _ => ∃ (k : Nat) (cells : List Int) (b : Int) (o : Os), ds = [.o k] ∧ Pn k cells b o os ∧ b < 2 ^ 36 ∧ ∀ n os', isN n → Pn k cells (b + 40) o os' → QA (.int n) os'
def rowOr (o : Option (List Int)) : D := match o with
  | some r => rowD r
  | none => .non
/-- n as c bytes, or None -/
def roomR (n : Int) (c : Nat) : Option (List Int) := if n / 256 ^ c = 0 then some (dg 256 n c).reverse else none
def fRoom : FD := fun ds os QA _ => ∃ (n : Int) (c : Nat), ds = [.d (.int n), .d (.int c)] ∧ 0 ≤ n ∧ c ≤ 1000 ∧ QA (rowOr (roomR n c)) os
def fWorth : FD := fun ds os QA _ => ∃ row : List Int, ds = [.d (rowD row)] ∧ isR row ∧ row.length ≤ 1000 ∧ QA (.int (wo row)) os
def fSevens : FD := fun ds os QA _ => ∃ n : Int, ds = [.d (.int n)] ∧ isN n ∧ ∀ m, svE n m → QA (rowD (sv n m).reverse) os
def longD : (Int × Nat) ⊕ Nat → D
  | .inl (v, e) => .tup [.int v, .int (e : Nat)]
  | .inr p => .lst [.str "none", .int (p : Nat)]
def fLongDue : FD := fun ds os QA _ => ∃ (row : List Int) (p : Nat), ds = [.d (rowD row), .d (.int (p : Nat))] ∧ isR row ∧ row.length ≤ 500 ∧ p ≤ row.length ∧ QA (longD (long row p)) os
theorem row_at' {row : List Int} {p : Nat} (h : p < row.length) : L2.atI (row.map D.int) (p : Int) = some (.int row[p]) := atI_nat (by rw [List.getElem?_map, List.getElem?_eq_getElem h]; rfl)
theorem last_at {os0 : Os} {x : Ob} : (os0 ++ [x])[os0.length]? = some x := by simp
theorem last_set {os0 : Os} {x y : Ob} : (os0 ++ [x]).set os0.length y = os0 ++ [y] := by
  rw [List.set_append_right _ _ (Nat.le_refl _)]
  simp
theorem ret_push {os : Os} {x : Ob} {d : D} {QA : D → Os → Prop} (q : QA d os) : RetOk os.length QA (.d d) (os ++ [x]) := by
  show QA d ((os ++ [x]).take os.length)
  rw [List.take_left' rfl]
  exact q
section
variable {P : Program} {w : World} {K : PySem.W.Frag} {mg : Str → Option Value} {base : Heap}
abbrev s_l_number : Stmt := topS 22
abbrev N_l_number : List Str := ["_law_pen", "_law_found", "_law_turn", "_law_bound"]
theorem sc_l_number : FnScope N_l_number ["_law_pen"] (defScope s_l_number) := ⟨rfl, rfl, rfl, by decide +kernel, rfl, by decide +kernel, by decide +kernel⟩
theorem ok_l_number {f a1 : Addr} {fd d1 : FuncData} (F : Fun K "_law_number" "_law_number" s_l_number f fd) (z_range : mg "range" = none)
    (G_l_draw : FnOk P w K mg base CX0 1 a1 d1 ["_law_pen", "_law_span"] (spD K fDraw)) (C_l_draw : Cal K mg "_law_draw" a1 d1 ["_law_pen", "_law_span"]) : FnOk P w K mg base CX0 2 f fd ["_law_pen"] (spD K fNumber) := by
  refine F.ok sc_l_number (fun vs H Q E h => ?_) (fun cdv A outer s H vs Q E hr h => ?_)
  · obtain ⟨as, os, ds, QA, EA, R, r, ⟨k, cells, b, o, rfl, _⟩, _⟩ := h
    rw [r.length]
    rfl
  · have passOwn := @PassesOwn.never
    refine ⟨_, (pss_cons (ps_set (i := 1) sc_l_number.nd rfl (Or.inl rfl) (pe_call G_l_draw (hr.mono (by decide)) rfl C_l_draw.m C_l_draw.k C_l_draw.b .nil pass0 (pa_cons (pv 0) (pa_cons pe_int pa_nil))))
  (pss_cons (ps_for PassesOwn.never rfl (pi_range1 (by rfl) z_range (pa_cons (pe_call G_l_draw (hr.mono (by decide)) rfl C_l_draw.m C_l_draw.k C_l_draw.b .nil pass0 (pa_cons (pv 0) (pa_cons pe_int pa_nil))) pa_nil)) (pg_name (i := 2) sc_l_number.nd rfl (Or.inl rfl))
    (pss_one (ps_set (i := 1) sc_l_number.nd rfl (Or.inl rfl) (pe_op op_add (pe_op op_mulW (pv 1) (pe_op op_pow pe_int pe_int)) (pe_call G_l_draw (hr.mono (by decide)) rfl C_l_draw.m C_l_draw.k C_l_draw.b .nil pass0 (pa_cons (pv 0) (pa_cons (pe_op op_pow pe_int pe_int) pa_nil)))))))
  (pss_cons (ps_set (i := 3) sc_l_number.nd rfl (Or.inl rfl) pe_int)
  (pss_cons (ps_for PassesOwn.never rfl (pi_range1 (by rfl) z_range (pa_cons (pe_op op_add pe_int (pe_call G_l_draw (hr.mono (by decide)) rfl C_l_draw.m C_l_draw.k C_l_draw.b .nil pass0 (pa_cons (pv 0) (pa_cons pe_int pa_nil)))) pa_nil)) (pg_name (i := 2) sc_l_number.nd rfl (Or.inl rfl))
    (pss_one (ps_set (i := 3) sc_l_number.nd rfl (Or.inl rfl) (pe_op op_mulW (pv 3) (pe_ix (r := rIxL K) ix_list (pe_lst (pa_cons pe_int (pa_cons pe_int pa_nil))) (pe_call G_l_draw (hr.mono (by decide)) rfl C_l_draw.m C_l_draw.k C_l_draw.b .nil pass0 (pa_cons (pv 0) (pa_cons pe_int pa_nil))) (fun _ _ => rfl))))))
  (pss_one (ps_ret (pe_ix (r := rIxL K) ix_list (pe_lst (pa_cons (pv 1) (pa_cons (pv 3) (pa_cons (pe_op op_sub (pv 3) pe_int) (pa_cons (pe_op op_add (pv 3) pe_int) (pa_cons (pe_call G_l_draw (hr.mono (by decide)) rfl C_l_draw.m C_l_draw.k C_l_draw.b .nil pass0 (pa_cons (pv 0) (pa_cons pe_int pa_nil))) (pa_cons (pe_call G_l_draw (hr.mono (by decide)) rfl C_l_draw.m C_l_draw.k C_l_draw.b .nil pass0 (pa_cons (pv 0) (pa_cons pe_int pa_nil))) pa_nil))))))) (pe_call G_l_draw (hr.mono (by decide)) rfl C_l_draw.m C_l_draw.k C_l_draw.b .nil pass0 (pa_cons (pv 0) (pa_cons pe_int pa_nil))) (fun _ _ => rfl)))))))), read_of h fun ds os QA EA hf => ?_⟩
    obtain ⟨k, cells, b, o, rfl, ho, hb, q⟩ := hf
    have hk : k < o.length := let ⟨_, _, _, h, _⟩ := ho; h
    try dsimp only [cxOf, Cx.nox, Cx.wish]
    show W K _ _ _ ⟨[some (.o k), none, none, none], os⟩
    repeat (walk_at "b")
    refine ⟨_, _, _, _, _, rfl, ho, by omega, by omega, fun f0 os1 f1 f2 ho1 => ?_⟩
    repeat (walk_at "b")
    refine w_for (iw_rng1 ?_)
    repeat (walk_at "b")
    refine ⟨_, _, _, _, _, rfl, ho1, by omega, by omega, fun t0 os2 t1 t2 ho2 => ?_⟩
    repeat (walk_at "b")
    refine ⟨by omega, by omega, fun i S' => ∃ (n : Int) (o2 : Option Sv) (os3 : Os), S' = ⟨[some (.o k), some (.d (.int n)), o2, none], os3⟩ ∧ (0 ≤ n ∧ n < 300 * (10 ^ 9) ^ i) ∧ Pn k cells (b + 2 + i) o os3, ⟨f0, none, os2, rfl, ⟨f1, by simpa using f2⟩, ho2.mono (by omega)⟩, ?_, ?_⟩
    · rintro i d S' hd ⟨n, o2, os3, rfl, ⟨hn0, hn1⟩, ho3⟩
      obtain ⟨hi, rfl⟩ := rngD_get hd
      have hi7 : i < 7 := by omega
      have hbnd : (300 * (10 ^ 9) ^ i : Int) ≤ 300 * (10 ^ 9) ^ 6 := by
        have : i = 0 ∨ i = 1 ∨ i = 2 ∨ i = 3 ∨ i = 4 ∨ i = 5 ∨ i = 6 := by omega
        rcases this with rfl | rfl | rfl | rfl | rfl | rfl | rfl <;> decide
      refine gw_name ?_
      repeat (walk_at "b")
      refine bw_i (c_mulS ⟨by omega, Int.lt_of_lt_of_le hn1 (Int.le_trans hbnd (by decide))⟩ (by decide)) ?_
      repeat (walk_at "b")
      refine ⟨_, _, _, _, _, rfl, ho3, by decide, by omega, fun e os4 e0 e1 ho4 => ?_⟩
      repeat (walk_at "b")
      refine ⟨_, _, os4, rfl, ⟨?_, ?_⟩, ho4.mono (by omega)⟩
      · rw [show (10 : Int) ^ Int.toNat 9 = 1000000000 from rfl]
        omega
      · rw [show (10 : Int) ^ Int.toNat 9 = 1000000000 from rfl] at e1 ⊢
        rw [Int.pow_succ, ← Int.mul_assoc]
        generalize (300 * (10 ^ 9) ^ i : Int) = z at *
        have : (n + 1) * 10 ^ 9 ≤ z * 10 ^ 9 := Int.mul_le_mul_of_nonneg_right (by omega) (by decide)
        rw [Int.add_mul] at this
        omega
    · rintro S' ⟨n, o2, os3, rfl, ⟨hn0, hn1⟩, ho3⟩
      rw [rngD_len] at hn1 ho3
      have ht7 : t0.toNat < 7 := by omega
      have hbnd : (300 * (10 ^ 9) ^ t0.toNat : Int) ≤ 300 * (10 ^ 9) ^ 6 := by
        have : t0.toNat = 0 ∨ t0.toNat = 1 ∨ t0.toNat = 2 ∨ t0.toNat = 3 ∨ t0.toNat = 4 ∨ t0.toNat = 5 ∨ t0.toNat = 6 := by omega
        rcases this with h | h | h | h | h | h | h <;> rw [h] <;> decide
      have hn2 : n < 2 ^ 200 := Int.lt_of_lt_of_le hn1 (Int.le_trans hbnd (by decide))
      have ho3 : Pn k cells (b + 9) o os3 := ho3.mono (by omega)
      repeat (walk_at "b")
      refine w_for (iw_rng1 ?_)
      repeat (walk_at "b")
      refine ⟨_, _, _, _, _, rfl, ho3, by omega, by omega, fun u0 os4 u1 u2 ho4 => ?_⟩
      repeat (walk_at "b")
      refine ⟨by omega, by omega, fun i S' => ∃ (g : Int) (o2 : Option Sv) (os5 : Os), S' = ⟨[some (.o k), some (.d (.int n)), o2, some (.d (.int g))], os5⟩ ∧ (1 ≤ g ∧ g ≤ 256 ^ i) ∧ (1 ≤ i → 128 ≤ g) ∧ Pn k cells (b + 10 + i) o os5, ⟨1, o2, os4, rfl, ⟨by decide, by simp⟩, fun z => by omega, ho4.mono (by omega)⟩, ?_, ?_⟩
      · rintro i d S' hd ⟨g, o2, os5, rfl, ⟨hg0, hg1⟩, _, ho5⟩
        obtain ⟨hi, rfl⟩ := rngD_get hd
        refine gw_name ?_
        repeat (walk_at "b")
        refine ⟨_, _, _, _, _, rfl, ho5, by decide, by omega, fun e os6 e0 e1 ho6 => ?_⟩
        obtain ⟨x, hx, hm⟩ := at_mem (xs := [D.int 256, .int 128]) e0 (by show e < 2; omega)
        refine bw_ixL hx ?_
        have hx2 : ∃ c : Int, x = .int c ∧ 128 ≤ c ∧ c ≤ 256 := by
          simp only [List.mem_cons, List.not_mem_nil, or_false] at hm
          rcases hm with rfl | rfl
          · exact ⟨_, rfl, by decide, by decide⟩
          · exact ⟨_, rfl, by decide, by decide⟩
        obtain ⟨c, rfl, c0, c1⟩ := hx2
        have h3 : (256 : Int) ^ i * 256 = 256 ^ (i + 1) := (Int.pow_succ ..).symm
        have h4 : g * c ≤ 256 ^ (i + 1) := by
          rw [← h3]
          exact Int.mul_le_mul hg1 c1 (by omega) (Int.le_of_lt (Int.pow_pos (by decide)))
        have h5 : 128 ≤ g * c := by
          have : 1 * 128 ≤ g * c := Int.mul_le_mul hg0 c0 (by decide) (by omega)
          omega
        refine bw_i (mulB (i := i + 1) (by omega) (by rw [← h3]; have : (0 : Int) < 256 ^ i := Int.pow_pos (by decide); omega) (by omega) (by omega) (by omega)) ?_
        refine gw_name ?_
        exact ⟨g * c, _, os6, rfl, ⟨by omega, h4⟩, fun _ => h5, ho6.mono (by omega)⟩
      · rintro S' ⟨g, o2, os5, rfl, ⟨hg0, hg1⟩, hg2, ho5⟩
        rw [rngD_len] at hg1 hg2 ho5
        have hg3 := hg2 (by omega)
        have hg4 : g ≤ 256 ^ 12 := by
          refine Int.le_trans hg1 ?_
          have : (1 + u0).toNat ≤ 12 := by omega
          obtain ⟨z, hz⟩ := Nat.exists_eq_add_of_le this
          rw [hz, Int.pow_add]
          have q1 : (1 : Int) ≤ 256 ^ z := Int.pow_pos (by decide)
          have q2 : (0 : Int) ≤ 256 ^ (1 + u0).toNat := Int.le_of_lt (Int.pow_pos (by decide))
          have := Int.mul_le_mul_of_nonneg_left q1 q2
          omega
        have hg5 : g + 1 < 2 ^ 200 := by
          have : (256 : Int) ^ 12 + 1 < 2 ^ 200 := by decide
          omega
        have ho5 : Pn k cells (b + 22) o os5 := ho5.mono (by omega)
        have p2 : (2 : Int) ^ 200 < 2 ^ 210 := by decide
        repeat (walk_at "b")
        refine ⟨_, _, _, _, _, rfl, ho5, by decide, by omega, fun c1 os6 c10 c11 ho6 => ?_⟩
        repeat (walk_at "b")
        refine ⟨_, _, _, _, _, rfl, ho6, by decide, by omega, fun c2 os7 c20 c21 ho7 => ?_⟩
        repeat (walk_at "b")
        refine ⟨_, _, _, _, _, rfl, ho7, by decide, by omega, fun c3 os8 c30 c31 ho8 => ?_⟩
        obtain ⟨x, hx, hm⟩ := at_mem (xs := [D.int n, .int g, .int (g - 1), .int (g + 1), .int c1, .int c2]) c30 (by show c3 < 6; omega)
        refine bw_ixL hx ?_
        have hx2 : ∃ c : Int, x = .int c ∧ isN c := by
          simp only [List.mem_cons, List.not_mem_nil, or_false] at hm
          rcases hm with rfl | rfl | rfl | rfl | rfl | rfl
          · exact ⟨_, rfl, hn0, by omega⟩
          · exact ⟨_, rfl, by omega, by omega⟩
          · exact ⟨_, rfl, by omega, by omega⟩
          · exact ⟨_, rfl, by omega, by omega⟩
          · exact ⟨_, rfl, by omega, by omega⟩
          · exact ⟨_, rfl, by omega, by omega⟩
        obtain ⟨c, rfl, hc⟩ := hx2
        have hoz : Pn k cells (b + 40) o os8 := ho8.mono (by omega)
        exact Pn.ret ho hoz (q c os8 hc hoz)
end

open PySem PySem.Spec PyProof.Rows L2 Br
open Nm (dg sv svE wo lgo long)
theorem longD_inl {v : Int} {e : Nat} : longD (.inl (v, e)) = .tup [.int v, .int (e : Nat)] := rfl
section
variable {P : Program} {w : World} {K : PySem.W.Frag} {mg : Str → Option Value} {base : Heap}
abbrev s_l_room : Stmt := topS 23
abbrev N_l_room : List Str := ["_law_number_here", "_law_count", "_law_found", "_law_turn"]
theorem sc_l_room : FnScope N_l_room ["_law_number_here", "_law_count"] (defScope s_l_room) := ⟨rfl, rfl, rfl, by decide +kernel, rfl, by decide +kernel, by decide +kernel⟩
theorem ok_l_room {f : Addr} {fd : FuncData} (F : Fun K "_law_room" "_law_room" s_l_room f fd) (z_range : mg "range" = none) (z_tuple : mg "tuple" = none) : FnOk P w K mg base CX0 1 f fd ["_law_number_here", "_law_count"] (spD K fRoom) := by
  refine F.ok sc_l_room (fun vs H Q E h => ?_) (fun cdv A outer s H vs Q E hr h => ?_)
  · obtain ⟨as, os, ds, QA, EA, R, r, ⟨n, c, rfl, _⟩, _⟩ := h
    rw [r.length]
    rfl
  · have passOwn := @PassesOwn.never
    refine ⟨_, (pss_cons (ps_set (i := 2) sc_l_room.nd rfl (Or.inl rfl) (pe_lst pa_nil))
  (pss_cons (ps_for PassesOwn.never rfl (pi_range1 (by rfl) z_range (pa_cons (pv 1) pa_nil)) (pg_name (i := 3) sc_l_room.nd rfl (Or.inl rfl))
    (pss_cons (ps_expr (pe_bm PySem.F.plainAttrs_list PySem.F.slot_list_insert PySem.F.type_list_insert mt_insA (pv 2) (pa_cons pe_int (pa_cons (pe_op op_mod (pv 0) pe_int) pa_nil))))
    (pss_one (ps_set (i := 0) sc_l_room.nd rfl (Or.inl rfl) (pe_op op_fdivW (pv 0) pe_int)))))
  (pss_one (ps_ret (pe_ifExp (pt_cmpR op_eq (pv 0) pe_int (nomark _)) (pe_callTy call_tupA (by rfl) z_tuple (by decide +kernel) (pa_cons (pv 2) pa_nil)) pe_non))))), read_of h fun ds os QA EA hf => ?_⟩
    obtain ⟨n, c, rfl, hn, hc, q⟩ := hf
    try dsimp only [cxOf, Cx.nox, Cx.wish]
    show W K _ _ _ ⟨[some (.d (.int n)), some (.d (.int c)), none, none], os⟩
    refine w_seq (w_newL ?_)
    dsimp only [List.set_cons_zero, List.set_cons_succ]
    refine w_seq (w_for (iw_rng1 ?_))
    repeat (walk_at "b")
    refine ⟨by omega, by omega, fun i S' => ∃ o3 : Option Sv, S' = ⟨[some (.d (.int (n / 256 ^ i))), some (.d (.int c)), some (.o os.length), o3], os ++ [.ml ((dg 256 n i).reverse.map D.int)]⟩, ⟨none, by simp [dg]⟩, ?_, ?_⟩
    · rintro i d S' hd ⟨o3, rfl⟩
      obtain ⟨hi, rfl⟩ := rngD_get hd
      have hi2 : i < 1000 := by omega
      refine gw_name ?_
      repeat (walk_at "b")
      refine w_drop (ew_ins0 ?_)
      repeat (walk_at "b")
      refine ⟨_, _, rfl, last_at, ?_⟩
      repeat (walk_at "b")
      refine ⟨rfl, ?_⟩
      repeat (walk_at "b")
      refine ⟨_, _, rfl, last_at, by rw [List.length_map, List.length_reverse, Nm.dg_len, sizeLine_eq]; omega, ?_⟩
      rw [last_set]
      repeat (walk_at "b")
      refine ⟨some (.d (.int (0 + (i : Int) * 1))), ?_⟩
      rw [Nm.div_step (n := n) (B := 256) i (by decide), Nm.dg_succ, List.reverse_append, List.map_append]
      rfl
    · rintro S' ⟨o3, rfl⟩
      rw [rngD_len, Int.toNat_natCast]
      repeat (walk_at "b")
      have out : ∀ d, d = rowOr (roomR n c) → RetOk os.length QA (.d d) (os ++ [.ml ((dg 256 n c).reverse.map D.int)]) := fun d e => by
        rw [e]
        exact ret_push q
      refine br_ite (fun h0 => ?_) (fun h0 => ?_)
      · repeat (walk_at "b")
        refine cw_tupO last_at ?_
        exact out _ (by unfold roomR; rw [if_pos h0]; rfl)
      · repeat (walk_at "b")
        exact out _ (by unfold roomR; rw [if_neg h0]; rfl)
abbrev s_l_worth : Stmt := topS 24
abbrev N_l_worth : List Str := ["_law_row", "_law_found", "_law_k"]
theorem sc_l_worth : FnScope N_l_worth ["_law_row"] (defScope s_l_worth) := ⟨rfl, rfl, rfl, by decide +kernel, rfl, by decide +kernel, by decide +kernel⟩
theorem ok_l_worth {f : Addr} {fd : FuncData} (F : Fun K "_law_worth" "_law_worth" s_l_worth f fd) (z_range : mg "range" = none) (z_len : mg "len" = none) : FnOk P w K mg base CX0 1 f fd ["_law_row"] (spD K fWorth) := by
  refine F.ok sc_l_worth (fun vs H Q E h => ?_) (fun cdv A outer s H vs Q E hr h => ?_)
  · obtain ⟨as, os, ds, QA, EA, R, r, ⟨row, rfl, _⟩, _⟩ := h
    rw [r.length]
    rfl
  · have passOwn := @PassesOwn.never
    refine ⟨_, (pss_cons (ps_set (i := 1) sc_l_worth.nd rfl (Or.inl rfl) pe_int)
  (pss_cons (ps_for PassesOwn.never rfl (pi_range1 (by rfl) z_range (pa_cons (pe_callB call_lenA (by rfl) z_len PySem.boot_len (pa_cons (pv 0) pa_nil)) pa_nil)) (pg_name (i := 2) sc_l_worth.nd rfl (Or.inl rfl))
    (pss_one (ps_set (i := 1) sc_l_worth.nd rfl (Or.inl rfl) (pe_op op_add (pe_op op_mulW (pv 1) pe_int) (pe_ix (r := rIxT K) ix_tup (pv 0) (pv 2) (fun _ _ => rfl))))))
  (pss_one (ps_ret (pv 1))))), read_of h fun ds os QA EA hf => ?_⟩
    obtain ⟨row, rfl, hrow, hl, q⟩ := hf
    try dsimp only [cxOf, Cx.nox, Cx.wish]
    show W K _ _ _ ⟨[some (.d (rowD row)), none, none], os⟩
    repeat (walk_at "b")
    refine w_for (iw_rng1 ?_)
    repeat (walk_at "b")
    rw [List.length_map]
    refine ⟨by omega, by omega, fun i S' => ∃ o2 : Option Sv, S' = ⟨[some (.d (rowD row)), some (.d (.int (wo (row.take i)))), o2], os⟩, ⟨none, rfl⟩, ?_, ?_⟩
    · rintro i d S' hd ⟨o2, rfl⟩
      obtain ⟨hi, rfl⟩ := rngD_get hd
      have hi2 : i < row.length := by omega
      have ek : (0 + (i : Int) * 1) = (i : Int) := by omega
      have bd := Nm.wo_lt (i := i) (row := row.take i) (by rw [List.length_take]; omega) fun x hx => hrow x (List.mem_of_mem_take hx)
      rw [ek]
      refine gw_name ?_
      repeat (walk_at "b")
      refine bw_i (mulB bd.1 bd.2 (by omega) (by decide) (by decide)) ?_
      repeat (walk_at "b")
      refine bw_ixT (row_at' hi2) ?_
      repeat (walk_at "b")
      refine ⟨some (.d (.int (i : Int))), ?_⟩
      rw [← List.take_append_getElem hi2, Nm.wo_snoc]
    · rintro S' ⟨o2, rfl⟩
      rw [rngD_len, Int.toNat_natCast, List.take_length]
      repeat (walk_at "b")
      exact ret_same q
abbrev s_l_sevens : Stmt := topS 25
abbrev N_l_sevens : List Str := ["_law_number_here", "_law_found"]
theorem sc_l_sevens : FnScope N_l_sevens ["_law_number_here"] (defScope s_l_sevens) := ⟨rfl, rfl, rfl, by decide +kernel, rfl, by decide +kernel, by decide +kernel⟩
theorem ok_l_sevens {f : Addr} {fd : FuncData} (F : Fun K "_law_sevens" "_law_sevens" s_l_sevens f fd) (z_tuple : mg "tuple" = none) : FnOk P w K mg base CX0 1 f fd ["_law_number_here"] (spD K fSevens) := by
  refine F.ok sc_l_sevens (fun vs H Q E h => ?_) (fun cdv A outer s H vs Q E hr h => ?_)
  · obtain ⟨as, os, ds, QA, EA, R, r, ⟨n, rfl, _⟩, _⟩ := h
    rw [r.length]
    rfl
  · have passOwn := @PassesOwn.never
    refine ⟨_, (pss_cons (ps_set (i := 1) sc_l_sevens.nd rfl (Or.inl rfl) (pe_lst (pa_cons (pe_op op_mod (pv 0) pe_int) pa_nil)))
  (pss_cons (ps_while PassesOwn.never (pt_cmpR op_gt (pv 0) pe_int (nomark _))
    (pss_cons (ps_set (i := 0) sc_l_sevens.nd rfl (Or.inl rfl) (pe_op op_fdivW (pv 0) pe_int))
    (pss_one (ps_expr (pe_bm PySem.F.plainAttrs_list PySem.F.slot_list_insert PySem.F.type_list_insert mt_insA (pv 1) (pa_cons pe_int (pa_cons (pe_op op_add pe_int (pe_op op_mod (pv 0) pe_int)) pa_nil)))))))
  (pss_one (ps_ret (pe_callTy call_tupA (by rfl) z_tuple (by decide +kernel) (pa_cons (pv 1) pa_nil)))))), read_of h fun ds os QA EA hf => ?_⟩
    obtain ⟨n, rfl, hn, q⟩ := hf
    try dsimp only [cxOf, Cx.nox, Cx.wish]
    show W K _ _ _ ⟨[some (.d (.int n)), none], os⟩
    refine w_seq (w_asgLst ?_)
    repeat (walk_at "b")
    refine w_while (fun m S' => ∃ i : Nat, S' = ⟨[some (.d (.int (n / 128 ^ i))), some (.o os.length)], os ++ [.ml ((sv n i).reverse.map D.int)]⟩ ∧ m = 31 - i ∧ ∀ j, j < i → 0 < n / 128 ^ (j + 1)) _ ⟨0, by simp [sv], rfl, fun j hj => by omega⟩ ?_
    rintro m S' ⟨i, rfl, rfl, hp⟩
    have hi : i < 31 := Nm.sv_few hn.2 (by
      cases i with
      | zero => exact .inl rfl
      | succ i => exact .inr (hp i (by omega)))
    have hd0 := Nm.div_nn (n := n) i hn.1
    have st := Nm.div_step (n := n) (B := 128) i (by decide)
    repeat (walk_at "b")
    refine br_ite (fun h0 => ?_) (fun h0 => ?_)
    · have hgt : 0 < n / 128 ^ (i + 1) := by omega
      repeat (walk_at "b")
      refine w_drop (ew_ins0 ?_)
      repeat (walk_at "b")
      refine ⟨_, _, rfl, last_at, ?_⟩
      repeat (walk_at "b")
      refine ⟨rfl, ?_⟩
      repeat (walk_at "b")
      refine ⟨_, _, rfl, last_at, by rw [List.length_map, List.length_reverse, Nm.sv_len, sizeLine_eq]; omega, ?_⟩
      rw [last_set]
      rw [st]
      refine ⟨31 - (i + 1), by omega, i + 1, ?_, rfl, fun j hj => ?_⟩
      · rw [Nm.sv_succ, List.reverse_append, List.map_append]
        rfl
      · by_cases e : j = i
        · rw [e]
          exact hgt
        · exact hp j (by omega)
    · have hz : n / 128 ^ (i + 1) = 0 := by omega
      repeat (walk_at "b")
      refine cw_tupO last_at ?_
      exact ret_push (q i ⟨hz, hp⟩)
abbrev s_l_long_due : Stmt := topS 26
abbrev N_l_long_due : List Str := ["_law_row", "_law_spot", "_law_worth_here", "_law_k"]
theorem sc_l_long_due : FnScope N_l_long_due ["_law_row", "_law_spot"] (defScope s_l_long_due) := ⟨rfl, rfl, rfl, by decide +kernel, rfl, by decide +kernel, by decide +kernel⟩
theorem ok_l_long_due {f : Addr} {fd : FuncData} (F : Fun K "_law_long_due" "_law_long_due" s_l_long_due f fd) (z_range : mg "range" = none) (z_len : mg "len" = none) : FnOk P w K mg base CX0 1 f fd ["_law_row", "_law_spot"] (spD K fLongDue) := by
  refine F.ok sc_l_long_due (fun vs H Q E h => ?_) (fun cdv A outer s H vs Q E hr h => ?_)
  · obtain ⟨as, os, ds, QA, EA, R, r, ⟨row, p, rfl, _⟩, _⟩ := h
    rw [r.length]
    rfl
  · have passOwn := @PassesOwn.never
    refine ⟨_, (pss_cons (ps_if (PW.pt (pw_and (pt_cmpR op_lt (pv 1) (pe_callB call_lenA (by rfl) z_len PySem.boot_len (pa_cons (pv 0) pa_nil)) (nomark _)) (pw_and1 (pt_cmpR op_eq (pe_ix (r := rIxT K) ix_tup (pv 0) (pv 1) (fun _ _ => rfl)) pe_int (nomark _))))) (pss_one (ps_ret (pe_lst (pa_cons pe_str (pa_cons (pv 1) pa_nil))))) pss_nil)
  (pss_cons (ps_set (i := 2) sc_l_long_due.nd rfl (Or.inl rfl) pe_int)
  (pss_cons (ps_for PassesOwn.never rfl (pi_range2 (by rfl) z_range (pa_cons (pv 1) (pa_cons (pe_callB call_lenA (by rfl) z_len PySem.boot_len (pa_cons (pv 0) pa_nil)) pa_nil))) (pg_name (i := 3) sc_l_long_due.nd rfl (Or.inl rfl))
    (pss_cons (ps_set (i := 2) sc_l_long_due.nd rfl (Or.inl rfl) (pe_op op_add (pe_op op_mulW (pv 2) pe_int) (pe_op op_mod (pe_ix (r := rIxT K) ix_tup (pv 0) (pv 3) (fun _ _ => rfl)) pe_int)))
    (pss_one (ps_if (pt_cmpR op_lt (pe_ix (r := rIxT K) ix_tup (pv 0) (pv 3) (fun _ _ => rfl)) pe_int (nomark _)) (pss_one (ps_ret (pe_tup (pa_cons (pv 2) (pa_cons (pe_op op_add (pv 3) pe_int) pa_nil))))) pss_nil))))
  (pss_one (ps_ret (pe_lst (pa_cons pe_str (pa_cons (pe_callB call_lenA (by rfl) z_len PySem.boot_len (pa_cons (pv 0) pa_nil)) pa_nil)))))))), read_of h fun ds os QA EA hf => ?_⟩
    obtain ⟨row, p, rfl, hrow, hl, hp, q⟩ := hf
    try dsimp only [cxOf, Cx.nox, Cx.wish]
    show W K _ _ _ ⟨[some (.d (rowD row)), some (.d (.int (p : Nat))), none, none], os⟩
    refine w_cut (fun S' => S' = ⟨[some (.d (rowD row)), some (.d (.int (p : Nat))), none, none], os⟩ ∧ row[p]? ≠ some 128) ?_ ?_
    · repeat (walk_at "b")
      rw [List.length_map]
      refine br_ite (fun h1 => ?_) (fun h1 => ?_)
      · have hp2 : p < row.length := by omega
        repeat (walk_at "b")
        refine bw_ixT (row_at' hp2) ?_
        repeat (walk_at "b")
        refine br_ite (fun h2 => ?_) (fun h2 => ?_)
        · repeat (walk_at "b")
          refine ret_same ?_
          have e : long row p = .inr p := by
            unfold long
            rw [if_pos (by rw [List.getElem?_eq_getElem hp2, h2])]
          rw [e] at q
          exact q
        · repeat (walk_at "b")
          exact ⟨rfl, by rw [List.getElem?_eq_getElem hp2]; exact fun z => h2 (Option.some.inj z)⟩
      · repeat (walk_at "b")
        exact ⟨rfl, by rw [List.getElem?_eq_none (by omega)]; exact fun z => by cases z⟩
    · rintro S' ⟨rfl, hne⟩
      have el : long row p = lgo (row.drop p) 0 p := by
        unfold long
        rw [if_neg hne]
      rw [el] at q
      repeat (walk_at "b")
      refine w_for (iw_rng2 ?_)
      repeat (walk_at "b")
      rw [List.length_map]
      refine ⟨_, _, rfl, ⟨by omega, by omega, by omega, by omega⟩, fun i S' => ∃ (a : Int) (o3 : Option Sv), S' = ⟨[some (.d (rowD row)), some (.d (.int (p : Nat))), some (.d (.int a)), o3], os⟩ ∧ (0 ≤ a ∧ a < 256 ^ i) ∧ lgo (row.drop p) 0 p = lgo (row.drop (p + i)) a (p + i), ⟨0, none, rfl, ⟨by decide, by decide⟩, rfl⟩, ?_, ?_⟩
      · rintro i d S' hd ⟨a, o3, rfl, ha, e⟩
        obtain ⟨hi, rfl⟩ := rngD_get hd
        have hi2 : p + i < row.length := by omega
        have ek : ((p : Int) + (i : Int) * 1) = ((p + i : Nat) : Int) := by omega
        have hb := hrow _ (List.getElem_mem hi2)
        rw [ek]
        rw [List.drop_eq_getElem_cons hi2, lgo] at e
        refine gw_name ?_
        repeat (walk_at "b")
        refine bw_i (mulB ha.1 ha.2 (by omega) (by decide) (by decide)) ?_
        repeat (walk_at "b")
        refine bw_ixT (row_at' hi2) ?_
        repeat (walk_at "b")
        refine bw_ixT (row_at' hi2) ?_
        repeat (walk_at "b")
        refine br_ite (fun h3 => ?_) (fun h3 => ?_)
        · rw [if_pos h3] at e
          repeat (walk_at "b")
          rw [e] at q
          exact ret_same q
        · rw [if_neg h3] at e
          repeat (walk_at "b")
          exact ⟨_, _, rfl, Nm.acc_up ha hb, e⟩
      · rintro S' ⟨a, o3, rfl, ha, e⟩
        rw [rngD_len, show p + ((row.length : Int) - (p : Int)).toNat = row.length by omega, List.drop_length] at e
        rw [e, show lgo [] a row.length = .inr row.length from rfl] at q
        repeat (walk_at "b")
        rw [List.length_map]
        exact ret_same q
end

open PySem PySem.Spec PyProof.Rows L2 Br
open Nm (dg sv svE wo lgo long)
def fWhole : FD := fun ds os QA _ => ∃ x a, ds = [.d x] ∧ x.ty = some a ∧ QA (.bl x.isI) os
/-- what is copied -/
def okD : D → Bool
  | .non => true
  | .bl _ => true
  | .int _ => true
  | .str z => decide (z.length ≤ 1000)
  | .lst xs => decide (xs.length ≤ 1000) && xs.all D.isI
  | .tup xs => decide (xs.length ≤ 1000) && xs.all D.isI
  | .dk kvs => kvs.isEmpty
  | _ => false
def fCopI : FD := fun ds os QA _ => ∃ i : Int, ds = [.d (.int i)] ∧ QA (.int i) os
def fCop : FD := fun ds os QA _ => ∃ d, ds = [.d d] ∧ okD d = true ∧ QA d os
theorem okD_ty {d : D} (h : okD d = true) : ∃ a, d.ty = some a := by
  cases d with
  | ob C fs => cases (show false = true from h)
  | xo C fs => cases (show false = true from h)
  | _ => exact ⟨_, rfl⟩
theorem cut_all {z : Str} : cutS z none none = z := by
  unfold cutS
  rw [HT.sIx_none, HT.sIx_none, List.drop_zero, Nat.sub_zero, show z.length = z.cps.toList.length by simp [Str.length], List.take_length]
section
variable {P : Program} {w : World} {K : PySem.W.Frag} {mg : Str → Option Value} {base : Heap}
abbrev s_is_whole : Stmt := topS 1
abbrev N_is_whole : List Str := ["thing"]
theorem sc_is_whole : FnScope N_is_whole ["thing"] (defScope s_is_whole) := ⟨rfl, rfl, rfl, by decide +kernel, rfl, by decide +kernel, by decide +kernel⟩
theorem ok_is_whole {f : Addr} {fd : FuncData} (F : Fun K "is_whole" "is_whole" s_is_whole f fd) (z_isinstance : mg "isinstance" = none) (z_int : mg "int" = none) (z_bool : mg "bool" = none) : FnOk P w K mg base CX0 1 f fd ["thing"] (spD K fWhole) := by
  refine F.ok sc_is_whole (fun vs H Q E h => ?_) (fun cdv A outer s H vs Q E hr h => ?_)
  · obtain ⟨as, os, ds, QA, EA, R, r, ⟨x, a, rfl, _⟩, _⟩ := h
    rw [r.length]
    rfl
  · refine ⟨_, (pss_one (ps_ret (pe_and (pe_callB call_isi (by rfl) z_isinstance (by decide +kernel) (pa_cons (pv 0) (pa_cons (pe_bltn (v := .ty "int") (by rfl) z_int boot_int rfl) pa_nil))) (pe_one (pe_not (pe_callB call_isi (by rfl) z_isinstance (by decide +kernel) (pa_cons (pv 0) (pa_cons (pe_bltn (v := .ty "bool") (by rfl) z_bool boot_bool rfl) pa_nil)))))))), read_of h fun ds os QA EA hf => ?_⟩
    obtain ⟨x, a, rfl, ha, q⟩ := hf
    try dsimp only [cxOf, Cx.nox, Cx.wish]
    show W K _ _ _ ⟨[some (.d x)], os⟩
    obtain ⟨r, h1, r2, h2, h3⟩ := isi_int ha
    repeat (walk_at "b")
    refine ⟨x, a, r, rfl, ha, h1, ?_⟩
    refine ⟨r, rfl, br_iteB (fun e => ?_) (fun e => ?_)⟩
    · repeat (walk_at "b")
      refine ⟨x, a, r2, rfl, ha, h2, ?_⟩
      refine ⟨r2, rfl, ret_same ?_⟩
      rw [e] at h3
      have e2 : (!r2) = x.isI := by rw [← h3]; rfl
      rw [e2]
      exact q
    · rw [e] at h3
      have e2 : x.isI = false := by rw [← h3]; rfl
      rw [e2] at q
      exact ret_same q
abbrev s_copied : Stmt := topS 2
abbrev N_copied : List Str := ["thing", "part", "key"]
theorem sc_copied : FnScope N_copied ["thing"] (defScope s_copied) := ⟨rfl, rfl, rfl, by decide +kernel, rfl, by decide +kernel, by decide +kernel⟩
theorem ok_copiedI {f : Addr} {fd : FuncData} (F : Fun K "copied" "copied" s_copied f fd) (z_isinstance : mg "isinstance" = none) (z_bool : mg "bool" = none) (z_int : mg "int" = none) (z_str : mg "str" = none) (z_list : mg "list" = none) (z_tuple : mg "tuple" = none) (z_dict : mg "dict" = none)
    (C_copied : Cal K mg "copied" f fd ["thing"]) : FnOk P w K mg base CX0 1 f fd ["thing"] (spD K fCopI) := by
  have G_copied : FnOk P w K mg base CX0 0 f fd ["thing"] (spD K fNo) := ok_no
  refine F.ok sc_copied (fun vs H Q E h => ?_) (fun cdv A outer s H vs Q E hr h => ?_)
  · obtain ⟨as, os, ds, QA, EA, R, r, ⟨d, rfl, _⟩, _⟩ := h
    rw [r.length]
    rfl
  · have hu := hu_of hr
    refine ⟨_, (pss_cons (ps_if (pt_val (pe_callB call_isi (by rfl) z_isinstance (by decide +kernel) (pa_cons (pv 0) (pa_cons (pe_bltn (v := .ty "bool") (by rfl) z_bool boot_bool rfl) pa_nil)))) (pss_one (ps_ret (pv 0))) pss_nil)
  (pss_cons (ps_if (pt_val (pe_callB call_isi (by rfl) z_isinstance (by decide +kernel) (pa_cons (pv 0) (pa_cons (pe_bltn (v := .ty "int") (by rfl) z_int boot_int rfl) pa_nil)))) (pss_one (ps_ret (pe_callTy call_intA (by rfl) z_int (by decide +kernel) (pa_cons (pv 0) pa_nil)))) pss_nil)
  (pss_cons (ps_if (pt_val (pe_callB call_isi (by rfl) z_isinstance (by decide +kernel) (pa_cons (pv 0) (pa_cons (pe_bltn (v := .ty "str") (by rfl) z_str boot_str rfl) pa_nil)))) pss_never pss_nil)
  (pss_cons (ps_if (pt_val (pe_callB call_isi (by rfl) z_isinstance (by decide +kernel) (pa_cons (pv 0) (pa_cons (pe_bltn (v := .ty "list") (by rfl) z_list boot_list rfl) pa_nil)))) pss_never pss_nil)
  (pss_cons (ps_if (pt_val (pe_callB call_isi (by rfl) z_isinstance (by decide +kernel) (pa_cons (pv 0) (pa_cons (pe_bltn (v := .ty "tuple") (by rfl) z_tuple boot_tuple rfl) pa_nil)))) pss_never pss_nil)
  (pss_cons (ps_if (pt_val (pe_callB call_isi (by rfl) z_isinstance (by decide +kernel) (pa_cons (pv 0) (pa_cons (pe_bltn (v := .ty "dict") (by rfl) z_dict boot_dict rfl) pa_nil)))) pss_never pss_nil)
  (pss_one (ps_ret (pv 0))))))))), read_of h fun ds os QA EA hf => ?_⟩
    obtain ⟨i, rfl, q⟩ := hf
    try dsimp only [cxOf, Cx.nox, Cx.wish]
    show W K _ _ _ ⟨[some (.d (.int i)), none, none], os⟩
    repeat (walk_at "b")
    refine ⟨_, "int", false, rfl, rfl, (by decide +kernel), ?_⟩
    repeat (walk_at "b")
    refine ⟨_, "int", true, rfl, rfl, (by decide +kernel), ?_⟩
    repeat (walk_at "b")
    refine cw_intI ?_
    exact ret_same q
theorem ok_copied {f : Addr} {fd : FuncData} (F : Fun K "copied" "copied" s_copied f fd) (z_isinstance : mg "isinstance" = none) (z_bool : mg "bool" = none) (z_int : mg "int" = none) (z_str : mg "str" = none) (z_list : mg "list" = none) (z_tuple : mg "tuple" = none) (z_dict : mg "dict" = none)
    (G_copied : FnOk P w K mg base CX0 1 f fd ["thing"] (spD K fCopI)) (C_copied : Cal K mg "copied" f fd ["thing"]) : FnOk P w K mg base CX0 2 f fd ["thing"] (spD K fCop) := by
  refine F.ok sc_copied (fun vs H Q E h => ?_) (fun cdv A outer s H vs Q E hr h => ?_)
  · obtain ⟨as, os, ds, QA, EA, R, r, ⟨d, rfl, _⟩, _⟩ := h
    rw [r.length]
    rfl
  · have hu := hu_of hr
    refine ⟨_, (pss_cons (ps_if (pt_val (pe_callB call_isi (by rfl) z_isinstance (by decide +kernel) (pa_cons (pv 0) (pa_cons (pe_bltn (v := .ty "bool") (by rfl) z_bool boot_bool rfl) pa_nil)))) (pss_one (ps_ret (pv 0))) pss_nil)
  (pss_cons (ps_if (pt_val (pe_callB call_isi (by rfl) z_isinstance (by decide +kernel) (pa_cons (pv 0) (pa_cons (pe_bltn (v := .ty "int") (by rfl) z_int boot_int rfl) pa_nil)))) (pss_one (ps_ret (pe_callTy call_intA (by rfl) z_int (by decide +kernel) (pa_cons (pv 0) pa_nil)))) pss_nil)
  (pss_cons (ps_if (pt_val (pe_callB call_isi (by rfl) z_isinstance (by decide +kernel) (pa_cons (pv 0) (pa_cons (pe_bltn (v := .ty "str") (by rfl) z_str boot_str rfl) pa_nil)))) (pss_one (ps_ret (pe_slice sl_str (pv 0) po_none po_none))) pss_nil)
  (pss_cons (ps_if (pt_val (pe_callB call_isi (by rfl) z_isinstance (by decide +kernel) (pa_cons (pv 0) (pa_cons (pe_bltn (v := .ty "list") (by rfl) z_list boot_list rfl) pa_nil)))) (pss_one (ps_ret (pe_lc (own := [("part", 1)]) (g := (gName 1)) rfl sc_copied.nd (pi_list (pv 0)) (blkOk_by (own := [("part", 1)]) (N := N_copied) (sc := defScope s_copied) (by decide +kernel)) (fun _ _ _ _ _ => (pg_name (i := 1) sc_copied.nd rfl (Or.inl rfl))) (fun _ _ _ _ _ => pts_nil) (fun _ _ _ _ _ => (pe_call G_copied (hr.mono (by decide)) rfl C_copied.m C_copied.k C_copied.b .nil pass0 (pa_cons (pv 1) pa_nil)))))) pss_nil)
  (pss_cons (ps_if (pt_val (pe_callB call_isi (by rfl) z_isinstance (by decide +kernel) (pa_cons (pv 0) (pa_cons (pe_bltn (v := .ty "tuple") (by rfl) z_tuple boot_tuple rfl) pa_nil)))) (pss_one (ps_ret (pe_callTy call_tupA (by rfl) z_tuple (by decide +kernel) (pa_cons (pe_lc (own := [("part", 1)]) (g := (gName 1)) rfl sc_copied.nd (pi_tup (pv 0)) (blkOk_by (own := [("part", 1)]) (N := N_copied) (sc := defScope s_copied) (by decide +kernel)) (fun _ _ _ _ _ => (pg_name (i := 1) sc_copied.nd rfl (Or.inl rfl))) (fun _ _ _ _ _ => pts_nil) (fun _ _ _ _ _ => (pe_call G_copied (hr.mono (by decide)) rfl C_copied.m C_copied.k C_copied.b .nil pass0 (pa_cons (pv 1) pa_nil)))) pa_nil)))) pss_nil)
  (pss_cons (ps_if (pt_val (pe_callB call_isi (by rfl) z_isinstance (by decide +kernel) (pa_cons (pv 0) (pa_cons (pe_bltn (v := .ty "dict") (by rfl) z_dict boot_dict rfl) pa_nil)))) (pss_one (ps_ret (pe_lk (pe_dc (own := [("key", 2)]) (g := (gName 2)) rfl sc_copied.nd (pi_keys (pv 0)) (blkOk_by (own := [("key", 2)]) (N := N_copied) (sc := defScope s_copied) (by decide +kernel)) (fun _ _ _ _ _ => (pg_name (i := 2) sc_copied.nd rfl (Or.inl rfl))) (fun _ _ _ _ _ => pts_nil) (fun _ _ _ _ _ => (pv 2)) (fun _ _ _ _ _ => (pe_call G_copied (hr.mono (by decide)) rfl C_copied.m C_copied.k C_copied.b .nil pass0 (pa_cons (pe_dget hu (pv 0) (pv 2) (fun _ _ => rfl)) pa_nil))))))) pss_nil)
  (pss_one (ps_ret (pv 0))))))))), read_of h fun ds os QA EA hf => ?_⟩
    obtain ⟨d, rfl, hc, q⟩ := hf
    try dsimp only [cxOf, Cx.nox, Cx.wish]
    show W K _ _ _ ⟨[some (.d d), none, none], os⟩
    repeat (walk_at "b")
    cases d with
    | ob C fs => cases (show false = true from hc)
    | xo C fs => cases (show false = true from hc)
    | bl b =>
      refine ⟨_, "bool", true, rfl, rfl, (by decide +kernel), ?_⟩
      repeat (walk_at "b")
      exact ret_same q
    | int i =>
      refine ⟨_, "int", false, rfl, rfl, (by decide +kernel), ?_⟩
      repeat (walk_at "b")
      refine ⟨_, "int", true, rfl, rfl, (by decide +kernel), ?_⟩
      repeat (walk_at "b")
      refine cw_intI ?_
      exact ret_same q
    | str z =>
      have hz : z.length ≤ 1000 := of_decide_eq_true hc
      refine ⟨_, "str", false, rfl, rfl, (by decide +kernel), ?_⟩
      repeat (walk_at "b")
      refine ⟨_, "str", false, rfl, rfl, (by decide +kernel), ?_⟩
      repeat (walk_at "b")
      refine ⟨_, "str", true, rfl, rfl, (by decide +kernel), ?_⟩
      repeat (walk_at "b")
      refine sw_S (by rw [sizeLine_eq]; omega) ?_
      rw [cut_all]
      exact ret_same q
    | dk kvs =>
      have e : kvs = [] := by
        cases kvs with
        | nil => rfl
        | cons a r => cases (show false = true from hc)
      subst e
      refine ⟨_, "dict", false, rfl, rfl, (by decide +kernel), ?_⟩
      repeat (walk_at "b")
      refine ⟨_, "dict", false, rfl, rfl, (by decide +kernel), ?_⟩
      repeat (walk_at "b")
      refine ⟨_, "dict", false, rfl, rfl, (by decide +kernel), ?_⟩
      repeat (walk_at "b")
      refine ⟨_, "dict", false, rfl, rfl, (by decide +kernel), ?_⟩
      repeat (walk_at "b")
      refine ⟨_, "dict", false, rfl, rfl, (by decide +kernel), ?_⟩
      repeat (walk_at "b")
      refine ⟨_, "dict", true, rfl, rfl, (by decide +kernel), ?_⟩
      repeat (walk_at "b")
      exact ew_dc0 rfl (ret_same q)
    | non =>
      refine ⟨_, "NoneType", false, rfl, rfl, (by decide +kernel), ?_⟩
      repeat (walk_at "b")
      refine ⟨_, "NoneType", false, rfl, rfl, (by decide +kernel), ?_⟩
      repeat (walk_at "b")
      refine ⟨_, "NoneType", false, rfl, rfl, (by decide +kernel), ?_⟩
      repeat (walk_at "b")
      refine ⟨_, "NoneType", false, rfl, rfl, (by decide +kernel), ?_⟩
      repeat (walk_at "b")
      refine ⟨_, "NoneType", false, rfl, rfl, (by decide +kernel), ?_⟩
      repeat (walk_at "b")
      refine ⟨_, "NoneType", false, rfl, rfl, (by decide +kernel), ?_⟩
      repeat (walk_at "b")
      exact ret_same q
    | lst xs =>
      have hc2 : (decide (xs.length ≤ 1000) && xs.all D.isI) = true := hc
      rw [Bool.and_eq_true] at hc2
      obtain ⟨hl, hcs⟩ := hc2
      have hl2 : xs.length ≤ 1000 := of_decide_eq_true hl
      refine ⟨_, "list", false, rfl, rfl, (by decide +kernel), ?_⟩
      repeat (walk_at "b")
      refine ⟨_, "list", false, rfl, rfl, (by decide +kernel), ?_⟩
      repeat (walk_at "b")
      refine ⟨_, "list", false, rfl, rfl, (by decide +kernel), ?_⟩
      repeat (walk_at "b")
      refine ⟨_, "list", true, rfl, rfl, (by decide +kernel), ?_⟩
      repeat (walk_at "b")
      refine ew_lc (wg_name (by decide)) mg_name ?_
      refine iw_list ?_
      repeat (walk_at "b")
      refine ⟨fun i acc os2 => os2 = os ∧ acc = xs.take i, ⟨rfl, rfl⟩, ?_, ?_⟩
      · rintro i d acc os2 hd ⟨rfl, rfl⟩
        have hi : i < xs.length := (List.getElem?_eq_some_iff.mp hd).1
        have ed : xs[i] = d := (List.getElem?_eq_some_iff.mp hd).2
        subst ed
        refine gw_name ?_
        refine tw_yes (br_T ?_)
        refine ew_call ?_
        refine aw_cons (ew_var (d := .d xs[i]) rfl (aw_nil ?_))
        obtain ⟨z, hz⟩ := isI_is (List.all_eq_true.mp hcs _ (List.getElem_mem hi))
        rw [hz]
        refine ⟨z, rfl, ?_⟩
        rw [← hz]
        exact ⟨_, _, rfl, rfl, by rw [List.length_take, sizeLine_eq]; omega, rfl, by rw [List.take_append_getElem hi]⟩
      · rintro acc os2 ⟨rfl, rfl⟩
        rw [List.take_length]
        exact ret_same q
    | tup xs =>
      have hc2 : (decide (xs.length ≤ 1000) && xs.all D.isI) = true := hc
      rw [Bool.and_eq_true] at hc2
      obtain ⟨hl, hcs⟩ := hc2
      have hl2 : xs.length ≤ 1000 := of_decide_eq_true hl
      refine ⟨_, "tuple", false, rfl, rfl, (by decide +kernel), ?_⟩
      repeat (walk_at "b")
      refine ⟨_, "tuple", false, rfl, rfl, (by decide +kernel), ?_⟩
      repeat (walk_at "b")
      refine ⟨_, "tuple", false, rfl, rfl, (by decide +kernel), ?_⟩
      repeat (walk_at "b")
      refine ⟨_, "tuple", false, rfl, rfl, (by decide +kernel), ?_⟩
      repeat (walk_at "b")
      refine ⟨_, "tuple", true, rfl, rfl, (by decide +kernel), ?_⟩
      refine ⟨_, rfl, br_T (w_ret (ew_cb (aw_cons ?_)))⟩
      refine ew_lc (wg_name (by decide)) mg_name ?_
      refine iw_tup ?_
      repeat (walk_at "b")
      refine ⟨fun i acc os2 => os2 = os ∧ acc = xs.take i, ⟨rfl, rfl⟩, ?_, ?_⟩
      · rintro i d acc os2 hd ⟨rfl, rfl⟩
        have hi : i < xs.length := (List.getElem?_eq_some_iff.mp hd).1
        have ed : xs[i] = d := (List.getElem?_eq_some_iff.mp hd).2
        subst ed
        refine gw_name ?_
        refine tw_yes (br_T ?_)
        refine ew_call ?_
        refine aw_cons (ew_var (d := .d xs[i]) rfl (aw_nil ?_))
        obtain ⟨z, hz⟩ := isI_is (List.all_eq_true.mp hcs _ (List.getElem_mem hi))
        rw [hz]
        refine ⟨z, rfl, ?_⟩
        rw [← hz]
        exact ⟨_, _, rfl, rfl, by rw [List.length_take, sizeLine_eq]; omega, rfl, by rw [List.take_append_getElem hi]⟩
      · rintro acc os2 ⟨rfl, rfl⟩
        rw [List.take_length]
        refine aw_nil (cw_tupL (ret_same q))
end

open PySem PySem.Spec PyProof.Rows L2 Br
open Nm (dg sv svE wo lgo long)
/-- a class of exceptions with its own __init__, over ValueError -/
structure Xve (K : PySem.W.Frag) (mg : Str → Option Value) (x : Str) (C f : Addr) (fd : FuncData) (ps : List Str) : Prop where
  T : OexC K C
  iC : PySem.W.findIn K (.ref C) "__init__" = some (some (.ref f))
  tI : PySem.W.typeIn K (.ref f) = some (.type "function")
  b : Binds K fd ps []
  m : mg x = some (.ref C)
section
variable {P : Program} {w : World} {K : PySem.W.Frag} {mg : Str → Option Value} {base : Heap}
theorem init_walk {C : Addr} {f : Str} {f1 : FD} {as : List Addr} {os : Os} {a : Addr} {v : V} {d : D} {H : Hp} {Q : VK} {σ : L2.St} (T : OexC K C) (nA : PySem.W.findIn K (.ref C) f = some none) (h0 : σ[0]? = some (some (.ref a))) (h1 : σ[1]? = some (some v))
    (R : Ro K as H os) (na : a ∉ as) (rd : Dx K as H v d) (ea : H a = some (exo a C none))
    (k : ∀ (dx : Addr) (v' : V) (H' : Hp), H dx = none → dx ≠ a → H' a = some (exo a C (some dx)) → H' dx = some (exd dx [(f, v')]) →
      (∀ Hf : Hp, (∀ b o, b ≠ a → b ≠ dx → H' b = some o → Hf b = some o) → (∀ b o, b ≠ a → b ∉ as → H b = some o → Hf b = some o) ∧ Ro K as Hf os ∧ Dx K as Hf v' d) → Q .non H')
    (cop : ∀ (QA : D → Os → Prop), QA d os → f1 [.d d] os QA fun _ _ _ => False) (D : Ends) (hD : ∀ σ H', Q .non H' → D.nx σ H') :
    tOst K f (tVar 0) (tCall (spD K f1) [] E0 (tCons (tVar 1) tNil)) D σ H := by
  refine ⟨v, h1, as, os, [.d d], fun d' os' => d' = d ∧ os' = os, fun _ _ _ => False, R, .cons rd .nil, cop _ ⟨rfl, rfl⟩, ?_, fun _ _ _ _ _ _ _ _ _ _ _ z => z.elim⟩
  rintro v' H1 d' os' g R1 r1 ⟨rfl, rfl⟩
  have ea1 : H1 a = some (exo a C none) := g _ _ ea na
  refine ⟨_, h0, a, C, rfl, T, nA, .inl ⟨ea1, fun dx hdx hne => hD _ _ (k dx v' _ (g.free (R1.notin hdx) hdx) hne upd_same (by rw [upd_ne hne]; exact upd_same) fun Hf same => ?_)⟩⟩
  have keep : KeepX C H1 Hf := fun b u e nu => by
    have nb : b ≠ a := fun z => by
      rw [z, ea1] at e
      cases e
      exact nu (by rw [z])
    refine same b u nb (ne_of_none e hdx) ?_
    rw [upd_ne nb, upd_ne (ne_of_none e hdx)]
    exact e
  refine ⟨fun b o nb n e => ?_, R1.kx keep, r1.kx keep⟩
  have e1 := g b o e n
  refine same b o nb (ne_of_none e1 hdx) ?_
  rw [upd_ne nb, upd_ne (ne_of_none e1 hdx)]
  exact e1
abbrev s_NoNumber_init : Stmt := inClass (topS 9) 0
abbrev N_NoNumber_init : List Str := ["self", "number"]
theorem sc_NoNumber_init : FnScope N_NoNumber_init ["self", "number"] (defScope s_NoNumber_init) := ⟨rfl, rfl, rfl, by decide +kernel, rfl, by decide +kernel, by decide +kernel⟩
theorem ok_NoNumber_init {C f a1 : Addr} {fd d1 : FuncData} (F : Fun K "__init__" "NoNumber.__init__" s_NoNumber_init f fd) (T : OexC K C) (nA : PySem.W.findIn K (.ref C) "number" = some none) (z_ValueError : mg "ValueError" = none) (vV : PySem.W.findCls K (.type "ValueError") (.type "type") "__init__" = some (.val (.builtin "ValueError.__init__")))
    (G_copied : FnOk P w K mg base CX0 2 a1 d1 ["thing"] (spD K fCop)) (C_copied : Cal K mg "copied" a1 d1 ["thing"]) : FnOk P w K mg base CX0 3 f fd ["self", "number"] (spIX K C "number" okD) := by
  refine F.ok sc_NoNumber_init (fun vs H Q E h => ?_) (fun cdv A outer s H vs Q E hr h => ?_)
  · obtain ⟨as, os, a, v, d, rfl, _⟩ := h
    rfl
  · obtain ⟨as, os, a, v, d, rfl, R, na, rd, hd, ea, k⟩ := h
    refine ⟨_, pss_cons (ps_expr (pe_veinit (by rfl) z_ValueError vV (pa_cons (pv 0) (pa_cons pe_str pa_nil))))
      (pss_one (ps_ost (pv 0) (pe_call G_copied (hr.mono (by decide)) rfl C_copied.m C_copied.k C_copied.b .nil pass0 (pa_cons (pv 1) pa_nil)))), ?_⟩
    refine ⟨_, rfl, a, C, _, rfl, Nat.le_of_ble_eq_true rfl, T, ea, ?_⟩
    exact init_walk T nA rfl rfl R na rd ea k (fun QA q => ⟨d, rfl, hd, q⟩) _ fun σ H' q => q
abbrev s_NoBytes_init : Stmt := inClass (topS 8) 0
abbrev N_NoBytes_init : List Str := ["self", "at"]
theorem sc_NoBytes_init : FnScope N_NoBytes_init ["self", "at"] (defScope s_NoBytes_init) := ⟨rfl, rfl, rfl, by decide +kernel, rfl, by decide +kernel, by decide +kernel⟩
theorem ok_NoBytes_init {C f a1 : Addr} {fd d1 : FuncData} (F : Fun K "__init__" "NoBytes.__init__" s_NoBytes_init f fd) (T : OexC K C) (nA : PySem.W.findIn K (.ref C) "at" = some none) (z_ValueError : mg "ValueError" = none) (vV : PySem.W.findCls K (.type "ValueError") (.type "type") "__init__" = some (.val (.builtin "ValueError.__init__")))
    (G_copied : FnOk P w K mg base CX0 2 a1 d1 ["thing"] (spD K fCop)) (C_copied : Cal K mg "copied" a1 d1 ["thing"]) : FnOk P w K mg base CX0 3 f fd ["self", "at"] (spIX K C "at" okD) := by
  refine F.ok sc_NoBytes_init (fun vs H Q E h => ?_) (fun cdv A outer s H vs Q E hr h => ?_)
  · obtain ⟨as, os, a, v, d, rfl, _⟩ := h
    rfl
  · obtain ⟨as, os, a, v, d, rfl, R, na, rd, hd, ea, k⟩ := h
    refine ⟨_, pss_cons (ps_expr (pe_veinit (by rfl) z_ValueError vV (pa_cons (pv 0) (pa_cons pe_str pa_nil))))
      (pss_one (ps_ost (pv 0) (pe_call G_copied (hr.mono (by decide)) rfl C_copied.m C_copied.k C_copied.b .nil pass0 (pa_cons (pv 1) pa_nil)))), ?_⟩
    refine ⟨_, rfl, a, C, _, rfl, Nat.le_of_ble_eq_true rfl, T, ea, ?_⟩
    exact init_walk T nA rfl rfl R na rd ea k (fun QA q => ⟨d, rfl, hd, q⟩) _ fun σ H' q => q
/-- raised, with this field -/
theorem raise_d {E : XK} {EA : Xa} {os os1 : Os} {Sl : Sl} {En : Ea} {C : Addr} {f : Str} {d : D} {te : TE} (hd : okD d = true)
    (h : EW K { wx := fun cls d (x : L2.St) H => E cls d H, xe := fun C fds S => EA C fds (S.os.take os.length) } te ⟨Sl, os1⟩ fun x os' => x = .d d ∧ os' = os1) (q : EA C [(f, d)] (os1.take os.length)) :
    W K { wx := fun cls d (x : L2.St) H => E cls d H, xe := fun C fds S => EA C fds (S.os.take os.length) } (fun x σ H => tMkO C (spIX K C f okD) [] (tCons te tNil) σ H fun cls d H' => E cls d H') En ⟨Sl, os1⟩ := by
  refine w_raiseX (Wx := fun cls d x H => E cls d H) rfl (aw_cons (ew_mono h ?_))
  rintro x os' ⟨rfl, rfl⟩
  exact aw_nil ⟨_, rfl, hd, q⟩
def fBytesOf (M : Addr) : FD := fun ds os QA EA => ∃ (d : D) (c : Nat), ds = [.d d, .d (.int c)] ∧ okD d = true ∧ c ≤ 1000 ∧ (∀ n : Int, d = .int n → 0 ≤ n → ∀ r, roomR n c = some r → QA (rowD r) os) ∧
  ((∀ n : Int, d = .int n → 0 ≤ n → roomR n c = none) → EA M [("number", d)] os)
def fNumberOf : FD := fWorth
def fLongOf (M : Addr) : FD := fun ds os QA EA => ∃ d : D, ds = [.d d] ∧ okD d = true ∧ (∀ n : Int, d = .int n → 0 ≤ n → n < 2 ^ 210 ∧ ∀ m, svE n m → QA (rowD (sv n m).reverse) os) ∧ ((∀ n : Int, d = .int n → n < 0) → EA M [("number", d)] os)
def fLongAt (M : Addr) : FD := fun ds os QA EA => ∃ (row : List Int) (p : Nat), ds = [.d (rowD row), .d (.int (p : Nat))] ∧ isR row ∧ row.length ≤ 500 ∧ p ≤ row.length ∧ (∀ v e, long row p = .inl (v, e) → QA (.tup [.int v, .int (e : Nat)]) os) ∧ (∀ e, long row p = .inr e → EA M [("at", .int (e : Nat))] os)
def fSumOf : FD := fun ds os QA _ => ∃ row : List Int, ds = [.d (rowD row)] ∧ QA (.int (row.sum % 65536)) os
abbrev s_bytes_of : Stmt := topS 12
abbrev N_bytes_of : List Str := ["number", "many", "row", "rest", "_"]
theorem sc_bytes_of : FnScope N_bytes_of ["number", "many"] (defScope s_bytes_of) := ⟨rfl, rfl, rfl, by decide +kernel, rfl, by decide +kernel, by decide +kernel⟩
theorem ok_bytes_of {M f a1 a2 : Addr} {fd d1 d2 : FuncData} {kws : List (Str × V)} (F : FunD K "bytes_of" "bytes_of" (defArgs s_bytes_of) (defBody s_bytes_of) (defScope s_bytes_of) [] kws f fd) (z_range : mg "range" = none) (z_tuple : mg "tuple" = none) (z_reversed : mg "reversed" = none)
    (G_is_whole : FnOk P w K mg base CX0 1 a1 d1 ["thing"] (spD K fWhole)) (C_is_whole : Cal K mg "is_whole" a1 d1 ["thing"])
    (G_NoNumber : FnOk P w K mg base CX0 3 a2 d2 ["self", "number"] (spIX K M "number" okD)) (X_NoNumber : Xve K mg "NoNumber" M a2 d2 ["self", "number"]) : FnOk P w K mg base (CX P w) 5 f fd ["number", "many"] (spD K (fBytesOf M)) := by
  refine F.ok sc_bytes_of (fun vs H Q E h => ?_) (fun cdv A outer s H vs Q E hr h => ?_)
  · obtain ⟨as, os, ds, QA, EA, R, r, ⟨d, c, rfl, _⟩, _⟩ := h
    rw [r.length]
    rfl
  · refine ⟨_, (pss_cons (ps_if (PW.pt (pw_or (pt_not (pt_val (pe_call G_is_whole (hr.mono (by decide)) rfl C_is_whole.m C_is_whole.k C_is_whole.b .nil pass0 (pa_cons (pv 0) pa_nil)))) (pw_or1 (pt_cmpR op_lt (pv 0) pe_int (nomark _))))) (pss_one (ps_raise rfl (takes_of rfl rfl rfl rfl) (pmk_oex X_NoNumber.T X_NoNumber.iC X_NoNumber.tI G_NoNumber (hr.mono (by decide)) X_NoNumber.b .nil pass0 rfl X_NoNumber.m (pa_cons (pv 0) pa_nil)))) pss_nil)
  (pss_cons (ps_set (i := 2) sc_bytes_of.nd rfl (Or.inl rfl) (pe_lst pa_nil))
  (pss_cons (ps_set (i := 3) sc_bytes_of.nd rfl (Or.inl rfl) (pv 0))
  (pss_cons (ps_for (passes_of rfl) rfl (pi_range1 (by rfl) z_range (pa_cons (pv 1) pa_nil)) (pg_name (i := 4) sc_bytes_of.nd rfl (Or.inl rfl))
    (pss_cons (ps_expr (pe_bm PySem.F.plainAttrs_list PySem.F.slot_list_append PySem.F.type_list_append mt_append (pv 2) (pa_cons (pe_op op_maskA (pv 3) pe_int) pa_nil)))
    (pss_one (ps_set (i := 3) sc_bytes_of.nd rfl (Or.inl rfl) (pe_op op_rightA (pv 3) pe_int)))))
  (pss_cons (ps_if (pt_cmpR op_gt (pv 3) pe_int (nomark _)) (pss_one (ps_raise rfl (takes_of rfl rfl rfl rfl) (pmk_oex X_NoNumber.T X_NoNumber.iC X_NoNumber.tI G_NoNumber (hr.mono (by decide)) X_NoNumber.b .nil pass0 rfl X_NoNumber.m (pa_cons (pv 0) pa_nil)))) pss_nil)
  (pss_one (ps_ret (RT.pe_tupRev rfl (by rfl) z_tuple (by rfl) z_reversed (pv 2))))))))), read_of h fun ds os QA EA hf => ?_⟩
    obtain ⟨d, c, rfl, hd, hc, hQ, hE⟩ := hf
    try dsimp only [cxOf, Cx.nox, Cx.wish]
    show W K _ _ _ ⟨[some (.d d), some (.d (.int c)), none, none, none], os⟩
    obtain ⟨ty, hty⟩ := okD_ty hd
    repeat (walk_at "b")
    refine ⟨d, ty, rfl, hty, _, rfl, ?_⟩
    have no : (∀ n : Int, d = .int n → 0 ≤ n → roomR n c = none) → EA M [("number", d)] (os.take os.length) := fun z => by
      rw [List.take_length]
      exact hE z
    cases hi : d.isI with
    | false =>
      refine br_nF (br_T ?_)
      refine raise_d hd ?_ (no fun n e => by rw [e] at hi; cases hi)
      repeat (walk_at "b")
      exact ⟨rfl, rfl⟩
    | true =>
      obtain ⟨n, rfl⟩ := isI_is hi
      refine br_nT ?_
      repeat (walk_at "b")
      refine br_ite (fun hn => ?_) (fun hn => ?_)
      · refine raise_d hd ?_ (no fun m e h0 => by cases e; omega)
        repeat (walk_at "b")
        exact ⟨rfl, rfl⟩
      · have hn0 : 0 ≤ n := by omega
        refine w_next ?_
        refine w_seq (w_newL ?_)
        dsimp only [List.set_cons_zero, List.set_cons_succ]
        repeat (walk_at "b")
        refine w_for (iw_rng1 ?_)
        repeat (walk_at "b")
        refine ⟨by omega, by omega, fun i S' => ∃ o4 : Option Sv, S' = ⟨[some (.d (.int n)), some (.d (.int c)), some (.o os.length), some (.d (.int (n / 256 ^ i))), o4], os ++ [.ml ((dg 256 n i).map D.int)]⟩, ⟨none, by simp [dg]⟩, ?_, ?_⟩
        · rintro i d S' hd ⟨o4, rfl⟩
          obtain ⟨hi, rfl⟩ := rngD_get hd
          have hi2 : i < 1000 := by omega
          refine gw_name ?_
          refine w_seq (w_drop (ew_app ?_))
          repeat (walk_at "b")
          refine ⟨_, _, rfl, last_at, ?_⟩
          repeat (walk_at "b")
          refine bw_mask 8 rfl ?_
          refine ⟨_, _, rfl, last_at, by rw [List.length_map, Nm.dg_len, sizeLine_eq]; omega, ?_⟩
          rw [last_set]
          repeat (walk_at "b")
          refine bw_right 8 rfl ?_
          refine gw_name ?_
          refine ⟨some (.d (.int (0 + (i : Int) * 1))), ?_⟩
          rw [show (2 : Int) ^ 8 = 256 from rfl, Nm.div_step (n := n) (B := 256) i (by decide), Nm.dg_succ, List.map_append]
          rfl
        · rintro S' ⟨o4, rfl⟩
          rw [rngD_len, Int.toNat_natCast]
          have h0 := Nm.div_nn2 (n := n) c hn0
          repeat (walk_at "b")
          refine br_ite (fun h1 => ?_) (fun h1 => ?_)
          · refine raise_d hd ?_ ?_
            · repeat (walk_at "b")
              exact ⟨rfl, rfl⟩
            · rw [List.take_left' rfl]
              exact hE fun m e _ => by
                cases e
                unfold roomR
                rw [if_neg (by omega)]
          · repeat (walk_at "b")
            refine ew_tupRevO ?_
            repeat (walk_at "b")
            refine ⟨_, _, rfl, last_at, ?_⟩
            rw [← List.map_reverse]
            refine ret_push (hQ n rfl hn0 _ ?_)
            unfold roomR
            rw [if_pos (by omega)]
end

open PySem PySem.Spec PyProof.Rows L2 Br
open Nm (dg sv svE wo lgo long)
section
variable {P : Program} {w : World} {K : PySem.W.Frag} {mg : Str → Option Value} {base : Heap}
abbrev s_number_of : Stmt := topS 13
abbrev N_number_of : List Str := ["row", "number", "byte"]
theorem sc_number_of : FnScope N_number_of ["row"] (defScope s_number_of) := ⟨rfl, rfl, rfl, by decide +kernel, rfl, by decide +kernel, by decide +kernel⟩
theorem ok_number_of {f : Addr} {fd : FuncData} (F : Fun K "number_of" "number_of" s_number_of f fd) : FnOk P w K mg base CX0 1 f fd ["row"] (spD K fNumberOf) := by
  refine F.ok sc_number_of (fun vs H Q E h => ?_) (fun cdv A outer s H vs Q E hr h => ?_)
  · obtain ⟨as, os, ds, QA, EA, R, r, ⟨row, rfl, _⟩, _⟩ := h
    rw [r.length]
    rfl
  · have passOwn := @PassesOwn.never
    refine ⟨_, (pss_cons (ps_set (i := 1) sc_number_of.nd rfl (Or.inl rfl) pe_int)
  (pss_cons (ps_for PassesOwn.never rfl (pi_tup (pv 0)) (pg_name (i := 2) sc_number_of.nd rfl (Or.inl rfl))
    (pss_one (ps_set (i := 1) sc_number_of.nd rfl (Or.inl rfl) (pe_op op_add (pe_op op_mulW (pv 1) pe_int) (pv 2)))))
  (pss_one (ps_ret (pv 1))))), read_of h fun ds os QA EA hf => ?_⟩
    obtain ⟨row, rfl, hrow, hl, q⟩ := hf
    try dsimp only [cxOf, Cx.nox, Cx.wish]
    show W K _ _ _ ⟨[some (.d (rowD row)), none, none], os⟩
    repeat (walk_at "b")
    refine w_for (iw_tup ?_)
    repeat (walk_at "b")
    refine ⟨fun i S' => ∃ o2 : Option Sv, S' = ⟨[some (.d (rowD row)), some (.d (.int (wo (row.take i)))), o2], os⟩, ⟨none, rfl⟩, ?_, ?_⟩
    · rintro i d S' hd ⟨o2, rfl⟩
      rw [List.getElem?_map] at hd
      obtain ⟨x, hx, rfl⟩ := Option.map_eq_some_iff.mp hd
      have hi : i < row.length := (List.getElem?_eq_some_iff.mp hx).1
      have ex : row[i] = x := (List.getElem?_eq_some_iff.mp hx).2
      have bd := Nm.wo_lt (i := i) (row := row.take i) (by rw [List.length_take]; omega) fun x hx => hrow x (List.mem_of_mem_take hx)
      refine gw_name ?_
      repeat (walk_at "b")
      refine bw_i (mulB bd.1 bd.2 (by omega) (by decide) (by decide)) ?_
      repeat (walk_at "b")
      refine ⟨some (.d (.int x)), ?_⟩
      rw [← List.take_append_getElem hi, Nm.wo_snoc, ex]
    · rintro S' ⟨o2, rfl⟩
      rw [List.length_map, List.take_length]
      repeat (walk_at "b")
      exact ret_same q
abbrev s_long_of : Stmt := topS 14
abbrev N_long_of : List Str := ["number", "row", "rest"]
theorem sc_long_of : FnScope N_long_of ["number"] (defScope s_long_of) := ⟨rfl, rfl, rfl, by decide +kernel, rfl, by decide +kernel, by decide +kernel⟩
theorem ok_long_of {M f a1 a2 : Addr} {fd d1 d2 : FuncData} (F : Fun K "long_of" "long_of" s_long_of f fd) (z_tuple : mg "tuple" = none) (z_reversed : mg "reversed" = none)
    (G_is_whole : FnOk P w K mg base CX0 1 a1 d1 ["thing"] (spD K fWhole)) (C_is_whole : Cal K mg "is_whole" a1 d1 ["thing"])
    (G_NoNumber : FnOk P w K mg base CX0 3 a2 d2 ["self", "number"] (spIX K M "number" okD)) (X_NoNumber : Xve K mg "NoNumber" M a2 d2 ["self", "number"]) : FnOk P w K mg base (CX P w) 5 f fd ["number"] (spD K (fLongOf M)) := by
  refine F.okX sc_long_of (fun vs H Q E h => ?_) (fun cdv A outer s H vs Q E hr h => ?_)
  · obtain ⟨as, os, ds, QA, EA, R, r, ⟨d, rfl, _⟩, _⟩ := h
    rw [r.length]
    rfl
  · refine ⟨_, (pss_cons (ps_if (PW.pt (pw_or (pt_not (pt_val (pe_call G_is_whole (hr.mono (by decide)) rfl C_is_whole.m C_is_whole.k C_is_whole.b .nil pass0 (pa_cons (pv 0) pa_nil)))) (pw_or1 (pt_cmpR op_lt (pv 0) pe_int (nomark _))))) (pss_one (ps_raise rfl (takes_of rfl rfl rfl rfl) (pmk_oex X_NoNumber.T X_NoNumber.iC X_NoNumber.tI G_NoNumber (hr.mono (by decide)) X_NoNumber.b .nil pass0 rfl X_NoNumber.m (pa_cons (pv 0) pa_nil)))) pss_nil)
  (pss_cons (ps_set (i := 1) sc_long_of.nd rfl (Or.inl rfl) (pe_lst (pa_cons (pe_op op_maskA (pv 0) pe_int) pa_nil)))
  (pss_cons (ps_set (i := 2) sc_long_of.nd rfl (Or.inl rfl) (pe_op op_rightA (pv 0) pe_int))
  (pss_cons (ps_while (passes_of rfl) (pt_cmpR op_gt (pv 2) pe_int (nomark _))
    (pss_cons (ps_expr (pe_bm PySem.F.plainAttrs_list PySem.F.slot_list_append PySem.F.type_list_append mt_append (pv 1) (pa_cons (pe_op op_add pe_int (pe_op op_maskA (pv 2) pe_int)) pa_nil)))
    (pss_one (ps_set (i := 2) sc_long_of.nd rfl (Or.inl rfl) (pe_op op_rightA (pv 2) pe_int)))))
  (pss_one (ps_ret (RT.pe_tupRev rfl (by rfl) z_tuple (by rfl) z_reversed (pv 1)))))))), read_of h fun ds os QA EA hf => ?_⟩
    obtain ⟨d, rfl, hd, hQ, hE⟩ := hf
    try dsimp only [cxOf, Cx.nox, Cx.wish]
    show W K _ _ _ ⟨[some (.d d), none, none], os⟩
    obtain ⟨ty, hty⟩ := okD_ty hd
    repeat (walk_at "b")
    refine ⟨d, ty, rfl, hty, _, rfl, ?_⟩
    have no : (∀ n : Int, d = .int n → n < 0) → EA M [("number", d)] (os.take os.length) := fun z => by
      rw [List.take_length]
      exact hE z
    cases hi : d.isI with
    | false =>
      refine br_nF (br_T ?_)
      refine raise_d hd ?_ (no fun n e => by rw [e] at hi; cases hi)
      repeat (walk_at "b")
      exact ⟨rfl, rfl⟩
    | true =>
      obtain ⟨n, rfl⟩ := isI_is hi
      refine br_nT ?_
      repeat (walk_at "b")
      refine br_ite (fun hn => ?_) (fun hn => ?_)
      · refine raise_d hd ?_ (no fun m e => by cases e; omega)
        repeat (walk_at "b")
        exact ⟨rfl, rfl⟩
      · have hn0 : 0 ≤ n := by omega
        obtain ⟨hlt, q⟩ := hQ n rfl hn0
        refine w_next ?_
        refine w_seq (w_asgLst ?_)
        repeat (walk_at "b")
        refine bw_mask 7 rfl ?_
        repeat (walk_at "b")
        refine bw_right 7 rfl ?_
        refine gw_name ?_
        repeat (walk_at "b")
        refine w_while (fun m S' => ∃ i : Nat, S' = ⟨[some (.d (.int n)), some (.o os.length), some (.d (.int (n / 128 ^ (i + 1))))], os ++ [.ml ((sv n i).map D.int)]⟩ ∧ m = 31 - i ∧ ∀ j, j < i → 0 < n / 128 ^ (j + 1)) _ ⟨0, by simp [sv], rfl, fun j hj => by omega⟩ ?_
        rintro m S' ⟨i, rfl, rfl, hp⟩
        have hi : i < 31 := Nm.sv_few hlt (by
          cases i with
          | zero => exact .inl rfl
          | succ i => exact .inr (hp i (by omega)))
        have hd0 := Nm.div_nn (n := n) (i + 1) hn0
        have st := Nm.div_step (n := n) (B := 128) (i + 1) (by decide)
        repeat (walk_at "b")
        refine br_ite (fun h0 => ?_) (fun h0 => ?_)
        · refine w_seq (w_drop (ew_app ?_))
          repeat (walk_at "b")
          refine ⟨_, _, rfl, last_at, ?_⟩
          repeat (walk_at "b")
          refine bw_mask 7 rfl ?_
          repeat (walk_at "b")
          refine ⟨_, _, rfl, last_at, by rw [List.length_map, Nm.sv_len, sizeLine_eq]; omega, ?_⟩
          rw [last_set]
          repeat (walk_at "b")
          refine bw_right 7 rfl ?_
          refine gw_name ?_
          rw [show (2 : Int) ^ 7 = 128 from rfl, st]
          refine ⟨31 - (i + 1), by omega, i + 1, ?_, rfl, fun j hj => ?_⟩
          · rw [Nm.sv_succ, List.map_append]
            rfl
          · by_cases e : j = i
            · rw [e]
              exact h0
            · exact hp j (by omega)
        · have hz : n / 128 ^ (i + 1) = 0 := by omega
          repeat (walk_at "b")
          refine ew_tupRevO ?_
          repeat (walk_at "b")
          refine ⟨_, _, rfl, last_at, ?_⟩
          rw [← List.map_reverse]
          exact ret_push (q i ⟨hz, hp⟩)
abbrev s_long_at : Stmt := topS 15
abbrev N_long_at : List Str := ["row", "at", "number", "place"]
theorem sc_long_at : FnScope N_long_at ["row", "at"] (defScope s_long_at) := ⟨rfl, rfl, rfl, by decide +kernel, rfl, by decide +kernel, by decide +kernel⟩
theorem ok_long_at {M f a2 : Addr} {fd d2 : FuncData} {kws : List (Str × V)} (F : FunD K "long_at" "long_at" (defArgs s_long_at) (defBody s_long_at) (defScope s_long_at) [] kws f fd) (z_range : mg "range" = none) (z_len : mg "len" = none)
    (G_NoBytes : FnOk P w K mg base CX0 3 a2 d2 ["self", "at"] (spIX K M "at" okD)) (X_NoBytes : Xve K mg "NoBytes" M a2 d2 ["self", "at"]) : FnOk P w K mg base (CX P w) 5 f fd ["row", "at"] (spD K (fLongAt M)) := by
  refine F.ok sc_long_at (fun vs H Q E h => ?_) (fun cdv A outer s H vs Q E hr h => ?_)
  · obtain ⟨as, os, ds, QA, EA, R, r, ⟨row, p, rfl, _⟩, _⟩ := h
    rw [r.length]
    rfl
  · have hu64 : (A.deeper (envOfC "long_at" (defScope s_long_at) s.heap.objs.size f cdv)).units + 64 < cLine := by
      have := hr.un
      omega
    refine ⟨_, (pss_cons (ps_if (pt_cmpR (op_eqD hu64) (pe_slice (r := rSlA K) sl_tupA (pv 0) (po_some (pv 1)) (po_some (pe_op op_add (pv 1) pe_int))) (pe_tup (pa_cons pe_int pa_nil)) (nomark _)) (pss_one (ps_raise rfl (takes_of rfl rfl rfl rfl) (pmk_oex X_NoBytes.T X_NoBytes.iC X_NoBytes.tI G_NoBytes (hr.mono (by decide)) X_NoBytes.b .nil pass0 rfl X_NoBytes.m (pa_cons (pv 1) pa_nil)))) pss_nil)
  (pss_cons (ps_set (i := 2) sc_long_at.nd rfl (Or.inl rfl) pe_int)
  (pss_cons (ps_for (passes_of rfl) rfl (pi_range2 (by rfl) z_range (pa_cons (pv 1) (pa_cons (pe_callB call_lenA (by rfl) z_len PySem.boot_len (pa_cons (pv 0) pa_nil)) pa_nil))) (pg_name (i := 3) sc_long_at.nd rfl (Or.inl rfl))
    (pss_cons (ps_set (i := 2) sc_long_at.nd rfl (Or.inl rfl) (pe_op op_add (pe_op op_mulW (pv 2) pe_int) (pe_op op_maskA (pe_ix (r := rIxT K) ix_tup (pv 0) (pv 3) (fun _ _ => rfl)) pe_int)))
    (pss_one (ps_if (pt_cmpR op_lt (pe_ix (r := rIxT K) ix_tup (pv 0) (pv 3) (fun _ _ => rfl)) pe_int (nomark _)) (pss_one (ps_ret (pe_tup (pa_cons (pv 2) (pa_cons (pe_op op_add (pv 3) pe_int) pa_nil))))) pss_nil))))
  (pss_one (ps_raise rfl (takes_of rfl rfl rfl rfl) (pmk_oex X_NoBytes.T X_NoBytes.iC X_NoBytes.tI G_NoBytes (hr.mono (by decide)) X_NoBytes.b .nil pass0 rfl X_NoBytes.m (pa_cons (pe_callB call_lenA (by rfl) z_len PySem.boot_len (pa_cons (pv 0) pa_nil)) pa_nil))))))), read_of h fun ds os QA EA hf => ?_⟩
    obtain ⟨row, p, rfl, hrow, hl, hp, hQ, hE⟩ := hf
    try dsimp only [cxOf, Cx.nox, Cx.wish]
    show W K _ _ _ ⟨[some (.d (rowD row)), some (.d (.int (p : Nat))), none, none], os⟩
    have no : ∀ e, long row p = .inr e → EA M [("at", .int (e : Nat))] (os.take os.length) := fun e z => by
      rw [List.take_length]
      exact hE e z
    have ec : Br.cutD (row.map D.int) (some (p : Int)) (some ((p : Int) + 1)) = ((row.drop p).take 1).map D.int := by
      unfold Br.cutD
      rw [show ((p : Int) + 1) = ((p + 1 : Nat) : Int) by omega, HT.sIx_nat, HT.sIx_nat, List.length_map, Nat.min_eq_left hp, ← List.map_drop, ← List.map_take]
      by_cases h1 : p + 1 ≤ row.length
      · rw [Nat.min_eq_left h1, show p + 1 - p = 1 by omega]
      · rw [Nat.min_eq_right (by omega), show row.length - p = 0 by omega, List.drop_of_length_le (by omega)]
        rfl
    refine w_cut (fun S' => S' = ⟨[some (.d (rowD row)), some (.d (.int (p : Nat))), none, none], os⟩ ∧ row[p]? ≠ some 128) ?_ ?_
    · repeat (walk_at "b")
      refine sw_T ?_
      rw [ec]
      repeat (walk_at "b")
      by_cases hp2 : p < row.length
      · have e1 : (row.drop p).take 1 = [row[p]] := by
          rw [List.drop_eq_getElem_cons hp2]
          rfl
        rw [e1]
        have e2 : PyData.eqv (.tuple [.int row[p]]) (.tuple [.int 128]) = decide (row[p] = 128) := Bool.eq_iff_iff.mpr (by simp [PyData.eqv, PyData.eqvAll])
        refine bw_eqD (p := .tuple [.int row[p]]) (r := .tuple [.int 128]) rfl rfl rfl rfl ?_
        rw [e2]
        refine ⟨_, rfl, ?_⟩
        refine br_ite (fun h2 => ?_) (fun h2 => ?_)
        · refine raise_d (d := .int (p : Nat)) rfl ?_ (no p ?_)
          · repeat (walk_at "b")
            exact ⟨rfl, rfl⟩
          · unfold long
            rw [if_pos (by rw [List.getElem?_eq_getElem hp2, h2])]
        · repeat (walk_at "b")
          exact ⟨rfl, by rw [List.getElem?_eq_getElem hp2]; exact fun z => h2 (Option.some.inj z)⟩
      · have e1 : (row.drop p).take 1 = [] := by
          rw [List.drop_of_length_le (by omega)]
          rfl
        rw [e1]
        refine bw_eqD (p := .tuple []) (r := .tuple [.int 128]) rfl rfl rfl rfl ?_
        have e2 : PyData.eqv (.tuple []) (.tuple [.int 128]) = false := by simp [PyData.eqv, PyData.eqvAll]
        rw [e2]
        refine ⟨_, rfl, br_F ?_⟩
        repeat (walk_at "b")
        exact ⟨rfl, by rw [List.getElem?_eq_none (by omega)]; exact fun z => by cases z⟩
    · rintro S' ⟨rfl, hne⟩
      have el : long row p = lgo (row.drop p) 0 p := by
        unfold long
        rw [if_neg hne]
      rw [el] at hQ no
      repeat (walk_at "b")
      refine w_for (iw_rng2 ?_)
      repeat (walk_at "b")
      rw [List.length_map]
      refine ⟨_, _, rfl, ⟨by omega, by omega, by omega, by omega⟩, fun i S' => ∃ (a : Int) (o3 : Option Sv), S' = ⟨[some (.d (rowD row)), some (.d (.int (p : Nat))), some (.d (.int a)), o3], os⟩ ∧ (0 ≤ a ∧ a < 256 ^ i) ∧ lgo (row.drop p) 0 p = lgo (row.drop (p + i)) a (p + i), ⟨0, none, rfl, ⟨by decide, by decide⟩, rfl⟩, ?_, ?_⟩
      · rintro i d S' hd ⟨a, o3, rfl, ha, e⟩
        obtain ⟨hi, rfl⟩ := rngD_get hd
        have hi2 : p + i < row.length := by omega
        have ek : ((p : Int) + (i : Int) * 1) = ((p + i : Nat) : Int) := by omega
        have hb := hrow _ (List.getElem_mem hi2)
        rw [ek]
        rw [List.drop_eq_getElem_cons hi2, lgo] at e
        refine gw_name ?_
        repeat (walk_at "b")
        refine bw_i (mulB ha.1 ha.2 (by omega) (by decide) (by decide)) ?_
        repeat (walk_at "b")
        refine bw_ixT (row_at' hi2) ?_
        repeat (walk_at "b")
        refine bw_mask 7 rfl ?_
        rw [show (2 : Int) ^ 7 = 128 from rfl]
        repeat (walk_at "b")
        refine bw_ixT (row_at' hi2) ?_
        repeat (walk_at "b")
        refine br_ite (fun h3 => ?_) (fun h3 => ?_)
        · rw [if_pos h3] at e
          repeat (walk_at "b")
          exact ret_same (hQ _ _ e)
        · rw [if_neg h3] at e
          repeat (walk_at "b")
          exact ⟨_, _, rfl, Nm.acc_up ha hb, e⟩
      · rintro S' ⟨a, o3, rfl, ha, e⟩
        rw [rngD_len, show p + ((row.length : Int) - (p : Int)).toNat = row.length by omega, List.drop_length] at e
        have en := no row.length e
        refine raise_d (d := .int (row.length : Nat)) rfl ?_ en
        repeat (walk_at "b")
        rw [List.length_map]
        exact ⟨rfl, rfl⟩
abbrev s_sum_of : Stmt := topS 16
abbrev N_sum_of : List Str := ["row"]
theorem sc_sum_of : FnScope N_sum_of ["row"] (defScope s_sum_of) := ⟨rfl, rfl, rfl, by decide +kernel, rfl, by decide +kernel, by decide +kernel⟩
theorem ok_sum_of {f : Addr} {fd : FuncData} (F : Fun K "sum_of" "sum_of" s_sum_of f fd) {tk : Tok} (z_sum : mg "sum" = none) (g_SUM_REST : mg "SUM_REST" = some (.int 65536 tk)) : FnOk P w K mg base CX0 1 f fd ["row"] (spD K fSumOf) := by
  refine F.ok sc_sum_of (fun vs H Q E h => ?_) (fun cdv A outer s H vs Q E hr h => ?_)
  · obtain ⟨as, os, ds, QA, EA, R, r, ⟨row, rfl, _⟩, _⟩ := h
    rw [r.length]
    rfl
  · refine ⟨_, (pss_one (ps_ret (pe_op op_mod (pe_callB (call_sumT rfl) (by rfl) z_sum (by decide +kernel) (pa_cons (pv 0) pa_nil)) (pe_glob (v := V.int 65536) rfl g_SUM_REST ⟨_, rfl⟩)))), read_of h fun ds os QA EA hf => ?_⟩
    obtain ⟨row, rfl, q⟩ := hf
    try dsimp only [cxOf, Cx.nox, Cx.wish]
    show W K _ _ _ ⟨[some (.d (rowD row))], os⟩
    repeat (walk_at "b")
    refine cw_sumT ?_
    repeat (walk_at "b")
    exact ret_same q
end

open PySem PySem.Spec PyProof.Rows L2 Br
open Nm (dg sv svE wo lgo long)
/-- what is asked of a kept exception of the class at C with the field f; O: another class -/
structure Kex (K : PySem.W.Frag) (C : Addr) (f : Str) (O : Addr) : Prop where
  T : XfC K C
  E : ExcC K C
  cl : (PySem.W.clsIn K C).isSome = true
  at_ : PySem.W.findIn K (.ref C) f = some none
  xm : PySem.W.exmOne K (.ref C) (.ref C) = some true
  ve : PySem.W.kitOne K (.ref C) (.type "ValueError") = some true
  no : PySem.W.kitOne K (.ref C) (.ref O) = some false
/-- how a def of the text with defaults is called -/
structure CalM (K : PySem.W.Frag) (mg : Str → Option Value) (x : Str) (f : Addr) : Prop where
  m : mg x = some (.ref f)
  k : PySem.W.keepIn K (.ref f) = true
def fLongTold : FD := fun ds os QA _ => ∃ (row : List Int) (p : Nat), ds = [.d (rowD row), .d (.int (p : Nat))] ∧ isR row ∧ row.length ≤ 500 ∧ p ≤ row.length ∧ QA (longD (long row p)) os
/-- what is told of a call, or the number that is refused -/
def fRefused (M : Addr) : FG := fun fl os QA => (∀ os (Q1 Q2 : D → Os → Prop) (E1 E2 : Xa), fl os Q1 E1 → (∀ d o, Q1 d o → Q2 d o) → (∀ C fds o, E1 C fds o → E2 C fds o) → fl os Q2 E2) ∧ fl os (fun d os' => os' = os ∧ (∃ r, d = rowD r) ∧ QA d os) fun C fds os' => os' = os ∧ C = M ∧ ∃ d, fds = ([("number", d)] : List (Str × D)) ∧ QA (.lst [d]) os
local macro_rules | `(tactic| walk_at "b") => `(tactic| first
  | with_reducible refine ew_isK ?_
  | with_reducible refine ew_isKR ?_
  | with_reducible refine ew_xk ?_)
theorem svA_app {K : PySem.W.Frag} {as : List Addr} {H : Hp} {vs ws : List V} {ds es : List Sv} (a : SvA K as H vs ds) (b : SvA K as H ws es) : SvA K as H (vs ++ ws) (ds ++ es) := by
  induction a with
  | nil => exact b
  | cons h _ ih => exact .cons h ih
theorem bw_isNT {K : PySem.W.Frag} {os : Os} {Q : Sv → Os → Prop} {xs : List D} (q : Q (.d (.bl false)) os) : BW K rIsN (.d (.tup xs)) (.d .non) os Q :=
  bw_pure (fun as H v u Q' R rx ry k => by
    cases rx
    cases ry
    exact ⟨rfl, k _ (.bl false)⟩) q
section
variable {P : Program} {w : World} {K : PySem.W.Frag} {mg : Str → Option Value} {base : Heap}
abbrev s_l_long_told : Stmt := topS 27
abbrev N_l_long_told : List Str := ["_law_row", "_law_spot", "_law_kept", "_law_found", "e"]
theorem sc_l_long_told : FnScope N_l_long_told ["_law_row", "_law_spot"] (defScope s_l_long_told) := ⟨rfl, rfl, rfl, by decide +kernel, rfl, by decide +kernel, by decide +kernel⟩
theorem ok_l_long_told {M O f a1 : Addr} {fd d1 : FuncData} (F : Fun K "_law_long_told" "_law_long_told" s_l_long_told f fd) (z_isinstance : mg "isinstance" = none) (z_ValueError : mg "ValueError" = none) (m_NoBytes : mg "NoBytes" = some (.ref M)) (Y_NoNumber : mg "NoNumber" = some (.ref O)) (KC : Kex K M "at" O)
    (G_long_at : FnOk P w K mg base (CX P w) 5 a1 d1 ["row", "at"] (spD K (fLongAt M))) (C_long_at : CalM K mg "long_at" a1) (KB_long_at_at : KBn K d1 ["row", "at"] 1 ["at"] (fun us ws => us ++ ws) (fun us ws => us ++ ws)) : FnOk P w K mg base CX0 7 f fd ["_law_row", "_law_spot"] (spD K fLongTold) := by
  refine F.ok sc_l_long_told (fun vs H Q E h => ?_) (fun cdv A outer s H vs Q E hr h => ?_)
  · obtain ⟨as, os, ds, QA, EA, R, r, ⟨row, p, rfl, _⟩, _⟩ := h
    rw [r.length]
    rfl
  · refine ⟨_, (pss_cons (ps_set (i := 2) sc_l_long_told.nd rfl (Or.inl rfl) pe_non)
  (pss_cons (ps_try_keep (i := 4) (j := 2) (c := .ref M) rfl rfl sc_l_long_told.nd rfl rfl rfl rfl rfl ⟨rfl, rfl, .inl m_NoBytes⟩ rfl
    (fun Wx pn xe tk _ => (pss_one (ps_set (i := 3) sc_l_long_told.nd rfl (Or.inl rfl) (pe_callNS G_long_at (hr.mono (by decide)) rfl C_long_at.m C_long_at.k KB_long_at_at (fun σ => passAt tk σ) (pa_cons (pv 0) pa_nil) (pk_cons (pv 1) pk_nil))))))
  (pss_cons (ps_if (pt_cmpR op_isN1 (pv 2) pe_non (nomark _)) (pss_one (ps_ret (pv 3))) pss_nil)
  (pss_one (ps_ret (pe_ifExp (PW.pt (pw_and (pt_val (pe_callB (call_isK KC.E KC.cl) (by rfl) z_isinstance (by decide +kernel) (pa_cons (pv 2) (pa_cons (pe_bltn (v := .ty "ValueError") (by rfl) z_ValueError PyProof.Rows.Boot.«ValueError» rfl) pa_nil)))) (pw_and1 (pt_not (pt_val (pe_callB (call_isK KC.E KC.cl) (by rfl) z_isinstance (by decide +kernel) (pa_cons (pv 2) (pa_cons (pe_glob (v := V.ref _) (by rfl) Y_NoNumber rfl) pa_nil)))))))) (pe_lst (pa_cons pe_str (pa_cons (pe_xk KC.T KC.at_ (pv 2)) pa_nil))) pe_str)))))), read_of h fun ds os QA EA hf => ?_⟩
    obtain ⟨row, p, rfl, hrow, hl, hp, q⟩ := hf
    try dsimp only [cxOf, Cx.nox, Cx.wish]
    show W K _ _ _ ⟨[some (.d (rowD row)), some (.d (.int (p : Nat))), none, none, none], os⟩
    refine w_seq (w_asg (ew_non ?_))
    dsimp only [List.set_cons_zero, List.set_cons_succ]
    refine w_cut (fun S' => (∃ v e, long row p = .inl (v, e) ∧ S' = ⟨[some (.d (rowD row)), some (.d (.int (p : Nat))), some (.d .non), some (.d (.tup [.int v, .int (e : Nat)])), none], os⟩) ∨ ∃ e, long row p = .inr e ∧ S' = ⟨[some (.d (rowD row)), some (.d (.int (p : Nat))), some (.d (.xo M [("at", .int (e : Nat))])), none, none], os⟩) ?_ ?_
    · refine w_try_keep (tb := fun W => tAsg (tCallNS 1 1 (spD K (fLongAt M)) (fun us ws => us ++ ws) (WE W) (tCons (tVar 0) tNil) (tCons (tVar 1) tNil)) (gName 3)) (xe := fun C' fds S' => ∃ e, long row p = .inr e ∧ C' = M ∧ fds = ([("at", .int (e : Nat))] : List (Str × D)) ∧ S' = ⟨[some (.d (rowD row)), some (.d (.int (p : Nat))), some (.d .non), none, none], os⟩) (by show 4 < 5; decide) (fun wx => ?_) ?_
      · refine w_asg (ew_callNS (gS := fun us ws => us ++ ws) (fun as H vs zs ds es a b => svA_app a b) ?_)
        repeat (walk_at "b")
        refine ⟨rfl, ?_⟩
        repeat (walk_at "b")
        refine ⟨rfl, row, p, rfl, hrow, hl, hp, fun v e h => .inl ⟨v, e, h, rfl⟩, fun e h => ⟨e, h, rfl, rfl, rfl⟩⟩
      · rintro C' fds S' ⟨e, he, rfl, rfl, rfl⟩
        exact ⟨KC.xm, (by show 4 < 5; decide), .inr ⟨e, he, rfl⟩⟩
    · rintro S' (⟨v, e, he, rfl⟩ | ⟨e, he, rfl⟩)
      · rw [he] at q
        repeat (walk_at "b")
        refine bw_isN0 ⟨_, rfl, br_T ?_⟩
        repeat (walk_at "b")
        exact ret_same q
      · rw [he] at q
        repeat (walk_at "b")
        refine bw_isN1 ⟨_, rfl, br_F ?_⟩
        repeat (walk_at "b")
        refine ⟨_, _, rfl, KC.ve, ?_⟩
        repeat (walk_at "b")
        refine ⟨_, _, rfl, KC.no, ?_⟩
        repeat (walk_at "b")
        refine ⟨_, _, rfl, rfl, ?_⟩
        repeat (walk_at "b")
        exact ret_same q
abbrev s_l_refused : Stmt := topS 28
abbrev N_l_refused : List Str := ["_law_call", "_law_kept", "_law_found", "e"]
theorem sc_l_refused : FnScope N_l_refused ["_law_call"] (defScope s_l_refused) := ⟨rfl, rfl, rfl, by decide +kernel, rfl, by decide +kernel, by decide +kernel⟩
theorem ok_l_refused {M O g : Addr} {k : Nat} {q : Str} (z_isinstance : mg "isinstance" = none) (z_ValueError : mg "ValueError" = none) (m_NoNumber : mg "NoNumber" = some (.ref M)) (Y_NoBytes : mg "NoBytes" = some (.ref O)) (KC : Kex K M "number" O) : Lams P w K mg base "_law_refused" "_law_call" s_l_refused g N_l_refused k q (fRefused M) := by
  intro cdg A outer f c1 s H Q tl hr act hc hT
  refine ⟨_, (pss_cons (ps_set (i := 1) sc_l_refused.nd rfl (Or.inl rfl) pe_non)
  (pss_cons (ps_try_keep (i := 3) (j := 1) (c := .ref M) rfl rfl sc_l_refused.nd rfl rfl rfl rfl rfl ⟨rfl, rfl, .inl m_NoNumber⟩ rfl
    (fun Wx pn xe tk _ => (pss_one (ps_set (i := 2) sc_l_refused.nd rfl (Or.inl rfl) (act Wx pn xe _ _ tk)))))
  (pss_cons (ps_if (pt_cmpR op_isN1 (pv 1) pe_non (nomark _)) (pss_one (ps_ret (pv 2))) pss_nil)
  (pss_one (ps_ret (pe_ifExp (PW.pt (pw_and (pt_val (pe_callB (call_isK KC.E KC.cl) (by rfl) z_isinstance (by decide +kernel) (pa_cons (pv 1) (pa_cons (pe_bltn (v := .ty "ValueError") (by rfl) z_ValueError PyProof.Rows.Boot.«ValueError» rfl) pa_nil)))) (pw_and1 (pt_not (pt_val (pe_callB (call_isK KC.E KC.cl) (by rfl) z_isinstance (by decide +kernel) (pa_cons (pv 1) (pa_cons (pe_glob (v := V.ref _) (by rfl) Y_NoBytes rfl) pa_nil)))))))) (pe_lst (pa_cons (pe_xk KC.T KC.at_ (pv 1)) pa_nil)) pe_str)))))), readL_of hT hc fun r fl os QA hl hg => ?_⟩
  try dsimp only [cxOf, Cx.nox, Cx.wish]
  show W K _ _ _ ⟨[some (.fn f (r.at c1 q)), none, none, none], os⟩
  refine w_seq (w_asg (ew_non ?_))
  dsimp only [List.set_cons_zero, List.set_cons_succ]
  refine w_cut (fun S' => (∃ r1 : List Int, QA (rowD r1) os ∧ S' = ⟨[some (.fn f (r.at c1 q)), some (.d .non), some (.d (rowD r1)), none], os⟩) ∨ ∃ d, QA (.lst [d]) os ∧ S' = ⟨[some (.fn f (r.at c1 q)), some (.d (.xo M [("number", d)])), none, none], os⟩) ?_ ?_
  · refine w_try_keep (tb := fun W => tAsg (tAct 0 f c1 q tl W) (gName 2)) (xe := fun C' fds S' => C' = M ∧ ∃ d, fds = ([("number", d)] : List (Str × D)) ∧ QA (.lst [d]) os ∧ S' = ⟨[some (.fn f (r.at c1 q)), some (.d .non), none, none], os⟩) (by show 3 < 4; decide) (fun wx => ?_) ?_
    · refine w_asg (ew_act rfl hl ?_)
      exact hg.1 _ _ _ _ _ hg.2 (fun d os' ⟨e, ⟨r1, er⟩, z⟩ => by subst e; subst er; exact .inl ⟨r1, z, rfl⟩) fun C fds os' ⟨e, ec, d, ed, z⟩ => by subst e; exact ⟨ec, d, ed, z, rfl⟩
    · rintro C' fds S' ⟨rfl, d, rfl, z, rfl⟩
      exact ⟨KC.xm, (by show 3 < 4; decide), .inr ⟨d, z, rfl⟩⟩
  · rintro S' (⟨r1, z, rfl⟩ | ⟨d, z, rfl⟩)
    · repeat (walk_at "b")
      refine bw_isN0 ⟨_, rfl, br_T ?_⟩
      repeat (walk_at "b")
      exact ret_same z
    · repeat (walk_at "b")
      refine bw_isN1 ⟨_, rfl, br_F ?_⟩
      repeat (walk_at "b")
      refine ⟨_, _, rfl, KC.ve, ?_⟩
      repeat (walk_at "b")
      refine ⟨_, _, rfl, KC.no, ?_⟩
      repeat (walk_at "b")
      refine ⟨_, _, rfl, rfl, ?_⟩
      repeat (walk_at "b")
      exact ret_same z
end

open PySem PySem.Spec PyProof.Rows L2 Br
open Nm (dg sv svE wo lgo long)
theorem okGc {P : Program} {w : World} {K : PySem.W.Frag} {mg : Str → Option Value} {base : Heap} {x qual : Str} {st : Stmt} {f c : Addr} {fd : FuncData} {N ps : List Str} {k : Nat} {sp : Sp} (F : Fun K x qual st f fd) (hc : fd.code = .ref c) (S : FnScope N ps (defScope st)) (len : ∀ vs H Q E, sp vs H Q E → vs.length = ps.length)
    (body : ∀ (cdv : Value) (A : Around) (outer : List Env) (s : Shared) (H : Hp) (vs : List V) (Q : VK) (E : XK), cdv = .ref c → (A.deeper (envOfC qual (defScope st) s.heap.objs.size f cdv)).guards = some [] → Room k (A.deeper (envOfC qual (defScope st) s.heap.objs.size f cdv)) → sp vs H Q E →
      ∃ t, PSs (cxOf CX0 P w K mg base N qual (defScope st) f cdv A outer s H E).nox (defBody st) t ∧ t { nx := fun _ H' => Q .non H', rt := Q } (L2.start N vs) H) : FnG P w K mg base (k + 1) f fd ps sp := by
  obtain ⟨oc, od, kV, doc, pm, an, cdv, ct, osl, rfl, lk, hcd⟩ := F.ex
  refine fn_ofG lk hcd S len fun A outer s H vs Q E hg hr hsp => ?_
  obtain ⟨t, h, q⟩ := body cdv A outer s H vs Q E hc hg hr hsp
  exact ⟨t, h.nox, q⟩
/-- what can be shown -/
def gd (d : D) : Prop := d.fit (2 ^ 400) = true ∧ d.ln ≤ 1000000 ∧ d.dpt ≤ 3
theorem fits_ints {M : Nat} {ns : List Int} (h : ∀ x ∈ ns, x.natAbs ≤ M) : D.fits M (ns.map D.int) = true := by
  induction ns with
  | nil => rfl
  | cons a r ih =>
    show (decide (a.natAbs ≤ M) && D.fits M (r.map D.int)) = true
    rw [decide_eq_true (h a List.mem_cons_self), ih fun x hx => h x (List.mem_cons_of_mem _ hx)]
    rfl
theorem lns_ints (ns : List Int) : D.lns (ns.map D.int) = 1923 * ns.length := by
  induction ns with
  | nil => rfl
  | cons a r ih =>
    show 1921 + 2 + D.lns (r.map D.int) = _
    rw [ih, List.length_cons]
    omega
theorem dpts_ints (ns : List Int) : D.dpts (ns.map D.int) = 0 := by
  induction ns with
  | nil => rfl
  | cons a r ih =>
    show max 0 (D.dpts (r.map D.int)) = 0
    omega
theorem big400 : (256 : Nat) ≤ 2 ^ 400 := by decide +kernel
theorem gd_row {row : List Int} (h : isR row) (hl : row.length ≤ 500) : gd (rowD row) :=
  ⟨fits_ints fun x hx => by have := h x hx; have := big400; omega, by show D.lns _ + 3 ≤ _; rw [lns_ints]; omega, by show D.dpts _ + 1 ≤ 3; rw [dpts_ints]; omega⟩
theorem nat400 {n : Int} (h0 : 0 ≤ n) (h1 : n < 2 ^ 400) : n.natAbs ≤ 2 ^ 400 := by
  have e : ((2 ^ 400 : Nat) : Int) = 2 ^ 400 := by rw [Int.natCast_pow]; rfl
  have : ((n.natAbs : Nat) : Int) ≤ ((2 ^ 400 : Nat) : Int) := by
    rw [e]
    omega
  exact Int.ofNat_le.mp this
theorem p210 : (2 : Int) ^ 210 < 2 ^ 400 := by decide +kernel
theorem gd_num {n : Int} (h : isN n) : gd (.lst [.int n]) :=
  ⟨by
    show (decide (n.natAbs ≤ 2 ^ 400) && true) = true
    rw [decide_eq_true (nat400 h.1 (Int.lt_trans h.2 p210))]
    rfl, by show 1921 + 2 + 0 + 3 ≤ 1000000; decide, by show max 0 0 + 1 ≤ 3; decide⟩
def ansD (n : Int) (c : Nat) : D := match roomR n c with
  | some r => rowD r
  | none => .lst [.int n]
theorem gd_ans {n : Int} {c : Nat} (h : isN n) (hc : c ≤ 100) : gd (ansD n c) := by
  unfold ansD roomR
  by_cases z : n / 256 ^ c = 0
  · rw [if_pos z]
    exact gd_row (fun x hx => Nm.dg_byte x (List.mem_reverse.mp hx)) (by rw [List.length_reverse, Nm.dg_len]; omega)
  · rw [if_neg z]
    exact gd_num h
theorem gd_long {row : List Int} {p : Nat} (h : isR row) (hl : row.length ≤ 45) (hp : p ≤ row.length) : gd (longD (long row p)) := by
  have hin : ∀ v e, long row p = .inl (v, e) → 0 ≤ v ∧ v < 2 ^ 400 ∧ e ≤ 45 := fun v e z => by
    unfold long at z
    split at z
    · cases z
    · obtain ⟨a, b, c⟩ := Nm.lgo_in (i := 0) z ⟨by decide, by decide⟩ fun x hx => h x (List.mem_of_mem_drop hx)
      rw [List.length_drop] at b c
      refine ⟨a, Int.lt_of_lt_of_le b ?_, by omega⟩
      have : (256 : Int) ^ (0 + (row.length - p)) ≤ 256 ^ 45 := by
        obtain ⟨k, hk⟩ := Nat.exists_eq_add_of_le (show 0 + (row.length - p) ≤ 45 by omega)
        rw [hk, Int.pow_add 256 (0 + (row.length - p)) k]
        have q1 : (1 : Int) ≤ 256 ^ k := Int.pow_pos (by decide)
        have q2 : (0 : Int) ≤ 256 ^ (0 + (row.length - p)) := Int.le_of_lt (Int.pow_pos (by decide))
        have := Int.mul_le_mul_of_nonneg_left q1 q2
        omega
      exact Int.le_trans this (by decide +kernel)
  cases e : long row p with
  | inl z =>
    obtain ⟨v, k⟩ := z
    obtain ⟨h0, h1, h2⟩ := hin v k e
    refine ⟨?_, by show 1921 + 2 + (1921 + 2 + 0) + 3 ≤ 1000000; decide, by show 1 ≤ 3; decide⟩
    show (decide (v.natAbs ≤ 2 ^ 400) && (decide ((k : Int).natAbs ≤ 2 ^ 400) && true)) = true
    rw [decide_eq_true (nat400 h0 h1), decide_eq_true (by have := big400; omega)]
    rfl
  | inr k =>
    have hk : k ≤ 45 := by
      have g : ∀ (r : List Int) (a : Int) (q : Nat), lgo r a q = .inr k → k = q + r.length := fun r => by
        induction r with
        | nil => intro a q z; cases z; rfl
        | cons b r ih =>
          intro a q z
          rw [lgo] at z
          split at z
          · cases z
          · have := ih _ _ z
            rw [List.length_cons]
            omega
      unfold long at e
      split at e
      · cases e
        omega
      · have := g _ _ _ e
        rw [List.length_drop] at this
        omega
    refine ⟨?_, ?_, by show 1 ≤ 3; decide⟩
    · show ((D.str "none").fit (2 ^ 400) && (decide ((k : Int).natAbs ≤ 2 ^ 400) && true)) = true
      rw [decide_eq_true (by have := big400; omega), show (D.str "none").fit (2 ^ 400) = true from by decide +kernel]
      rfl
    · show (D.str "none").ln + 2 + (1921 + 2 + 0) + 3 ≤ 1000000
      decide +kernel
theorem reprG {K : PySem.W.Frag} {os : Os} {Q : Sv → Os → Prop} {d : D} (h : gd d) (q : Q (.d (.str (shownD d))) os) : CW K (rReprA K) [.d d] os Q := cw_reprW (M := 2 ^ 400) (by decide +kernel) h.1 (Nat.le_trans h.2.1 (by decide)) (Nat.le_trans h.2.2 (by decide)) q
theorem bytes_mono {M : Addr} {ds : List Sv} {os : Os} {Q1 Q2 : D → Os → Prop} {E1 E2 : Xa} (h : fBytesOf M ds os Q1 E1) (q : ∀ d o, Q1 d o → Q2 d o) (e : ∀ C f o, E1 C f o → E2 C f o) : fBytesOf M ds os Q2 E2 := by
  obtain ⟨d, c, a, b, g, h1, h2⟩ := h
  exact ⟨d, c, a, b, g, fun n i j r k => q _ _ (h1 n i j r k), fun z => e _ _ _ (h2 z)⟩
theorem longof_mono {M : Addr} {ds : List Sv} {os : Os} {Q1 Q2 : D → Os → Prop} {E1 E2 : Xa} (h : fLongOf M ds os Q1 E1) (q : ∀ d o, Q1 d o → Q2 d o) (e : ∀ C f o, E1 C f o → E2 C f o) : fLongOf M ds os Q2 E2 := by
  obtain ⟨d, a, b, h1, h2⟩ := h
  exact ⟨d, a, b, fun n i j => ⟨(h1 n i j).1, fun m k => q _ _ ((h1 n i j).2 m k)⟩, fun z => e _ _ _ (h2 z)⟩
/-- what is told of a number of bytes -/
theorem ref_bytes {M : Addr} {n : Int} {c : Nat} {os : Os} {QA : D → Os → Prop} (hn : isN n) (hc : c ≤ 1000) (q : QA (ansD n c) os) : fRefused M (fun os' Q E => os' = os ∧ fBytesOf M [.d (.int n), .d (.int c)] os' Q E) os QA := by
  refine ⟨fun os' Q1 Q2 E1 E2 ⟨a, b⟩ h1 h2 => ⟨a, bytes_mono b h1 h2⟩, rfl, .int n, c, rfl, rfl, hc, fun m e _ r hr => ?_, fun z => ?_⟩
  · cases e
    refine ⟨rfl, ⟨r, rfl⟩, ?_⟩
    unfold ansD at q
    rw [hr] at q
    exact q
  · refine ⟨rfl, rfl, _, rfl, ?_⟩
    unfold ansD at q
    rw [z n rfl hn.1] at q
    exact q
/-- what is no number -/
def oddV (d : D) : Prop := okD d = true ∧ (∀ n : Int, d = .int n → n < 0) ∧ gd (.lst [d])
theorem ref_odd {M : Addr} {d : D} {c : Nat} {os : Os} {QA : D → Os → Prop} (hd : oddV d) (hc : c ≤ 1000) (q : QA (.lst [d]) os) : fRefused M (fun os' Q E => os' = os ∧ fBytesOf M [.d d, .d (.int c)] os' Q E) os QA := by
  refine ⟨fun os' Q1 Q2 E1 E2 ⟨a, b⟩ h1 h2 => ⟨a, bytes_mono b h1 h2⟩, rfl, d, c, rfl, hd.1, hc, fun m e h0 r hr => ?_, fun z => ?_⟩
  · have := hd.2.1 m e
    omega
  · exact ⟨rfl, rfl, _, rfl, q⟩
theorem ref_oddL {M : Addr} {d : D} {os : Os} {QA : D → Os → Prop} (hd : oddV d) (q : QA (.lst [d]) os) : fRefused M (fun os' Q E => os' = os ∧ fLongOf M [.d d] os' Q E) os QA := by
  refine ⟨fun os' Q1 Q2 E1 E2 ⟨a, b⟩ h1 h2 => ⟨a, longof_mono b h1 h2⟩, rfl, d, rfl, hd.1, fun m e h0 => ?_, fun z => ?_⟩
  · have := hd.2.1 m e
    omega
  · exact ⟨rfl, rfl, _, rfl, q⟩

open PySem PySem.Spec PyProof.Rows L2 Br
open Nm (dg sv svE wo lgo long)
theorem w_mid {K : PySem.W.Frag} {X : Xc} {S : Sa} {E : Ea} {t u : TS} (Mid : Sa → Prop) (h1 : W K X t { E with nx := Mid } S) (h2 : ∀ S', Mid S' → W K X u E S') : W K X (tSeq t u) E S :=
  w_seq (w_mono h1 (fun S' z => h2 S' z) (fun _ _ z => z) (fun _ z => z) fun _ z => z)
mutual
theorem cpy_py : ∀ d : D, d.cpy = true → ∃ p, d.py = some p ∧ p.canLay0 = true ∧ p.depth ≤ d.dpt
  | .non, _ => ⟨_, rfl, rfl, Nat.le_refl _⟩
  | .bl b, _ => ⟨_, rfl, rfl, Nat.le_refl _⟩
  | .int i, _ => ⟨_, rfl, rfl, Nat.le_refl _⟩
  | .str z, h => by cases (show false = true from h)
  | .lst xs, h => by
    have h2 : (decide (xs.length ≤ 100000) && D.cpys xs) = true := h
    rw [Bool.and_eq_true] at h2
    obtain ⟨ps, e, h1, h3⟩ := cpys_py xs h2.2
    exact ⟨.list ps, by show (D.pys xs).map PyData.list = _; rw [e]; rfl, h1, Nat.succ_le_succ h3⟩
  | .tup xs, h => by
    have h2 : (decide (xs.length ≤ 100000) && D.cpys xs) = true := h
    rw [Bool.and_eq_true] at h2
    obtain ⟨ps, e, h1, h3⟩ := cpys_py xs h2.2
    exact ⟨.tuple ps, by show (D.pys xs).map PyData.tuple = _; rw [e]; rfl, h1, Nat.succ_le_succ h3⟩
  | .dk _, h => by cases (show false = true from h)
  | .ob _ _, h => by cases (show false = true from h)
  | .xo _ _, h => by cases (show false = true from h)
theorem cpys_py : ∀ ds : List D, D.cpys ds = true → ∃ ps, D.pys ds = some ps ∧ PyData.canLayAll0 ps = true ∧ PyData.depthAll ps ≤ D.dpts ds
  | [], _ => ⟨[], rfl, rfl, Nat.le_refl _⟩
  | d :: ds, h => by
    have e : D.cpys (d :: ds) = (D.cpy d && D.cpys ds) := rfl
    rw [e, Bool.and_eq_true] at h
    obtain ⟨p, a1, a2, a3⟩ := cpy_py d h.1
    obtain ⟨ps, b1, b2, b3⟩ := cpys_py ds h.2
    refine ⟨p :: ps, ?_, ?_, ?_⟩
    · show ((D.py d).bind fun p => (D.pys ds).map fun ps => p :: ps) = _
      rw [a1, b1]
      rfl
    · show (p.canLay0 && PyData.canLayAll0 ps) = true
      rw [a2, b2]
      rfl
    · show max p.depth (PyData.depthAll ps) ≤ max d.dpt (D.dpts ds)
      omega
end
/-- what is equal to itself -/
structure Eqs (d : D) (p : PyData) : Prop where
  e : d.py = some p
  s : SeqAt.shaped p = true
  r : PyData.eqv p p = true
theorem eqs_of {d : D} (h : d.cpy = true) (hd : d.dpt ≤ 60) : ∃ p, Eqs d p := by
  obtain ⟨p, e, h1, h2⟩ := cpy_py d h
  refine ⟨p, e, ?_, PySem.SeqAt.eqv_refl p h1⟩
  unfold SeqAt.shaped
  rw [h1, decide_eq_true (by omega)]
  rfl
theorem row_cpy {ns : List Int} (h : ns.length ≤ 100000) : (rowD ns).cpy = true := by
  show (decide ((ns.map D.int).length ≤ 100000) && D.cpys (ns.map D.int)) = true
  rw [Bool.and_eq_true]
  refine ⟨decide_eq_true (by rw [List.length_map]; exact h), cpys_all.mpr fun d hd => ?_⟩
  obtain ⟨x, hx, rfl⟩ := List.mem_map.mp hd
  rfl
theorem row_dpt {ns : List Int} : (rowD ns).dpt ≤ 1 := by
  show D.dpts (ns.map D.int) + 1 ≤ 1
  have : D.dpts (ns.map D.int) ≤ 0 := dpts_le fun d hd => by
    obtain ⟨x, hx, rfl⟩ := List.mem_map.mp hd
    exact Nat.le_refl _
  omega
theorem eq_row {ns : List Int} (h : ns.length ≤ 500) : ∃ p, Eqs (rowD ns) p := eqs_of (row_cpy (by omega)) (Nat.le_trans row_dpt (by decide))
section
variable {K : PySem.W.Frag} {X : Xc} {S : Sa} {Q : Sv → Os → Prop} {ta : TA} {f : FD}
/-- a def that may raise, but not here -/
theorem ew_callS0 (h : AW K X ta S fun ds os => f ds os (fun d os' => Q (.d d) os') fun _ _ _ => False) : EW K X (tCallS (spD K f) (WE fun _ _ _ _ => False) ta) S Q := fun as H σ Q' R x k =>
  h as H σ _ R x fun vs H1 ds os1 g1 R1 r1 q1 => ⟨as, os1, ds, _, _, R1, r1, q1, fun v H2 d os2 g2 R2 r2 q2 => k v H2 (.d d) os2 (g1.trans g2) R2 r2 q2, fun _ _ _ _ _ _ _ _ _ _ _ z => z.elim⟩
theorem ew_callSD0 {dvs : List V} {des : List Sv} (hd : ∀ as H, SvA K as H dvs des) (h : AW K X ta S fun ds os => f (ds ++ des) os (fun d os' => Q (.d d) os') fun _ _ _ => False) : EW K X (tCallSD (spD K f) dvs (WE fun _ _ _ _ => False) ta) S Q := fun as H σ Q' R x k =>
  h as H σ _ R x fun vs H1 ds os1 g1 R1 r1 q1 => ⟨as, os1, ds ++ des, _, _, R1, svA_app r1 (hd as H1), q1, fun v H2 d os2 g2 R2 r2 q2 => k v H2 (.d d) os2 (g1.trans g2) R2 r2 q2, fun _ _ _ _ _ _ _ _ _ _ _ z => z.elim⟩
end
theorem isR_app {a b : List Int} (h : isR a) (g : isR b) : isR (a ++ b) := fun x hx => (List.mem_append.mp hx).elim (h x) (g x)
theorem ew_dnew {K : PySem.W.Frag} {X : Xc} {S : Sa} {Q : Sv → Os → Prop} (q : Q (.d (.dk [])) S.os) : EW K X tDNewK S Q := fun as H σ Q' R x k p hp =>
  k (.ref p) _ (.d (.dk [])) S.os (Go.new hp) (R.o.new hp) (Dx.dk (R.o.notin hp) (.inl upd_same) .nil) q
local macro_rules | `(tactic| walk_at "b") => `(tactic| with_reducible refine ew_dnew ?_)
theorem odd_ok {n : Int} (hn : isN n) {d : D} (h : d ∈ [D.non, .bl true, .bl false, .int (-1), .int (0 - n - 1), .str "7", .tup [], .lst [.int 1], .dk []]) : oddV d := by
  simp only [List.mem_cons, List.not_mem_nil, or_false] at h
  have hm : ∀ m : Int, m < 0 → -(2 ^ 400) ≤ m → oddV (.int m) := fun m h1 h2 => by
    refine ⟨rfl, fun k e => by cases e; exact h1, ?_, by show 1921 + 2 + 0 + 3 ≤ 1000000; decide, by show max 0 0 + 1 ≤ 3; decide⟩
    show (decide (m.natAbs ≤ 2 ^ 400) && true) = true
    rw [decide_eq_true ?_]
    · rfl
    · have := nat400 (n := -m - 1) (by omega) (by omega)
      have e : ((2 ^ 400 : Nat) : Int) = 2 ^ 400 := by rw [Int.natCast_pow]; rfl
      have : ((m.natAbs : Nat) : Int) ≤ ((2 ^ 400 : Nat) : Int) := by
        rw [e]
        omega
      exact Int.ofNat_le.mp this
  rcases h with rfl | rfl | rfl | rfl | rfl | rfl | rfl | rfl | rfl
  · exact ⟨rfl, fun k e => by (cases e), by decide +kernel, by decide +kernel, by decide +kernel⟩
  · exact ⟨rfl, fun k e => by (cases e), by decide +kernel, by decide +kernel, by decide +kernel⟩
  · exact ⟨rfl, fun k e => by (cases e), by decide +kernel, by decide +kernel, by decide +kernel⟩
  · exact hm _ (by decide) (by decide +kernel)
  · refine hm _ (by have := hn.1; omega) ?_
    have h1 := hn.2
    have h2 := p210
    omega
  · exact ⟨by decide +kernel, fun k e => by (cases e), by decide +kernel, by decide +kernel, by decide +kernel⟩
  · exact ⟨rfl, fun k e => by (cases e), by decide +kernel, by decide +kernel, by decide +kernel⟩
  · exact ⟨rfl, fun k e => by (cases e), by decide +kernel, by decide +kernel, by decide +kernel⟩
  · exact ⟨rfl, fun k e => by (cases e), by decide +kernel, by decide +kernel, by decide +kernel⟩
section
variable {P : Program} {w : World} {K : PySem.W.Frag} {mg : Str → Option Value} {base : Heap}
abbrev s_law : Stmt := topS 29
abbrev N_law : List Str := ["_law_script", "_law_pen", "_law_turn", "_law_due", "_law_row", "_law_sevens_here", "_law_spot", "_law_count", "_law_number_here", "_law_odd", "_law_k"]
theorem sc_law : FnScope N_law ["_law_script"] (defScope s_law) := ⟨rfl, rfl, rfl, by decide +kernel, rfl, by decide +kernel, by decide +kernel⟩
def lawQ : Str := (envOfC "law" (defScope s_law) 0 0 .none).qual ++ "<lambda>"
def fLaw (PT : Addr) : FD := fun ds os QA _ => ∃ ns : List Int, ds = [.d (.lst (ns.map D.int))] ∧ os = [.tb PT lawQ] ∧ ns.length ≤ 63 ∧ ∀ os', QA (.bl true) os'
theorem tab_at {k : Nat} {cells : List Int} {b : Int} {o os : Os} {j : Nat} (h : Pn k cells b o os) (hj : k ≠ j) : os[j]? = o[j]? := by
  obtain ⟨n, l, e, _⟩ := h
  rw [e, List.getElem?_set_ne hj]
theorem ok_law {M ct PT f a1 a2 a3 a4 a5 a6 a7 a8 a9 b1 b2 b3 b4 b5 : Addr} {fd d1 d2 d3 d4 d5 d6 d7 d8 d9 e1 e2 e3 e4 e5 : FuncData} {vB vL : Value} (F : Fun K "law" "law" s_law f fd) (hcode : fd.code = .ref ct) (TB : LamX.TabB base mg ct PT) (hS : SysOn base)
    (z_range : mg "range" = none) (z_min : mg "min" = none) (z_len : mg "len" = none) (z_repr : mg "repr" = none) (z_tuple : mg "tuple" = none) (z_list : mg "list" = none) (z_sum : mg "sum" = none)
    (G_l_feed : FnOk P w K mg base CX0 1 a1 d1 ["_law_script"] (spN K fFeed)) (C_l_feed : Cal K mg "_law_feed" a1 d1 ["_law_script"])
    (G_l_draw : FnOk P w K mg base CX0 1 a2 d2 ["_law_pen", "_law_span"] (spD K fDraw)) (C_l_draw : Cal K mg "_law_draw" a2 d2 ["_law_pen", "_law_span"])
    (G_l_pick : FnOk P w K mg base CX0 2 a3 d3 ["_law_pen", "_law_some"] (spD K fPick)) (C_l_pick : Cal K mg "_law_pick" a3 d3 ["_law_pen", "_law_some"])
    (G_l_byte : FnOk P w K mg base CX0 2 a4 d4 ["_law_pen"] (spD K fByte)) (C_l_byte : Cal K mg "_law_byte" a4 d4 ["_law_pen"])
    (G_l_number : FnOk P w K mg base CX0 2 a5 d5 ["_law_pen"] (spD K fNumber)) (C_l_number : Cal K mg "_law_number" a5 d5 ["_law_pen"])
    (G_l_room : FnOk P w K mg base CX0 1 a6 d6 ["_law_number_here", "_law_count"] (spD K fRoom)) (C_l_room : Cal K mg "_law_room" a6 d6 ["_law_number_here", "_law_count"])
    (G_l_worth : FnOk P w K mg base CX0 1 a7 d7 ["_law_row"] (spD K fWorth)) (C_l_worth : Cal K mg "_law_worth" a7 d7 ["_law_row"])
    (G_l_sevens : FnOk P w K mg base CX0 1 a8 d8 ["_law_number_here"] (spD K fSevens)) (C_l_sevens : Cal K mg "_law_sevens" a8 d8 ["_law_number_here"])
    (G_l_long_due : FnOk P w K mg base CX0 1 a9 d9 ["_law_row", "_law_spot"] (spD K fLongDue)) (C_l_long_due : Cal K mg "_law_long_due" a9 d9 ["_law_row", "_law_spot"])
    (G_l_long_told : FnOk P w K mg base CX0 7 b1 e1 ["_law_row", "_law_spot"] (spD K fLongTold)) (C_l_long_told : Cal K mg "_law_long_told" b1 e1 ["_law_row", "_law_spot"])
    (L_l_refused : ∀ q, Lams P w K mg base "_law_refused" "_law_call" s_l_refused b2 N_l_refused 7 q (fRefused M)) (F_l_refused : Fun K "_law_refused" "_law_refused" s_l_refused b2 e2) (C_l_refused : Cal K mg "_law_refused" b2 e2 ["_law_call"])
    (G_bytes_of : FnOk P w K mg base (CX P w) 5 b3 e3 ["number", "many"] (spD K (fBytesOf M))) (C_bytes_of : CalM K mg "bytes_of" b3) (KB_bytes_of_many : KBn K e3 ["number", "many"] 1 ["many"] (fun us ws => us ++ ws) (fun us ws => us ++ ws)) (BD_bytes_of : Binds K e3 ["number", "many"] [vB]) (VD_bytes_of : Vals [V.int 2] [vB])
    (G_number_of : FnOk P w K mg base CX0 1 b4 e4 ["row"] (spD K fNumberOf)) (C_number_of : Cal K mg "number_of" b4 e4 ["row"])
    (G_long_of : FnOk P w K mg base (CX P w) 5 b5 e5 ["number"] (spD K (fLongOf M))) (C_long_of : Cal K mg "long_of" b5 e5 ["number"])
    {M2 c1 c2 : Addr} {g1 g2 : FuncData}
    (G_long_at : FnOk P w K mg base (CX P w) 5 c1 g1 ["row", "at"] (spD K (fLongAt M2))) (C_long_at : CalM K mg "long_at" c1) (BD_long_at : Binds K g1 ["row", "at"] [vL]) (VD_long_at : Vals [V.int 0] [vL])
    (G_sum_of : FnOk P w K mg base CX0 1 c2 g2 ["row"] (spD K fSumOf)) (C_sum_of : Cal K mg "sum_of" c2 g2 ["row"]) : FnG P w K mg base 9 f fd ["_law_script"] (spD K (fLaw PT)) := by
  refine okGc F hcode sc_law (fun vs H Q E h => ?_) (fun cdv A outer s H vs Q E ecd hgd hr h => ?_)
  · obtain ⟨as, os, ds, QA, EA, R, r, ⟨ns, rfl, _⟩, _⟩ := h
    rw [r.length]
    rfl
  · subst ecd
    have hu64 : (A.deeper (envOfC "law" (defScope s_law) s.heap.objs.size f (.ref ct))).units + 64 < cLine := by
      have := hr.un
      omega
    have hu65 := hu64
    refine ⟨_, (pss_cons (ps_set (i := 1) sc_law.nd rfl (Or.inr rfl) (pe_call G_l_feed (hr.mono (by decide)) rfl C_l_feed.m C_l_feed.k C_l_feed.b .nil pass0 (pa_cons (pv 0) pa_nil)))
  (pss_cons (ps_for PassesOwn.never rfl (pi_range1 (by rfl) z_range (pa_cons (pe_op op_add pe_int (pe_callB (call_min2A rfl) (by rfl) z_min (by decide +kernel) (pa_cons pe_int (pa_cons (pe_callB call_lenA (by rfl) z_len PySem.boot_len (pa_cons (pv 0) pa_nil)) pa_nil)))) pa_nil)) (pg_name (i := 2) sc_law.nd rfl (Or.inl rfl))
    (pss_cons (ps_asg (pe_tup (pa_cons (pe_call G_l_number (hr.mono (by decide)) rfl C_l_number.m C_l_number.k C_l_number.b .nil pass0 (pa_cons (pv 1) pa_nil)) (pa_cons (pe_op op_add pe_int (pe_call G_l_draw (hr.mono (by decide)) rfl C_l_draw.m C_l_draw.k C_l_draw.b .nil pass0 (pa_cons (pv 1) (pa_cons pe_int pa_nil)))) pa_nil))) (pg_tup (by rfl) (pgs_cons (pg_name (i := 8) sc_law.nd rfl (Or.inr rfl)) (pgs_cons (pg_name (i := 7) sc_law.nd rfl (Or.inr rfl)) pgs_nil))))
    (pss_cons (ps_set (i := 3) sc_law.nd rfl (Or.inl rfl) (pe_call G_l_room (hr.mono (by decide)) rfl C_l_room.m C_l_room.k C_l_room.b .nil pass0 (pa_cons (pv 8) (pa_cons (pv 7) pa_nil))))
    (pss_cons (ps_if (pt_cmpR op_ne (pe_callB (call_reprA hS hgd hu65) (by rfl) z_repr (by decide +kernel) (pa_cons (pe_lamB (L_l_refused _) F_l_refused (by rfl) C_l_refused.m C_l_refused.b sc_l_refused rfl (Or.inl rfl) TB rfl (hr.mono (by decide)) (LamX.lamS_by (sc := defScope s_law) (by decide +kernel)) rfl (fun _ _ _ _ _ => rfl) (fun _ _ _ _ _ _ _ _ hr => (pe_callNS G_bytes_of (hr.mono (by decide)) rfl C_bytes_of.m C_bytes_of.k KB_bytes_of_many (fun σ => passAt (takes_of rfl rfl rfl rfl) σ) (pa_cons (pv 8) pa_nil) (pk_cons (pv 7) pk_nil)))) pa_nil)) (pe_callB (call_reprA hS hgd hu65) (by rfl) z_repr (by decide +kernel) (pa_cons (pe_ifExp (pt_cmpR op_isN1 (pv 3) pe_non (nomark _)) (pe_lst (pa_cons (pv 8) pa_nil)) (pv 3)) pa_nil)) (nomark _)) (pss_one (ps_ret pe_bl)) pss_nil)
    (pss_cons (ps_set (i := 3) sc_law.nd rfl (Or.inl rfl) (pe_call G_l_room (hr.mono (by decide)) rfl C_l_room.m C_l_room.k C_l_room.b .nil pass0 (pa_cons (pv 8) (pa_cons pe_int pa_nil))))
    (pss_cons (ps_if (pt_cmpR op_ne (pe_callB (call_reprA hS hgd hu65) (by rfl) z_repr (by decide +kernel) (pa_cons (pe_lamB (L_l_refused _) F_l_refused (by rfl) C_l_refused.m C_l_refused.b sc_l_refused rfl (Or.inl rfl) TB rfl (hr.mono (by decide)) (LamX.lamS_by (sc := defScope s_law) (by decide +kernel)) rfl (fun _ _ _ _ _ => rfl) (fun _ _ _ _ _ _ _ _ hr => (pe_callSD G_bytes_of (hr.mono (by decide)) rfl C_bytes_of.m C_bytes_of.k BD_bytes_of VD_bytes_of (fun σ => passAt (takes_of rfl rfl rfl rfl) σ) (pa_cons (pv 8) pa_nil)))) pa_nil)) (pe_callB (call_reprA hS hgd hu65) (by rfl) z_repr (by decide +kernel) (pa_cons (pe_ifExp (pt_cmpR op_isN1 (pv 3) pe_non (nomark _)) (pe_lst (pa_cons (pv 8) pa_nil)) (pv 3)) pa_nil)) (nomark _)) (pss_one (ps_ret pe_bl)) pss_nil)
    (pss_cons (ps_set (i := 4) sc_law.nd rfl (Or.inl rfl) (pe_callTy call_tupA (by rfl) z_tuple (by decide +kernel) (pa_cons (pe_lc (own := [("_law_k", 10)]) (g := (gName 10)) rfl sc_law.nd (pi_range1 (by rfl) z_range (pa_cons (pe_call G_l_draw (hr.mono (by decide)) rfl C_l_draw.m C_l_draw.k C_l_draw.b .nil pass0 (pa_cons (pv 1) (pa_cons pe_int pa_nil))) pa_nil)) (blkOk_by (own := [("_law_k", 10)]) (N := N_law) (sc := defScope s_law) (by decide +kernel)) (fun _ _ _ _ _ => (pg_name (i := 10) sc_law.nd rfl (Or.inl rfl))) (fun _ _ _ _ _ => pts_nil) (fun _ _ _ _ _ => (pe_call G_l_byte (hr.mono (by decide)) rfl C_l_byte.m C_l_byte.k C_l_byte.b .nil pass0 (pa_cons (pv 1) pa_nil)))) pa_nil)))
    (pss_cons (ps_if (pt_cmpR op_ne (pe_call G_number_of (hr.mono (by decide)) rfl C_number_of.m C_number_of.k C_number_of.b .nil pass0 (pa_cons (pv 4) pa_nil)) (pe_call G_l_worth (hr.mono (by decide)) rfl C_l_worth.m C_l_worth.k C_l_worth.b .nil pass0 (pa_cons (pv 4) pa_nil)) (nomark _)) (pss_one (ps_ret pe_bl)) pss_nil)
    (pss_cons (ps_set (i := 5) sc_law.nd rfl (Or.inl rfl) (pe_call G_l_sevens (hr.mono (by decide)) rfl C_l_sevens.m C_l_sevens.k C_l_sevens.b .nil pass0 (pa_cons (pv 8) pa_nil)))
    (pss_cons (ps_if (PW.pt (pw_or (pt_cmpR (op_neD hu64) (pe_callS G_long_of (hr.mono (by decide)) rfl C_long_of.m C_long_of.k C_long_of.b (fun σ => passAt LamX.takes0 σ) (pa_cons (pv 8) pa_nil)) (pv 5) (nomark _)) (pw_or1 (pt_cmpR op_ne (pe_callB (call_reprA hS hgd hu65) (by rfl) z_repr (by decide +kernel) (pa_cons (pe_callS G_long_of (hr.mono (by decide)) rfl C_long_of.m C_long_of.k C_long_of.b (fun σ => passAt LamX.takes0 σ) (pa_cons (pv 8) pa_nil)) pa_nil)) (pe_callB (call_reprA hS hgd hu65) (by rfl) z_repr (by decide +kernel) (pa_cons (pv 5) pa_nil)) (nomark _))))) (pss_one (ps_ret pe_bl)) pss_nil)
    (pss_cons (ps_set (i := 4) sc_law.nd rfl (Or.inl rfl) (pe_op op_catA (pe_op op_catA (pv 4) (pv 5)) (pe_callTy call_tupA (by rfl) z_tuple (by decide +kernel) (pa_cons (pe_lc (own := [("_law_k", 10)]) (g := (gName 10)) rfl sc_law.nd (pi_range1 (by rfl) z_range (pa_cons (pe_call G_l_draw (hr.mono (by decide)) rfl C_l_draw.m C_l_draw.k C_l_draw.b .nil pass0 (pa_cons (pv 1) (pa_cons pe_int pa_nil))) pa_nil)) (blkOk_by (own := [("_law_k", 10)]) (N := N_law) (sc := defScope s_law) (by decide +kernel)) (fun _ _ _ _ _ => (pg_name (i := 10) sc_law.nd rfl (Or.inl rfl))) (fun _ _ _ _ _ => pts_nil) (fun _ _ _ _ _ => (pe_call G_l_byte (hr.mono (by decide)) rfl C_l_byte.m C_l_byte.k C_l_byte.b .nil pass0 (pa_cons (pv 1) pa_nil)))) pa_nil))))
    (pss_cons (ps_for PassesOwn.never rfl (pi_range1 (by rfl) z_range (pa_cons (pe_op op_add (pe_callB call_lenA (by rfl) z_len PySem.boot_len (pa_cons (pv 4) pa_nil)) pe_int) pa_nil)) (pg_name (i := 6) sc_law.nd rfl (Or.inl rfl))
      (pss_one (ps_if (pt_cmpR op_ne (pe_callB (call_reprA hS hgd hu65) (by rfl) z_repr (by decide +kernel) (pa_cons (pe_call G_l_long_told (hr.mono (by decide)) rfl C_l_long_told.m C_l_long_told.k C_l_long_told.b .nil pass0 (pa_cons (pv 4) (pa_cons (pv 6) pa_nil))) pa_nil)) (pe_callB (call_reprA hS hgd hu65) (by rfl) z_repr (by decide +kernel) (pa_cons (pe_call G_l_long_due (hr.mono (by decide)) rfl C_l_long_due.m C_l_long_due.k C_l_long_due.b .nil pass0 (pa_cons (pv 4) (pa_cons (pv 6) pa_nil))) pa_nil)) (nomark _)) (pss_one (ps_ret pe_bl)) pss_nil)))
    (pss_cons (ps_if (PW.pt (pw_or (pt_cmpR (op_neD hu64) (pe_callSD G_long_at (hr.mono (by decide)) rfl C_long_at.m C_long_at.k BD_long_at VD_long_at (fun σ => passAt LamX.takes0 σ) (pa_cons (pv 5) pa_nil)) (pe_tup (pa_cons (pv 8) (pa_cons (pe_callB call_lenA (by rfl) z_len PySem.boot_len (pa_cons (pv 5) pa_nil)) pa_nil))) (nomark _)) (pw_or1 (pt_cmpR op_ne (pe_call G_sum_of (hr.mono (by decide)) rfl C_sum_of.m C_sum_of.k C_sum_of.b .nil pass0 (pa_cons (pv 4) pa_nil)) (pe_op op_mod (pe_callB (cr_sum rfl) (by rfl) z_sum (by decide +kernel) (pa_cons (pe_callTy call_lstA (by rfl) z_list (by decide +kernel) (pa_cons (pv 4) pa_nil)) pa_nil)) pe_int) (nomark _))))) (pss_one (ps_ret pe_bl)) pss_nil)
    (pss_cons (ps_set (i := 9) sc_law.nd rfl (Or.inr rfl) (pe_call G_l_pick (hr.mono (by decide)) rfl C_l_pick.m C_l_pick.k C_l_pick.b .nil pass0 (pa_cons (pv 1) (pa_cons (pe_lst (pa_cons pe_non (pa_cons pe_bl (pa_cons pe_bl (pa_cons (pe_un un_neg pe_int) (pa_cons (pe_op op_sub (pe_op op_sub pe_int (pv 8)) pe_int) (pa_cons pe_str (pa_cons (pe_tup pa_nil) (pa_cons (pe_lst (pa_cons pe_int pa_nil)) (pa_cons pe_dnewK pa_nil)))))))))) pa_nil))))
    (pss_cons (ps_if (pt_cmpR op_ne (pe_callB (call_reprA hS hgd hu65) (by rfl) z_repr (by decide +kernel) (pa_cons (pe_lamB (L_l_refused _) F_l_refused (by rfl) C_l_refused.m C_l_refused.b sc_l_refused rfl (Or.inl rfl) TB rfl (hr.mono (by decide)) (LamX.lamS_by (sc := defScope s_law) (by decide +kernel)) rfl (fun _ _ _ _ _ => rfl) (fun _ _ _ _ _ _ _ _ hr => (pe_callSD G_bytes_of (hr.mono (by decide)) rfl C_bytes_of.m C_bytes_of.k BD_bytes_of VD_bytes_of (fun σ => passAt (takes_of rfl rfl rfl rfl) σ) (pa_cons (pv 9) pa_nil)))) pa_nil)) (pe_callB (call_reprA hS hgd hu65) (by rfl) z_repr (by decide +kernel) (pa_cons (pe_lst (pa_cons (pv 9) pa_nil)) pa_nil)) (nomark _)) (pss_one (ps_ret pe_bl)) pss_nil)
    (pss_one (ps_if (pt_cmpR op_ne (pe_callB (call_reprA hS hgd hu65) (by rfl) z_repr (by decide +kernel) (pa_cons (pe_lamB (L_l_refused _) F_l_refused (by rfl) C_l_refused.m C_l_refused.b sc_l_refused rfl (Or.inl rfl) TB rfl (hr.mono (by decide)) (LamX.lamS_by (sc := defScope s_law) (by decide +kernel)) rfl (fun _ _ _ _ _ => rfl) (fun _ _ _ _ _ _ _ _ hr => (pe_callS G_long_of (hr.mono (by decide)) rfl C_long_of.m C_long_of.k C_long_of.b (fun σ => passAt (takes_of rfl rfl rfl rfl) σ) (pa_cons (pv 9) pa_nil)))) pa_nil)) (pe_callB (call_reprA hS hgd hu65) (by rfl) z_repr (by decide +kernel) (pa_cons (pe_lst (pa_cons (pv 9) pa_nil)) pa_nil)) (nomark _)) (pss_one (ps_ret pe_bl)) pss_nil)))))))))))))))))
  (pss_one (ps_ret (pe_and (pe_cmpR op_eq (pe_call G_sum_of (hr.mono (by decide)) rfl C_sum_of.m C_sum_of.k C_sum_of.b .nil pass0 (pa_cons (pe_callTy call_tupA (by rfl) z_tuple (by decide +kernel) (pa_cons (pe_op op_rep (pe_lst (pa_cons pe_int pa_nil)) pe_int) pa_nil)) pa_nil)) (pe_op op_mod pe_int pe_int) (nomark _)) (pe_and (pe_cmpR op_eq (pe_call G_number_of (hr.mono (by decide)) rfl C_number_of.m C_number_of.k C_number_of.b .nil pass0 (pa_cons (pe_tup pa_nil) pa_nil)) pe_int (nomark _)) (pe_one (pe_cmpR op_eq (pe_call G_sum_of (hr.mono (by decide)) rfl C_sum_of.m C_sum_of.k C_sum_of.b .nil pass0 (pa_cons (pe_tup pa_nil) pa_nil)) pe_int (nomark _))))))))), read_of h fun ds os QA EA hf => ?_⟩
    obtain ⟨ns, rfl, rfl, hl, q⟩ := hf
    try dsimp only [cxOf, Cx.nox, Cx.wish]
    show W K _ _ _ ⟨[some (.d (.lst (ns.map D.int))), none, none, none, none, none, none, none, none, none, none], [.tb PT lawQ]⟩
    refine w_seq (w_asgN ?_)
    repeat (walk_at "b")
    refine ⟨ns, rfl, hl, ?_⟩
    dsimp only [List.set_cons_zero, List.set_cons_succ, List.nil_append, List.length_nil]
    have hk : 1 < List.length ([Ob.tb PT lawQ, .md (pen ns 0 0)] : Os) := by show 1 < 2; decide
    refine w_seq (w_for ?_)
    refine iw_rng1 ?_
    repeat (walk_at "b")
    rw [List.length_map]
    refine cw_min2 ?_
    repeat (walk_at "b")
    refine ⟨by split <;> omega, by split <;> omega, fun i S' => ∃ (o2 o3 o4 o5 o6 o7 o8 o9 o10 : Option Sv) (os : Os), S' = ⟨[some (.d (.lst (ns.map D.int))), some (.o 1), o2, o3, o4, o5, o6, o7, o8, o9, o10], os⟩ ∧ Pn 1 ns (200 * i) [.tb PT lawQ, .md (pen ns 0 0)] os,
      ⟨_, _, _, _, _, _, _, _, _, _, rfl, 0, 0, rfl, hk, ⟨by omega, by omega⟩, by omega⟩, ?_, ?_⟩
    · rintro i d S' hd ⟨o2, o3, o4, o5, o6, o7, o8, o9, o10, os, rfl, ho⟩
      obtain ⟨hi, rfl⟩ := rngD_get hd
      have hi : i < 16 := by
        have : (6 + (if (ns.length : Int) < 10 then (ns.length : Int) else 10)).toNat ≤ 16 := by split <;> omega
        omega
      refine gw_name ?_
      dsimp only [List.set_cons_zero, List.set_cons_succ]
      -- the number, how many bytes
      refine w_seq (w_asgG ?_)
      repeat (walk_at "b")
      refine ⟨1, ns, _, _, rfl, ho, by omega, fun n os1 hn ho1 => ?_⟩
      repeat (walk_at "b")
      refine ⟨_, _, _, _, _, rfl, ho1, by decide, by omega, fun c0 os2 c1 c2 ho2 => ?_⟩
      obtain ⟨c0, rfl⟩ := Int.eq_ofNat_of_zero_le c1
      have tab2 : os2[0]? = some (.tb PT lawQ) := tab_at ho2 (by decide)
      repeat (walk_at "b")
      rw [show (1 + (c0 : Int)) = ((c0 + 1 : Nat) : Int) by omega]
      refine gw_tup rfl ?_
      repeat (walk_at "b")
      refine ⟨n, c0 + 1, rfl, hn.1, by omega, gw_name ?_⟩
      dsimp only [List.set_cons_zero, List.set_cons_succ]
      -- so many bytes
      refine w_mid (fun S' => S' = ⟨[some (.d (.lst (ns.map D.int))), some (.o 1), some (.d (.int (0 + (i : Int) * 1))), some (.d (rowOr (roomR n (c0 + 1)))), o4, o5, o6, some (.d (.int (c0 + 1 : Nat))), some (.d (.int n)), o9, o10], os2⟩) ?_ ?_
      · repeat (walk_at "b")
        refine ew_mono (Q := fun x os' => x = .d (ansD n (c0 + 1)) ∧ os' = os2) (ew_lamB (j := 0) _ tab2 ?_ (ref_bytes (c := (c0 + 1)) hn (by omega) ⟨rfl, rfl⟩)) ?_
        · rintro os' QA EA E ⟨rfl, hb⟩
          refine ew_callNS (gS := fun us ws => us ++ ws) (fun as H vs zs ds es a b => svA_app a b) ?_
          repeat (walk_at "b")
          refine ⟨rfl, ?_⟩
          repeat (walk_at "b")
          exact ⟨rfl, bytes_mono hb (fun d o z => ⟨d, rfl, z⟩) fun _ _ _ z => z⟩
        · rintro x os' ⟨rfl, rfl⟩
          repeat (walk_at "b")
          refine reprG (gd_ans hn (by omega)) ?_
          repeat (walk_at "b")
          cases hroom : roomR n (c0 + 1) with
          | none =>
            have ea : ansD n (c0 + 1) = .lst [.int n] := by unfold ansD; rw [hroom]
            rw [ea]
            refine bw_isN0 ⟨_, rfl, br_T ?_⟩
            repeat (walk_at "b")
            refine reprG (gd_num hn) ?_
            repeat (walk_at "b")
            refine bw_neS ⟨_, rfl, ?_⟩
            rw [decide_eq_true rfl]
            refine br_nT ?_
            repeat (walk_at "b")
            rfl
          | some r =>
            have ea : ansD n (c0 + 1) = rowD r := by unfold ansD; rw [hroom]
            have ga := gd_ans (n := n) (c := (c0 + 1)) hn (by omega)
            rw [ea] at ga ⊢
            refine bw_isNT ⟨_, rfl, br_F ?_⟩
            repeat (walk_at "b")
            refine reprG ga ?_
            repeat (walk_at "b")
            refine bw_neS ⟨_, rfl, ?_⟩
            rw [decide_eq_true (show shownD (rowD r) = shownD (rowOr (some r)) from rfl)]
            refine br_nT ?_
            repeat (walk_at "b")
            rfl
      rintro S' rfl
      repeat (walk_at "b")
      refine ⟨n, 2, rfl, hn.1, by decide, gw_name ?_⟩
      dsimp only [List.set_cons_zero, List.set_cons_succ]
      -- two
      refine w_mid (fun S' => S' = ⟨[some (.d (.lst (ns.map D.int))), some (.o 1), some (.d (.int (0 + (i : Int) * 1))), some (.d (rowOr (roomR n 2))), o4, o5, o6, some (.d (.int (c0 + 1 : Nat))), some (.d (.int n)), o9, o10], os2⟩) ?_ ?_
      · repeat (walk_at "b")
        refine ew_mono (Q := fun x os' => x = .d (ansD n 2) ∧ os' = os2) (ew_lamB (j := 0) _ tab2 ?_ (ref_bytes (c := 2) hn (by omega) ⟨rfl, rfl⟩)) ?_
        · rintro os' QA EA E ⟨rfl, hb⟩
          refine ew_callSD (des := [.d (.int 2)]) (fun as H => .cons (show SvR K as H (V.int 2) (.d (.int 2)) from Dx.int 2) .nil) ?_
          repeat (walk_at "b")
          exact bytes_mono hb (fun d o z => ⟨d, rfl, z⟩) fun _ _ _ z => z
        · rintro x os' ⟨rfl, rfl⟩
          repeat (walk_at "b")
          refine reprG (gd_ans hn (by omega)) ?_
          repeat (walk_at "b")
          cases hroom : roomR n 2 with
          | none =>
            have ea : ansD n 2 = .lst [.int n] := by unfold ansD; rw [hroom]
            rw [ea]
            refine bw_isN0 ⟨_, rfl, br_T ?_⟩
            repeat (walk_at "b")
            refine reprG (gd_num hn) ?_
            repeat (walk_at "b")
            refine bw_neS ⟨_, rfl, ?_⟩
            rw [decide_eq_true rfl]
            refine br_nT ?_
            repeat (walk_at "b")
            rfl
          | some r =>
            have ea : ansD n 2 = rowD r := by unfold ansD; rw [hroom]
            have ga := gd_ans (n := n) (c := 2) hn (by omega)
            rw [ea] at ga ⊢
            refine bw_isNT ⟨_, rfl, br_F ?_⟩
            repeat (walk_at "b")
            refine reprG ga ?_
            repeat (walk_at "b")
            refine bw_neS ⟨_, rfl, ?_⟩
            rw [decide_eq_true (show shownD (rowD r) = shownD (rowOr (some r)) from rfl)]
            refine br_nT ?_
            repeat (walk_at "b")
            rfl
      rintro S' rfl
      repeat (walk_at "b")
      refine ew_lc (wg_name (by decide)) mg_name ?_
      refine iw_rng1 ?_
      repeat (walk_at "b")
      refine ⟨_, _, _, _, _, rfl, ho2, by decide, by omega, fun mho3 osho3 m0ho3 m1ho3 ho3 => ?_⟩
      repeat (walk_at "b")
      refine ⟨by omega, by omega, fun j acc os' => ∃ bs : List Int, acc = bs.map D.int ∧ bs.length = j ∧ isR bs ∧ Pn 1 ns (200 * i + 50 + 2 * j) [.tb PT lawQ, .md (pen ns 0 0)] os', ⟨[], rfl, rfl, fun b hb => (nomatch hb), ho3.mono (by omega)⟩, ?_, ?_⟩
      · rintro j d acc os' hd ⟨bs, rfl, hbn, hbs, ho'⟩
        obtain ⟨hj, rfl⟩ := rngD_get hd
        have hj2 : j < 9 := by omega
        refine gw_name ?_
        refine tw_yes (br_T ?_)
        dsimp only [wipeS, List.set_cons_zero, List.set_cons_succ]
        repeat (walk_at "b")
        refine ⟨1, ns, _, _, rfl, ho'.push _, by omega, fun x os'' x0 x1 ho'' => ?_⟩
        obtain ⟨os4, rfl, hp4⟩ := ho''.pop hk
        refine ⟨_, _, rfl, rfl, by rw [List.length_map, sizeLine_eq]; omega, bs ++ [x], by rw [List.map_append]; rfl, by rw [List.length_append, hbn]; rfl, isR_app hbs fun c hc => by rw [List.mem_singleton.mp hc]; exact ⟨x0, x1⟩, hp4.mono (by omega)⟩
      rintro acc osho3' ⟨bsho3, rfl, hbnho3, hbsho3, hxho3⟩
      rw [rngD_len] at hbnho3 hxho3
      have ho4 : Pn 1 ns (200 * i + 80) [.tb PT lawQ, .md (pen ns 0 0)] osho3' := hxho3.mono (by omega)
      have hlA : bsho3.length ≤ 8 := by omega
      generalize bsho3 = ra at *
      refine aw_nil (cw_tupL (gw_name ?_))
      dsimp only [List.set_cons_zero, List.set_cons_succ]
      repeat (walk_at "b")
      refine ⟨ra, rfl, hbsho3, by omega, ?_⟩
      repeat (walk_at "b")
      refine ⟨ra, rfl, hbsho3, by omega, ?_⟩
      refine bw_neI ⟨_, rfl, ?_⟩
      rw [decide_eq_true rfl]
      refine br_nT ?_
      repeat (walk_at "b")
      refine ⟨n, rfl, hn, fun m hm => gw_name ?_⟩
      dsimp only [List.set_cons_zero, List.set_cons_succ]
      have hsr : isR (sv n m).reverse := fun x hx => Nm.sv_byte x (List.mem_reverse.mp hx)
      have hm31 : m < 31 := Nm.sv_few hn.2 (by
        cases m with
        | zero => exact .inl rfl
        | succ m => exact .inr (hm.2 m (by omega)))
      have hsl : (sv n m).reverse.length = m + 1 := by rw [List.length_reverse, Nm.sv_len]
      obtain ⟨sp, se⟩ := eq_row (ns := (sv n m).reverse) (by omega)
      have hlo : ∀ (os0 : Os) (QQ : D → Os → Prop), QQ (rowD (sv n m).reverse) os0 → fLongOf M [.d (.int n)] os0 QQ fun _ _ _ => False := fun os0 QQ z =>
        ⟨.int n, rfl, rfl, fun k e h0 => by cases e; exact ⟨hn.2, fun m2 hm2 => by obtain rfl := Nm.sv_one hm2 hm; exact z⟩, fun z => absurd (z n rfl) (by have := hn.1; omega)⟩
      refine w_mid (fun S' => S' = ⟨[some (.d (.lst (ns.map D.int))), some (.o 1), some (.d (.int (0 + (i : Int) * 1))), some (.d (rowOr (roomR n 2))), some (.d (rowD ra)), some (.d (rowD (sv n m).reverse)), o6, some (.d (.int (c0 + 1 : Nat))), some (.d (.int n)), o9, o10], osho3'⟩) ?_ ?_
      · repeat (walk_at "b")
        refine ew_callS0 ?_
        repeat (walk_at "b")
        refine hlo _ _ ?_
        repeat (walk_at "b")
        refine bw_neD se.e se.e se.s se.s ⟨_, rfl, ?_⟩
        rw [se.r]
        refine br_nT ?_
        repeat (walk_at "b")
        refine ew_callS0 ?_
        repeat (walk_at "b")
        refine hlo _ _ ?_
        repeat (walk_at "b")
        refine reprG (gd_row hsr (by omega)) ?_
        repeat (walk_at "b")
        refine reprG (gd_row hsr (by omega)) ?_
        refine bw_neS ⟨_, rfl, ?_⟩
        rw [decide_eq_true rfl]
        refine br_nT ?_
        repeat (walk_at "b")
        rfl
      rintro S' rfl
      -- the row
      repeat (walk_at "b")
      refine bw_catT (by rw [List.length_map, List.length_map, sizeLine_eq]; omega) ?_
      rw [← List.map_append]
      repeat (walk_at "b")
      refine ew_lc (wg_name (by decide)) mg_name ?_
      refine iw_rng1 ?_
      repeat (walk_at "b")
      refine ⟨_, _, _, _, _, rfl, ho4, by decide, by omega, fun mho5 osho5 m0ho5 m1ho5 ho5 => ?_⟩
      repeat (walk_at "b")
      refine ⟨by omega, by omega, fun j acc os' => ∃ bs : List Int, acc = bs.map D.int ∧ bs.length = j ∧ isR bs ∧ Pn 1 ns (200 * i + 85 + 2 * j) [.tb PT lawQ, .md (pen ns 0 0)] os', ⟨[], rfl, rfl, fun b hb => (nomatch hb), ho5.mono (by omega)⟩, ?_, ?_⟩
      · rintro j d acc os' hd ⟨bs, rfl, hbn, hbs, ho'⟩
        obtain ⟨hj, rfl⟩ := rngD_get hd
        have hj2 : j < 4 := by omega
        refine gw_name ?_
        refine tw_yes (br_T ?_)
        dsimp only [wipeS, List.set_cons_zero, List.set_cons_succ]
        repeat (walk_at "b")
        refine ⟨1, ns, _, _, rfl, ho'.push _, by omega, fun x os'' x0 x1 ho'' => ?_⟩
        obtain ⟨os4, rfl, hp4⟩ := ho''.pop hk
        refine ⟨_, _, rfl, rfl, by rw [List.length_map, sizeLine_eq]; omega, bs ++ [x], by rw [List.map_append]; rfl, by rw [List.length_append, hbn]; rfl, isR_app hbs fun c hc => by rw [List.mem_singleton.mp hc]; exact ⟨x0, x1⟩, hp4.mono (by omega)⟩
      rintro acc osho5' ⟨bsho5, rfl, hbnho5, hbsho5, hxho5⟩
      rw [rngD_len] at hbnho5 hxho5
      have ho6 : Pn 1 ns (200 * i + 100) [.tb PT lawQ, .md (pen ns 0 0)] osho5' := hxho5.mono (by omega)
      have hlB : bsho5.length ≤ 3 := by omega
      generalize bsho5 = rb at *
      refine aw_nil (cw_tupL ?_)
      refine bw_catT (by rw [List.length_map, List.length_map, List.length_append, sizeLine_eq]; omega) (gw_name ?_)
      rw [← List.map_append]
      dsimp only [List.set_cons_zero, List.set_cons_succ]
      have hrow : isR (ra ++ (sv n m).reverse ++ rb) := isR_app (isR_app hbsho3 hsr) hbsho5
      have hrl : (ra ++ (sv n m).reverse ++ rb).length ≤ 45 := by
        rw [List.length_append, List.length_append]
        omega
      revert hrow hrl
      generalize ra ++ (sv n m).reverse ++ rb = row
      intro hrow hrl
      -- at each spot
      refine w_mid (fun S' => ∃ o6, S' = ⟨[some (.d (.lst (ns.map D.int))), some (.o 1), some (.d (.int (0 + (i : Int) * 1))), some (.d (rowOr (roomR n 2))), some (.d (rowD row)), some (.d (rowD (sv n m).reverse)), o6, some (.d (.int (c0 + 1 : Nat))), some (.d (.int n)), o9, o10], osho5'⟩) ?_ ?_
      · refine w_for (iw_rng1 ?_)
        repeat (walk_at "b")
        rw [List.length_map]
        refine ⟨by omega, by omega, fun j S' => ∃ o6, S' = ⟨[some (.d (.lst (ns.map D.int))), some (.o 1), some (.d (.int (0 + (i : Int) * 1))), some (.d (rowOr (roomR n 2))), some (.d (rowD row)), some (.d (rowD (sv n m).reverse)), o6, some (.d (.int (c0 + 1 : Nat))), some (.d (.int n)), o9, o10], osho5'⟩, ⟨_, rfl⟩, ?_, fun S' z => z⟩
        rintro j d S' hd ⟨o6, rfl⟩
        obtain ⟨hj, rfl⟩ := rngD_get hd
        have hj2 : j ≤ row.length := by omega
        rw [show (0 + (j : Int) * 1) = (j : Int) by omega]
        refine gw_name ?_
        dsimp only [List.set_cons_zero, List.set_cons_succ]
        repeat (walk_at "b")
        refine ⟨row, j, rfl, hrow, by omega, hj2, ?_⟩
        repeat (walk_at "b")
        refine reprG (gd_long hrow hrl hj2) ?_
        repeat (walk_at "b")
        refine ⟨row, j, rfl, hrow, by omega, hj2, ?_⟩
        repeat (walk_at "b")
        refine reprG (gd_long hrow hrl hj2) ?_
        refine bw_neS ⟨_, rfl, ?_⟩
        rw [decide_eq_true rfl]
        refine br_nT ?_
        repeat (walk_at "b")
        exact ⟨_, rfl⟩
      rintro S' ⟨o6b, rfl⟩
      -- the long one alone, the sum
      refine w_mid (fun S' => S' = ⟨[some (.d (.lst (ns.map D.int))), some (.o 1), some (.d (.int (0 + (i : Int) * 1))), some (.d (rowOr (roomR n 2))), some (.d (rowD row)), some (.d (rowD (sv n m).reverse)), o6b, some (.d (.int (c0 + 1 : Nat))), some (.d (.int n)), o9, o10], osho5'⟩) ?_ ?_
      · repeat (walk_at "b")
        refine ew_callSD0 (des := [.d (.int 0)]) (fun as H => .cons (show SvR K as H (V.int 0) (.d (.int 0)) from Dx.int 0) .nil) ?_
        repeat (walk_at "b")
        refine ⟨(sv n m).reverse, 0, rfl, hsr, by omega, Nat.zero_le _, fun v e h => ?_, fun e h => by rw [Nm.long_sv hn.1 hm] at h; cases h⟩
        rw [Nm.long_sv hn.1 hm] at h
        cases h
        repeat (walk_at "b")
        rw [List.length_map, hsl]
        obtain ⟨tp, te⟩ := eqs_of (d := .tup [.int n, .int ((m + 1 : Nat) : Int)]) rfl (by show max 0 (max 0 0) + 1 ≤ 60; decide)
        refine bw_neD te.e te.e te.s te.s ⟨_, rfl, ?_⟩
        rw [te.r]
        refine br_nT ?_
        repeat (walk_at "b")
        refine ⟨row, rfl, ?_⟩
        repeat (walk_at "b")
        refine cw_lstU ?_
        repeat (walk_at "b")
        refine cw_sum ?_
        repeat (walk_at "b")
        rw [decide_eq_true rfl]
        refine br_nT ?_
        repeat (walk_at "b")
        rfl
      rintro S' rfl
      -- what is no number
      repeat (walk_at "b")
      refine ⟨1, _, ns, _, _, rfl, ho6, ⟨Nat.succ_pos _, Nat.le_of_ble_eq_true rfl⟩, by omega, fun d os7 hd7 ho7 => gw_name ?_⟩
      have hod := odd_ok hn hd7
      have tab7 : os7[0]? = some (.tb PT lawQ) := tab_at ho7 (by decide)
      dsimp only [List.set_cons_zero, List.set_cons_succ]
      refine w_mid (fun S' => S' = ⟨[some (.d (.lst (ns.map D.int))), some (.o 1), some (.d (.int (0 + (i : Int) * 1))), some (.d (rowOr (roomR n 2))), some (.d (rowD row)), some (.d (rowD (sv n m).reverse)), o6b, some (.d (.int (c0 + 1 : Nat))), some (.d (.int n)), some (.d d), o10], os7⟩) ?_ ?_
      · repeat (walk_at "b")
        refine ew_mono (Q := fun x os' => x = .d (.lst [d]) ∧ os' = os7) (ew_lamB (j := 0) _ tab7 ?_ (ref_odd (c := 2) hod (by omega) ⟨rfl, rfl⟩)) ?_
        · rintro os' QA EA E ⟨rfl, hb⟩
          refine ew_callSD (des := [.d (.int 2)]) (fun as H => .cons (show SvR K as H (V.int 2) (.d (.int 2)) from Dx.int 2) .nil) ?_
          repeat (walk_at "b")
          exact bytes_mono hb (fun d o z => ⟨d, rfl, z⟩) fun _ _ _ z => z
        · rintro x os' ⟨rfl, rfl⟩
          repeat (walk_at "b")
          refine reprG hod.2.2 ?_
          repeat (walk_at "b")
          refine reprG hod.2.2 ?_
          refine bw_neS ⟨_, rfl, ?_⟩
          rw [decide_eq_true rfl]
          refine br_nT ?_
          repeat (walk_at "b")
          rfl
      rintro S' rfl
      repeat (walk_at "b")
      refine ew_mono (Q := fun x os' => x = .d (.lst [d]) ∧ os' = os7) (ew_lamB (j := 0) _ tab7 ?_ (ref_oddL hod ⟨rfl, rfl⟩)) ?_
      · rintro os' QA EA E ⟨rfl, hb⟩
        refine ew_callS ?_
        repeat (walk_at "b")
        exact longof_mono hb (fun d o z => ⟨d, rfl, z⟩) fun _ _ _ z => z
      · rintro x os' ⟨rfl, rfl⟩
        repeat (walk_at "b")
        refine reprG hod.2.2 ?_
        repeat (walk_at "b")
        refine reprG hod.2.2 ?_
        refine bw_neS ⟨_, rfl, ?_⟩
        rw [decide_eq_true rfl]
        refine br_nT ?_
        repeat (walk_at "b")
        exact ⟨_, _, _, _, _, _, _, _, _, _, rfl, ho7.mono (by omega)⟩
    · rintro S' ⟨o2, o3, o4, o5, o6, o7, o8, o9, o10, os, rfl, ho⟩
      have rep : (List.replicate (300 : Int).toNat [D.int 255]).flatten = (List.replicate 300 (255 : Int)).map D.int := by
        rw [List.map_replicate, show (300 : Int).toNat = 300 from rfl, List.flatten_replicate_singleton]
      refine w_ret (ew_andV (ew_op (ew_call (aw_cons (ew_cb (aw_cons (ew_repL ?_)))))))
      repeat (walk_at "b")
      refine ⟨⟨by decide, by decide⟩, (small_len (Nat.le_of_ble_eq_true rfl)), ?_⟩
      rw [rep]
      repeat (walk_at "b")
      refine cw_tupL ?_
      repeat (walk_at "b")
      refine ⟨_, rfl, ?_⟩
      repeat (walk_at "b")
      have e1 : decide ((List.replicate 300 (255 : Int)).sum % 65536 = 76500 % 65536) = true := by decide +kernel
      rw [e1]
      refine br_T ?_
      repeat (walk_at "b")
      refine ⟨[], rfl, fun x hx => (nomatch hx), by decide, ?_⟩
      repeat (walk_at "b")
      have e2 : decide (wo [] = 0) = true := by decide +kernel
      rw [e2]
      refine br_T ?_
      repeat (walk_at "b")
      refine ⟨[], rfl, ?_⟩
      repeat (walk_at "b")
      have e3 : decide (([] : List Int).sum % 65536 = 0) = true := by decide +kernel
      rw [e3]
      exact q _
end

open PySem PySem.Spec PyProof.Rows L2 Br
theorem exm_own {K : PySem.W.Frag} {C : Addr} (h1 : PySem.W.subIn K (.ref C) (.type "BaseException") = some true) (h2 : PySem.W.isClsIn K C = true) (h3 : PySem.W.typeIn K (.ref C) = some (.type "type")) (h4 : PySem.W.subIn K (.ref C) (.ref C) = some true) : PySem.W.exmOne K (.ref C) (.ref C) = some true := by
  have c : (PySem.W.clsIn K C).isSome = true := h2
  unfold PySem.W.exmOne PySem.W.kitCls
  simp [h1, h3, h4, c]
theorem promise_law {K : PySem.W.Frag} {H : Hp} {a PT : Addr} {ns : List Int} (hl : ns.length ≤ 63) (hP : H PT = some (.tbl #[])) (h : SqL K H a (ns.map V.int)) : spD K (fLaw PT) [.ref a] H (fun v _ => v = .bl true) fun _ _ _ => False := by
  refine ⟨[PT], [.tb PT lawQ], [.d (.lst (ns.map D.int))], fun d _ => d = .bl true, fun _ _ _ => False, ⟨by simp, rfl, fun k a ob h1 h2 => ?_⟩, .cons (Dx.lst ?_ (DxA.ints ns)) .nil, ⟨ns, rfl, rfl, hl, fun _ => rfl⟩, fun v H' d os' g R r e => ?_, fun _ _ _ _ _ _ _ _ _ _ _ z => z.elim⟩
  · cases k with
    | zero =>
      cases h1
      cases h2
      exact ⟨#[], hP, rfl, True.intro, fun pos cv z => by simp [codeAmong] at z⟩
    | succ k => cases h1
  · rcases h with z | z
    · refine .inl ⟨fun q => ?_, z⟩
      rw [List.mem_singleton.mp q] at z
      rcases z with z | ⟨o, z⟩
      · rw [hP] at z
        cases z
      · rw [hP] at z
        cases z
    · exact .inr z
  · subst e
    cases r
    rfl

theorem all_mk {l : PySem.W.OpenLaw} {w : World} {K : PySem.W.Frag} {h : Heap} {mg : Str → Option Value} {fa MB MN KDb KDl ct PT : Addr} {uB uL : Value} {tkS : Tok} (X : K.In h) (G : h.Ns mainGlobals mg) (hfa : mg "law" = some (.ref fa))
    {nmMB qMB : Str} {NMB : Addr} {bsMB bmMB : List Value} {snMB : List Str} {subMB : List Value} {abMB : Bool} {colMB : Option Bool} {ddMB : Option Addr} {p0MB p1MB p2MB p3MB p5MB : Option Value}
    {nmMN qMN : Str} {NMN : Addr} {bsMN bmMN : List Value} {snMN : List Str} {subMN : List Value} {abMN : Bool} {colMN : Option Bool} {ddMN : Option Addr} {p0MN p1MN p2MN p3MN p5MN : Option Value}
    {od1 an1 : Option Addr} {sl1 : Array (Option Value)} {oc1 kV1 dc1 pm1 cd1 ct1 : Value} {f1 : Addr}
    {od2 an2 : Option Addr} {sl2 : Array (Option Value)} {oc2 kV2 dc2 pm2 cd2 ct2 : Value} {f2 : Addr}
    {od3 an3 : Option Addr} {sl3 : Array (Option Value)} {oc3 kV3 dc3 pm3 cd3 ct3 : Value} {f3 : Addr}
    {od4 an4 : Option Addr} {sl4 : Array (Option Value)} {oc4 kV4 dc4 pm4 cd4 ct4 : Value} {f4 : Addr}
    {od5 an5 : Option Addr} {sl5 : Array (Option Value)} {oc5 dc5 pm5 cd5 ct5 : Value} {f5 : Addr}
    {od6 an6 : Option Addr} {sl6 : Array (Option Value)} {oc6 kV6 dc6 pm6 cd6 ct6 : Value} {f6 : Addr}
    {od7 an7 : Option Addr} {sl7 : Array (Option Value)} {oc7 kV7 dc7 pm7 cd7 ct7 : Value} {f7 : Addr}
    {od8 an8 : Option Addr} {sl8 : Array (Option Value)} {oc8 dc8 pm8 cd8 ct8 : Value} {f8 : Addr}
    {od9 an9 : Option Addr} {sl9 : Array (Option Value)} {oc9 kV9 dc9 pm9 cd9 ct9 : Value} {f9 : Addr}
    {od10 an10 : Option Addr} {sl10 : Array (Option Value)} {oc10 kV10 dc10 pm10 cd10 ct10 : Value} {f10 : Addr}
    {od11 an11 : Option Addr} {sl11 : Array (Option Value)} {oc11 kV11 dc11 pm11 cd11 ct11 : Value} {f11 : Addr}
    {od12 an12 : Option Addr} {sl12 : Array (Option Value)} {oc12 kV12 dc12 pm12 cd12 ct12 : Value} {f12 : Addr}
    {od13 an13 : Option Addr} {sl13 : Array (Option Value)} {oc13 kV13 dc13 pm13 cd13 ct13 : Value} {f13 : Addr}
    {od14 an14 : Option Addr} {sl14 : Array (Option Value)} {oc14 kV14 dc14 pm14 cd14 ct14 : Value} {f14 : Addr}
    {od15 an15 : Option Addr} {sl15 : Array (Option Value)} {oc15 kV15 dc15 pm15 cd15 ct15 : Value} {f15 : Addr}
    {od16 an16 : Option Addr} {sl16 : Array (Option Value)} {oc16 kV16 dc16 pm16 cd16 ct16 : Value} {f16 : Addr}
    {od17 an17 : Option Addr} {sl17 : Array (Option Value)} {oc17 kV17 dc17 pm17 cd17 ct17 : Value} {f17 : Addr}
    {od18 an18 : Option Addr} {sl18 : Array (Option Value)} {oc18 kV18 dc18 pm18 cd18 ct18 : Value} {f18 : Addr}
    {od19 an19 : Option Addr} {sl19 : Array (Option Value)} {oc19 kV19 dc19 pm19 cd19 ct19 : Value} {f19 : Addr}
    {od20 an20 : Option Addr} {sl20 : Array (Option Value)} {oc20 kV20 dc20 pm20 cd20 ct20 : Value} {f20 : Addr}
    {od21 an21 : Option Addr} {sl21 : Array (Option Value)} {oc21 kV21 dc21 pm21 cd21 ct21 : Value} {f21 : Addr}
    (aMMB : PySem.W.nsIn K mainGlobals "NoBytes" = some (some (.ref MB))) (xMMB : K.lookup MB = some (excClassObj nmMB qMB MB NMB bsMB bmMB true snMB subMB abMB colMB ddMB p0MB p1MB p2MB p3MB p5MB "ValueError.__new__")) (rMMB : PySem.HandSPX.refsVE bmMB = true) (hMMB : PySem.W.hasDictIn K MB = true) (sMMB : PySem.W.findIn K (.ref MB) "__setattr__" = some (some (.builtin "object.__setattr__")))
    (eMMB : PySem.W.subIn K (.ref MB) (.type "BaseException") = some true) (tMMB : PySem.W.typeIn K (.ref MB) = some (.type "type")) (kMMB : PySem.W.keepIn K (.ref MB) = true) (gaMMB : PySem.W.findIn K (.ref MB) "__getattribute__" = some (some (.builtin "BaseException.__getattribute__"))) (ggMMB : PySem.W.findIn K (.ref MB) "__getattr__" = some none)
    (cMMB : PySem.W.findIn K (.ref MB) "__class__" = some (some (.builtin "object.__class__"))) (mMMB : PySem.W.mroIn K MB (.type "object") = some true) (iMMB : PySem.W.isClsIn K MB = true) (nMMB : PySem.W.findIn K (.ref MB) "at" = some none) (bMMB : PySem.W.subIn K (.ref MB) (.ref MB) = some true)
    (vMMB : PySem.W.kitOne K (.ref MB) (.type "ValueError") = some true) (oMMB : PySem.W.kitOne K (.ref MB) (.ref MN) = some false)
    (aMMN : PySem.W.nsIn K mainGlobals "NoNumber" = some (some (.ref MN))) (xMMN : K.lookup MN = some (excClassObj nmMN qMN MN NMN bsMN bmMN true snMN subMN abMN colMN ddMN p0MN p1MN p2MN p3MN p5MN "ValueError.__new__")) (rMMN : PySem.HandSPX.refsVE bmMN = true) (hMMN : PySem.W.hasDictIn K MN = true) (sMMN : PySem.W.findIn K (.ref MN) "__setattr__" = some (some (.builtin "object.__setattr__")))
    (eMMN : PySem.W.subIn K (.ref MN) (.type "BaseException") = some true) (tMMN : PySem.W.typeIn K (.ref MN) = some (.type "type")) (kMMN : PySem.W.keepIn K (.ref MN) = true) (gaMMN : PySem.W.findIn K (.ref MN) "__getattribute__" = some (some (.builtin "BaseException.__getattribute__"))) (ggMMN : PySem.W.findIn K (.ref MN) "__getattr__" = some none)
    (cMMN : PySem.W.findIn K (.ref MN) "__class__" = some (some (.builtin "object.__class__"))) (mMMN : PySem.W.mroIn K MN (.type "object") = some true) (iMMN : PySem.W.isClsIn K MN = true) (nMMN : PySem.W.findIn K (.ref MN) "number" = some none) (bMMN : PySem.W.subIn K (.ref MN) (.ref MN) = some true)
    (vMMN : PySem.W.kitOne K (.ref MN) (.type "ValueError") = some true) (oMMN : PySem.W.kitOne K (.ref MN) (.ref MB) = some false)
    (gC : PySem.W.specialIn K (.builtin "object.__class__") "__get__" = some (some (.builtin "getset_descriptor.__get__"))) (kT : PySem.W.takesIn K (.builtin "object.__class__") = some true) (vV : PySem.W.findCls K (.type "ValueError") (.type "type") "__init__" = some (.val (.builtin "ValueError.__init__")))
    (gS : PySem.W.nsIn K mainGlobals "SUM_REST" = some (some (.int 65536 tkS)))
    (a1 : PySem.W.nsIn K mainGlobals "is_whole" = some (some (.ref f1)))
    (l1 : K.lookup f1 = some ⟨oc1, od1, .func (PySem.W.fnOf "is_whole" "is_whole" (defArgs s_is_whole) (defBody s_is_whole) (defScope s_is_whole) .none kV1 dc1 pm1 an1 cd1 ct1), sl1⟩) (c1 : PySem.W.codeIn K cd1 "is_whole" = true) (k1 : PySem.W.keepIn K (.ref f1) = true)
    (a2 : PySem.W.nsIn K mainGlobals "copied" = some (some (.ref f2)))
    (l2 : K.lookup f2 = some ⟨oc2, od2, .func (PySem.W.fnOf "copied" "copied" (defArgs s_copied) (defBody s_copied) (defScope s_copied) .none kV2 dc2 pm2 an2 cd2 ct2), sl2⟩) (c2 : PySem.W.codeIn K cd2 "copied" = true) (k2 : PySem.W.keepIn K (.ref f2) = true)
    (a3 : PySem.W.findIn K (.ref MB) "__init__" = some (some (.ref f3))) (t3 : PySem.W.typeIn K (.ref f3) = some (.type "function"))
    (l3 : K.lookup f3 = some ⟨oc3, od3, .func (PySem.W.fnOf "__init__" "NoBytes.__init__" (defArgs s_NoBytes_init) (defBody s_NoBytes_init) (defScope s_NoBytes_init) .none kV3 dc3 pm3 an3 cd3 ct3), sl3⟩) (c3 : PySem.W.codeIn K cd3 "NoBytes.__init__" = true) (k3 : PySem.W.keepIn K (.ref f3) = true)
    (a4 : PySem.W.findIn K (.ref MN) "__init__" = some (some (.ref f4))) (t4 : PySem.W.typeIn K (.ref f4) = some (.type "function"))
    (l4 : K.lookup f4 = some ⟨oc4, od4, .func (PySem.W.fnOf "__init__" "NoNumber.__init__" (defArgs s_NoNumber_init) (defBody s_NoNumber_init) (defScope s_NoNumber_init) .none kV4 dc4 pm4 an4 cd4 ct4), sl4⟩) (c4 : PySem.W.codeIn K cd4 "NoNumber.__init__" = true) (k4 : PySem.W.keepIn K (.ref f4) = true)
    (a5 : PySem.W.nsIn K mainGlobals "bytes_of" = some (some (.ref f5)))
    (l5 : K.lookup f5 = some ⟨oc5, od5, .func (PySem.W.fnOf "bytes_of" "bytes_of" (defArgs s_bytes_of) (defBody s_bytes_of) (defScope s_bytes_of) .none (.ref KDb) dc5 pm5 an5 cd5 ct5), sl5⟩) (c5 : PySem.W.codeIn K cd5 "bytes_of" = true) (k5 : PySem.W.keepIn K (.ref f5) = true)
    (n5 : PySem.W.nsIn K KDb "many" = some (some uB)) (r5 : RelV (.int 2) uB)
    (a6 : PySem.W.nsIn K mainGlobals "number_of" = some (some (.ref f6)))
    (l6 : K.lookup f6 = some ⟨oc6, od6, .func (PySem.W.fnOf "number_of" "number_of" (defArgs s_number_of) (defBody s_number_of) (defScope s_number_of) .none kV6 dc6 pm6 an6 cd6 ct6), sl6⟩) (c6 : PySem.W.codeIn K cd6 "number_of" = true) (k6 : PySem.W.keepIn K (.ref f6) = true)
    (a7 : PySem.W.nsIn K mainGlobals "long_of" = some (some (.ref f7)))
    (l7 : K.lookup f7 = some ⟨oc7, od7, .func (PySem.W.fnOf "long_of" "long_of" (defArgs s_long_of) (defBody s_long_of) (defScope s_long_of) .none kV7 dc7 pm7 an7 cd7 ct7), sl7⟩) (c7 : PySem.W.codeIn K cd7 "long_of" = true) (k7 : PySem.W.keepIn K (.ref f7) = true)
    (a8 : PySem.W.nsIn K mainGlobals "long_at" = some (some (.ref f8)))
    (l8 : K.lookup f8 = some ⟨oc8, od8, .func (PySem.W.fnOf "long_at" "long_at" (defArgs s_long_at) (defBody s_long_at) (defScope s_long_at) .none (.ref KDl) dc8 pm8 an8 cd8 ct8), sl8⟩) (c8 : PySem.W.codeIn K cd8 "long_at" = true) (k8 : PySem.W.keepIn K (.ref f8) = true)
    (n8 : PySem.W.nsIn K KDl "at" = some (some uL)) (r8 : RelV (.int 0) uL)
    (a9 : PySem.W.nsIn K mainGlobals "sum_of" = some (some (.ref f9)))
    (l9 : K.lookup f9 = some ⟨oc9, od9, .func (PySem.W.fnOf "sum_of" "sum_of" (defArgs s_sum_of) (defBody s_sum_of) (defScope s_sum_of) .none kV9 dc9 pm9 an9 cd9 ct9), sl9⟩) (c9 : PySem.W.codeIn K cd9 "sum_of" = true) (k9 : PySem.W.keepIn K (.ref f9) = true)
    (a10 : PySem.W.nsIn K mainGlobals "_law_feed" = some (some (.ref f10)))
    (l10 : K.lookup f10 = some ⟨oc10, od10, .func (PySem.W.fnOf "_law_feed" "_law_feed" (defArgs s_l_feed) (defBody s_l_feed) (defScope s_l_feed) .none kV10 dc10 pm10 an10 cd10 ct10), sl10⟩) (c10 : PySem.W.codeIn K cd10 "_law_feed" = true) (k10 : PySem.W.keepIn K (.ref f10) = true)
    (a11 : PySem.W.nsIn K mainGlobals "_law_draw" = some (some (.ref f11)))
    (l11 : K.lookup f11 = some ⟨oc11, od11, .func (PySem.W.fnOf "_law_draw" "_law_draw" (defArgs s_l_draw) (defBody s_l_draw) (defScope s_l_draw) .none kV11 dc11 pm11 an11 cd11 ct11), sl11⟩) (c11 : PySem.W.codeIn K cd11 "_law_draw" = true) (k11 : PySem.W.keepIn K (.ref f11) = true)
    (a12 : PySem.W.nsIn K mainGlobals "_law_pick" = some (some (.ref f12)))
    (l12 : K.lookup f12 = some ⟨oc12, od12, .func (PySem.W.fnOf "_law_pick" "_law_pick" (defArgs s_l_pick) (defBody s_l_pick) (defScope s_l_pick) .none kV12 dc12 pm12 an12 cd12 ct12), sl12⟩) (c12 : PySem.W.codeIn K cd12 "_law_pick" = true) (k12 : PySem.W.keepIn K (.ref f12) = true)
    (a13 : PySem.W.nsIn K mainGlobals "_law_byte" = some (some (.ref f13)))
    (l13 : K.lookup f13 = some ⟨oc13, od13, .func (PySem.W.fnOf "_law_byte" "_law_byte" (defArgs s_l_byte) (defBody s_l_byte) (defScope s_l_byte) .none kV13 dc13 pm13 an13 cd13 ct13), sl13⟩) (c13 : PySem.W.codeIn K cd13 "_law_byte" = true) (k13 : PySem.W.keepIn K (.ref f13) = true)
    (a14 : PySem.W.nsIn K mainGlobals "_law_number" = some (some (.ref f14)))
    (l14 : K.lookup f14 = some ⟨oc14, od14, .func (PySem.W.fnOf "_law_number" "_law_number" (defArgs s_l_number) (defBody s_l_number) (defScope s_l_number) .none kV14 dc14 pm14 an14 cd14 ct14), sl14⟩) (c14 : PySem.W.codeIn K cd14 "_law_number" = true) (k14 : PySem.W.keepIn K (.ref f14) = true)
    (a15 : PySem.W.nsIn K mainGlobals "_law_room" = some (some (.ref f15)))
    (l15 : K.lookup f15 = some ⟨oc15, od15, .func (PySem.W.fnOf "_law_room" "_law_room" (defArgs s_l_room) (defBody s_l_room) (defScope s_l_room) .none kV15 dc15 pm15 an15 cd15 ct15), sl15⟩) (c15 : PySem.W.codeIn K cd15 "_law_room" = true) (k15 : PySem.W.keepIn K (.ref f15) = true)
    (a16 : PySem.W.nsIn K mainGlobals "_law_worth" = some (some (.ref f16)))
    (l16 : K.lookup f16 = some ⟨oc16, od16, .func (PySem.W.fnOf "_law_worth" "_law_worth" (defArgs s_l_worth) (defBody s_l_worth) (defScope s_l_worth) .none kV16 dc16 pm16 an16 cd16 ct16), sl16⟩) (c16 : PySem.W.codeIn K cd16 "_law_worth" = true) (k16 : PySem.W.keepIn K (.ref f16) = true)
    (a17 : PySem.W.nsIn K mainGlobals "_law_sevens" = some (some (.ref f17)))
    (l17 : K.lookup f17 = some ⟨oc17, od17, .func (PySem.W.fnOf "_law_sevens" "_law_sevens" (defArgs s_l_sevens) (defBody s_l_sevens) (defScope s_l_sevens) .none kV17 dc17 pm17 an17 cd17 ct17), sl17⟩) (c17 : PySem.W.codeIn K cd17 "_law_sevens" = true) (k17 : PySem.W.keepIn K (.ref f17) = true)
    (a18 : PySem.W.nsIn K mainGlobals "_law_long_due" = some (some (.ref f18)))
    (l18 : K.lookup f18 = some ⟨oc18, od18, .func (PySem.W.fnOf "_law_long_due" "_law_long_due" (defArgs s_l_long_due) (defBody s_l_long_due) (defScope s_l_long_due) .none kV18 dc18 pm18 an18 cd18 ct18), sl18⟩) (c18 : PySem.W.codeIn K cd18 "_law_long_due" = true) (k18 : PySem.W.keepIn K (.ref f18) = true)
    (a19 : PySem.W.nsIn K mainGlobals "_law_long_told" = some (some (.ref f19)))
    (l19 : K.lookup f19 = some ⟨oc19, od19, .func (PySem.W.fnOf "_law_long_told" "_law_long_told" (defArgs s_l_long_told) (defBody s_l_long_told) (defScope s_l_long_told) .none kV19 dc19 pm19 an19 cd19 ct19), sl19⟩) (c19 : PySem.W.codeIn K cd19 "_law_long_told" = true) (k19 : PySem.W.keepIn K (.ref f19) = true)
    (a20 : PySem.W.nsIn K mainGlobals "_law_refused" = some (some (.ref f20)))
    (l20 : K.lookup f20 = some ⟨oc20, od20, .func (PySem.W.fnOf "_law_refused" "_law_refused" (defArgs s_l_refused) (defBody s_l_refused) (defScope s_l_refused) .none kV20 dc20 pm20 an20 cd20 ct20), sl20⟩) (c20 : PySem.W.codeIn K cd20 "_law_refused" = true) (k20 : PySem.W.keepIn K (.ref f20) = true)
    (a21 : PySem.W.nsIn K mainGlobals "law" = some (some (.ref f21)))
    (l21 : K.lookup f21 = some ⟨oc21, od21, .func (PySem.W.fnOf "law" "law" (defArgs s_law) (defBody s_law) (defScope s_law) .none kV21 dc21 pm21 an21 cd21 ct21), sl21⟩) (c21 : PySem.W.codeIn K cd21 "law" = true) (k21 : PySem.W.keepIn K (.ref f21) = true)
    (z_len : PySem.W.nsIn K mainGlobals "len" = some none) (z_abs : PySem.W.nsIn K mainGlobals "abs" = some none) (z_range : PySem.W.nsIn K mainGlobals "range" = some none) (z_int : PySem.W.nsIn K mainGlobals "int" = some none) (z_isinstance : PySem.W.nsIn K mainGlobals "isinstance" = some none) (z_str : PySem.W.nsIn K mainGlobals "str" = some none) (z_tuple : PySem.W.nsIn K mainGlobals "tuple" = some none) (z_bool : PySem.W.nsIn K mainGlobals "bool" = some none) (z_list : PySem.W.nsIn K mainGlobals "list" = some none) (z_dict : PySem.W.nsIn K mainGlobals "dict" = some none) (z_repr : PySem.W.nsIn K mainGlobals "repr" = some none) (z_min : PySem.W.nsIn K mainGlobals "min" = some none) (z_sum : PySem.W.nsIn K mainGlobals "sum" = some none) (z_reversed : PySem.W.nsIn K mainGlobals "reversed" = some none) (z_ValueError : PySem.W.nsIn K mainGlobals "ValueError" = some none)
    (hct : cd21 = .ref ct) (hdT : PySem.W.codeHdIn K ct PT = true) (nPT : K.lookup PT = none) :
    ∃ (fd : FuncData) (ct : Addr), K.lookup PT = none ∧ PySem.W.codeHdIn K ct PT = true ∧ (∀ (s : Shared) (v : Value), BindsTo s fd ⟨[v], []⟩ [("_law_script", v)]) ∧ ∀ base : Heap, SysOn base → LamX.TabB base mg ct PT → K.In base → base.Ns mainGlobals mg → FnG l.prog w K mg base 9 fa fd ["_law_script"] (spD K (fLaw PT)) := by
  have e := hfa.symm.trans (PySem.W.mg_of X G a21)
  cases e
  have y_len := PySem.W.mg_none_of X G z_len
  have y_abs := PySem.W.mg_none_of X G z_abs
  have y_range := PySem.W.mg_none_of X G z_range
  have y_int := PySem.W.mg_none_of X G z_int
  have y_isinstance := PySem.W.mg_none_of X G z_isinstance
  have y_str := PySem.W.mg_none_of X G z_str
  have y_tuple := PySem.W.mg_none_of X G z_tuple
  have y_bool := PySem.W.mg_none_of X G z_bool
  have y_list := PySem.W.mg_none_of X G z_list
  have y_dict := PySem.W.mg_none_of X G z_dict
  have y_repr := PySem.W.mg_none_of X G z_repr
  have y_min := PySem.W.mg_none_of X G z_min
  have y_sum := PySem.W.mg_none_of X G z_sum
  have y_reversed := PySem.W.mg_none_of X G z_reversed
  have y_ValueError := PySem.W.mg_none_of X G z_ValueError
  have F1 := fun_mk (st := s_is_whole) l1 c1 k1
  have b1 := F1.binds (ps := ["thing"]) fun _ _ _ _ _ _ us hl => match us, hl with | [_], _ => rfl
  have C1 : Cal K mg "is_whole" f1 _ ["thing"] := ⟨PySem.W.mg_of X G a1, k1, b1⟩
  have F2 := fun_mk (st := s_copied) l2 c2 k2
  have b2 := F2.binds (ps := ["thing"]) fun _ _ _ _ _ _ us hl => match us, hl with | [_], _ => rfl
  have C2 : Cal K mg "copied" f2 _ ["thing"] := ⟨PySem.W.mg_of X G a2, k2, b2⟩
  have F3 := fun_mk (st := s_NoBytes_init) l3 c3 k3
  have b3 := F3.binds (ps := ["self", "at"]) fun _ _ _ _ _ _ us hl => match us, hl with | [_, _], _ => rfl
  have F4 := fun_mk (st := s_NoNumber_init) l4 c4 k4
  have b4 := F4.binds (ps := ["self", "number"]) fun _ _ _ _ _ _ us hl => match us, hl with | [_, _], _ => rfl
  have F5 : FunD K "bytes_of" "bytes_of" (defArgs s_bytes_of) (defBody s_bytes_of) (defScope s_bytes_of) [] [("many", V.int 2)] f5 (PySem.W.fnOf "bytes_of" "bytes_of" (defArgs s_bytes_of) (defBody s_bytes_of) (defScope s_bytes_of) .none (.ref KDb) dc5 pm5 an5 cd5 ct5) := ⟨⟨oc5, od5, .none, .ref KDb, dc5, pm5, an5, cd5, ct5, sl5, rfl, l5, c5, .inl ⟨rfl, rfl⟩, .inr ⟨KDb, rfl, fun q hq => by rw [List.mem_singleton.mp hq]; exact ⟨_, n5, r5⟩⟩⟩, k5⟩
  obtain ⟨v5, bD5, vD5⟩ : ∃ v : Value, Binds K (PySem.W.fnOf "bytes_of" "bytes_of" (defArgs s_bytes_of) (defBody s_bytes_of) (defScope s_bytes_of) .none (.ref KDb) dc5 pm5 an5 cd5 ct5) ["number", "many"] [v] ∧ Vals [V.int 2] [v] := by
    obtain ⟨ds, r, z⟩ := F5.binds0 (ps := ["number", "many"]) 1 (by simp) rfl fun D doc pm an cdv ct us ks hu hk => match us, hu, ks, hk with | [_], _, [_], _ => ⟨_, _, _, _, _, _, rfl, rfl, rfl⟩
    obtain ⟨u, rfl, ru⟩ := vals1 r
    exact ⟨u, z, .cons ru .nil⟩
  have KB5 : KBn K (PySem.W.fnOf "bytes_of" "bytes_of" (defArgs s_bytes_of) (defBody s_bytes_of) (defScope s_bytes_of) .none (.ref KDb) dc5 pm5 an5 cd5 ct5) ["number", "many"] 1 ["many"] (fun us ws => us ++ ws) (fun us ws => us ++ ws) := by
    refine ⟨fun s us ws X2 h1 h2 => ?_, fun a b => a.append b⟩
    match us, h1, ws, h2 with
    | [u], _, [x], _ => exact .of_eq rfl
  have C5 : CalM K mg "bytes_of" f5 := ⟨PySem.W.mg_of X G a5, k5⟩
  have F6 := fun_mk (st := s_number_of) l6 c6 k6
  have b6 := F6.binds (ps := ["row"]) fun _ _ _ _ _ _ us hl => match us, hl with | [_], _ => rfl
  have C6 : Cal K mg "number_of" f6 _ ["row"] := ⟨PySem.W.mg_of X G a6, k6, b6⟩
  have F7 := fun_mk (st := s_long_of) l7 c7 k7
  have b7 := F7.binds (ps := ["number"]) fun _ _ _ _ _ _ us hl => match us, hl with | [_], _ => rfl
  have C7 : Cal K mg "long_of" f7 _ ["number"] := ⟨PySem.W.mg_of X G a7, k7, b7⟩
  have F8 : FunD K "long_at" "long_at" (defArgs s_long_at) (defBody s_long_at) (defScope s_long_at) [] [("at", V.int 0)] f8 (PySem.W.fnOf "long_at" "long_at" (defArgs s_long_at) (defBody s_long_at) (defScope s_long_at) .none (.ref KDl) dc8 pm8 an8 cd8 ct8) := ⟨⟨oc8, od8, .none, .ref KDl, dc8, pm8, an8, cd8, ct8, sl8, rfl, l8, c8, .inl ⟨rfl, rfl⟩, .inr ⟨KDl, rfl, fun q hq => by rw [List.mem_singleton.mp hq]; exact ⟨_, n8, r8⟩⟩⟩, k8⟩
  obtain ⟨v8, bD8, vD8⟩ : ∃ v : Value, Binds K (PySem.W.fnOf "long_at" "long_at" (defArgs s_long_at) (defBody s_long_at) (defScope s_long_at) .none (.ref KDl) dc8 pm8 an8 cd8 ct8) ["row", "at"] [v] ∧ Vals [V.int 0] [v] := by
    obtain ⟨ds, r, z⟩ := F8.binds0 (ps := ["row", "at"]) 1 (by simp) rfl fun D doc pm an cdv ct us ks hu hk => match us, hu, ks, hk with | [_], _, [_], _ => ⟨_, _, _, _, _, _, rfl, rfl, rfl⟩
    obtain ⟨u, rfl, ru⟩ := vals1 r
    exact ⟨u, z, .cons ru .nil⟩
  have KB8 : KBn K (PySem.W.fnOf "long_at" "long_at" (defArgs s_long_at) (defBody s_long_at) (defScope s_long_at) .none (.ref KDl) dc8 pm8 an8 cd8 ct8) ["row", "at"] 1 ["at"] (fun us ws => us ++ ws) (fun us ws => us ++ ws) := by
    refine ⟨fun s us ws X2 h1 h2 => ?_, fun a b => a.append b⟩
    match us, h1, ws, h2 with
    | [u], _, [x], _ => exact .of_eq rfl
  have C8 : CalM K mg "long_at" f8 := ⟨PySem.W.mg_of X G a8, k8⟩
  have F9 := fun_mk (st := s_sum_of) l9 c9 k9
  have b9 := F9.binds (ps := ["row"]) fun _ _ _ _ _ _ us hl => match us, hl with | [_], _ => rfl
  have C9 : Cal K mg "sum_of" f9 _ ["row"] := ⟨PySem.W.mg_of X G a9, k9, b9⟩
  have F10 := fun_mk (st := s_l_feed) l10 c10 k10
  have b10 := F10.binds (ps := ["_law_script"]) fun _ _ _ _ _ _ us hl => match us, hl with | [_], _ => rfl
  have C10 : Cal K mg "_law_feed" f10 _ ["_law_script"] := ⟨PySem.W.mg_of X G a10, k10, b10⟩
  have F11 := fun_mk (st := s_l_draw) l11 c11 k11
  have b11 := F11.binds (ps := ["_law_pen", "_law_span"]) fun _ _ _ _ _ _ us hl => match us, hl with | [_, _], _ => rfl
  have C11 : Cal K mg "_law_draw" f11 _ ["_law_pen", "_law_span"] := ⟨PySem.W.mg_of X G a11, k11, b11⟩
  have F12 := fun_mk (st := s_l_pick) l12 c12 k12
  have b12 := F12.binds (ps := ["_law_pen", "_law_some"]) fun _ _ _ _ _ _ us hl => match us, hl with | [_, _], _ => rfl
  have C12 : Cal K mg "_law_pick" f12 _ ["_law_pen", "_law_some"] := ⟨PySem.W.mg_of X G a12, k12, b12⟩
  have F13 := fun_mk (st := s_l_byte) l13 c13 k13
  have b13 := F13.binds (ps := ["_law_pen"]) fun _ _ _ _ _ _ us hl => match us, hl with | [_], _ => rfl
  have C13 : Cal K mg "_law_byte" f13 _ ["_law_pen"] := ⟨PySem.W.mg_of X G a13, k13, b13⟩
  have F14 := fun_mk (st := s_l_number) l14 c14 k14
  have b14 := F14.binds (ps := ["_law_pen"]) fun _ _ _ _ _ _ us hl => match us, hl with | [_], _ => rfl
  have C14 : Cal K mg "_law_number" f14 _ ["_law_pen"] := ⟨PySem.W.mg_of X G a14, k14, b14⟩
  have F15 := fun_mk (st := s_l_room) l15 c15 k15
  have b15 := F15.binds (ps := ["_law_number_here", "_law_count"]) fun _ _ _ _ _ _ us hl => match us, hl with | [_, _], _ => rfl
  have C15 : Cal K mg "_law_room" f15 _ ["_law_number_here", "_law_count"] := ⟨PySem.W.mg_of X G a15, k15, b15⟩
  have F16 := fun_mk (st := s_l_worth) l16 c16 k16
  have b16 := F16.binds (ps := ["_law_row"]) fun _ _ _ _ _ _ us hl => match us, hl with | [_], _ => rfl
  have C16 : Cal K mg "_law_worth" f16 _ ["_law_row"] := ⟨PySem.W.mg_of X G a16, k16, b16⟩
  have F17 := fun_mk (st := s_l_sevens) l17 c17 k17
  have b17 := F17.binds (ps := ["_law_number_here"]) fun _ _ _ _ _ _ us hl => match us, hl with | [_], _ => rfl
  have C17 : Cal K mg "_law_sevens" f17 _ ["_law_number_here"] := ⟨PySem.W.mg_of X G a17, k17, b17⟩
  have F18 := fun_mk (st := s_l_long_due) l18 c18 k18
  have b18 := F18.binds (ps := ["_law_row", "_law_spot"]) fun _ _ _ _ _ _ us hl => match us, hl with | [_, _], _ => rfl
  have C18 : Cal K mg "_law_long_due" f18 _ ["_law_row", "_law_spot"] := ⟨PySem.W.mg_of X G a18, k18, b18⟩
  have F19 := fun_mk (st := s_l_long_told) l19 c19 k19
  have b19 := F19.binds (ps := ["_law_row", "_law_spot"]) fun _ _ _ _ _ _ us hl => match us, hl with | [_, _], _ => rfl
  have C19 : Cal K mg "_law_long_told" f19 _ ["_law_row", "_law_spot"] := ⟨PySem.W.mg_of X G a19, k19, b19⟩
  have F20 := fun_mk (st := s_l_refused) l20 c20 k20
  have b20 := F20.binds (ps := ["_law_call"]) fun _ _ _ _ _ _ us hl => match us, hl with | [_], _ => rfl
  have C20 : Cal K mg "_law_refused" f20 _ ["_law_call"] := ⟨PySem.W.mg_of X G a20, k20, b20⟩
  have F21 := fun_mk (st := s_law) l21 c21 k21
  have b21 := F21.binds (ps := ["_law_script"]) fun _ _ _ _ _ _ us hl => match us, hl with | [_], _ => rfl
  have TMB : OexC K MB := { cls := ⟨nmMB, qMB, NMB, bsMB, bmMB, snMB, subMB, abMB, colMB, ddMB, p0MB, p1MB, p2MB, p3MB, p5MB, xMMB, rMMB⟩, sa := sMMB, exC := eMMB, tyC := tMMB, kC := kMMB }
  have XMB : Xve K mg "NoBytes" MB f3 _ ["self", "at"] := ⟨TMB, a3, t3, b3, PySem.W.mg_of X G aMMB⟩
  have TMN : OexC K MN := { cls := ⟨nmMN, qMN, NMN, bsMN, bmMN, snMN, subMN, abMN, colMN, ddMN, p0MN, p1MN, p2MN, p3MN, p5MN, xMMN, rMMN⟩, sa := sMMN, exC := eMMN, tyC := tMMN, kC := kMMN }
  have XMN : Xve K mg "NoNumber" MN f4 _ ["self", "number"] := ⟨TMN, a4, t4, b4, PySem.W.mg_of X G aMMN⟩
  have KMB : Kex K MB "at" MN := { T := ⟨gaMMB, ggMMB, eMMB, hMMB⟩, E := ⟨gaMMB, ggMMB, eMMB, hMMB, cMMB, gC, kT, mMMB⟩, cl := iMMB, at_ := nMMB, xm := exm_own eMMB iMMB tMMB bMMB, ve := vMMB, no := oMMB }
  have KMN : Kex K MN "number" MB := { T := ⟨gaMMN, ggMMN, eMMN, hMMN⟩, E := ⟨gaMMN, ggMMN, eMMN, hMMN, cMMN, gC, kT, mMMN⟩, cl := iMMN, at_ := nMMN, xm := exm_own eMMN iMMN tMMN bMMN, ve := vMMN, no := oMMN }
  refine ⟨PySem.W.fnOf "law" "law" (defArgs s_law) (defBody s_law) (defScope s_law) .none kV21 dc21 pm21 an21 cd21 ct21, ct, nPT, hdT, fun s v => .of_eq rfl, fun base hS TB _ _ => ?_⟩
  have h1 : FnOk l.prog w K mg base CX0 1 f1 _ ["thing"] (spD K fWhole) := ok_is_whole F1 y_isinstance y_int y_bool
  have hcI : FnOk l.prog w K mg base CX0 1 f2 _ ["thing"] (spD K fCopI) := ok_copiedI F2 y_isinstance y_bool y_int y_str y_list y_tuple y_dict C2
  have h2 : FnOk l.prog w K mg base CX0 2 f2 _ ["thing"] (spD K fCop) := ok_copied F2 y_isinstance y_bool y_int y_str y_list y_tuple y_dict hcI C2
  have h3 : FnOk l.prog w K mg base CX0 3 f3 _ ["self", "at"] (spIX K MB "at" okD) := ok_NoBytes_init F3 TMB nMMB y_ValueError vV h2 C2
  have h4 : FnOk l.prog w K mg base CX0 3 f4 _ ["self", "number"] (spIX K MN "number" okD) := ok_NoNumber_init F4 TMN nMMN y_ValueError vV h2 C2
  have h5 : FnOk l.prog w K mg base (CX l.prog w) 5 f5 _ ["number", "many"] (spD K (fBytesOf MN)) := ok_bytes_of F5 y_range y_tuple y_reversed h1 C1 h4 XMN
  have h6 : FnOk l.prog w K mg base CX0 1 f6 _ ["row"] (spD K fNumberOf) := ok_number_of F6
  have h7 : FnOk l.prog w K mg base (CX l.prog w) 5 f7 _ ["number"] (spD K (fLongOf MN)) := ok_long_of F7 y_tuple y_reversed h1 C1 h4 XMN
  have h8 : FnOk l.prog w K mg base (CX l.prog w) 5 f8 _ ["row", "at"] (spD K (fLongAt MB)) := ok_long_at F8 y_range y_len h3 XMB
  have h9 : FnOk l.prog w K mg base CX0 1 f9 _ ["row"] (spD K fSumOf) := ok_sum_of F9 y_sum (PySem.W.mg_of X G gS)
  have h10 : FnOk l.prog w K mg base CX0 1 f10 _ ["_law_script"] (spN K fFeed) := ok_l_feed F10
  have h11 : FnOk l.prog w K mg base CX0 1 f11 _ ["_law_pen", "_law_span"] (spD K fDraw) := ok_l_draw F11 y_len y_abs y_range
  have h12 : FnOk l.prog w K mg base CX0 2 f12 _ ["_law_pen", "_law_some"] (spD K fPick) := ok_l_pick F12 y_len h11 C11
  have h13 : FnOk l.prog w K mg base CX0 2 f13 _ ["_law_pen"] (spD K fByte) := ok_l_byte F13 h11 C11
  have h14 : FnOk l.prog w K mg base CX0 2 f14 _ ["_law_pen"] (spD K fNumber) := ok_l_number F14 y_range h11 C11
  have h15 : FnOk l.prog w K mg base CX0 1 f15 _ ["_law_number_here", "_law_count"] (spD K fRoom) := ok_l_room F15 y_range y_tuple
  have h16 : FnOk l.prog w K mg base CX0 1 f16 _ ["_law_row"] (spD K fWorth) := ok_l_worth F16 y_range y_len
  have h17 : FnOk l.prog w K mg base CX0 1 f17 _ ["_law_number_here"] (spD K fSevens) := ok_l_sevens F17 y_tuple
  have h18 : FnOk l.prog w K mg base CX0 1 f18 _ ["_law_row", "_law_spot"] (spD K fLongDue) := ok_l_long_due F18 y_range y_len
  have h19 : FnOk l.prog w K mg base CX0 7 f19 _ ["_law_row", "_law_spot"] (spD K fLongTold) := ok_l_long_told F19 y_isinstance y_ValueError (PySem.W.mg_of X G aMMB) (PySem.W.mg_of X G aMMN) KMB h8 C8 KB8
  have L20 : ∀ q, Lams l.prog w K mg base "_law_refused" "_law_call" s_l_refused f20 N_l_refused 7 q (fRefused MN) := fun q => ok_l_refused y_isinstance y_ValueError (PySem.W.mg_of X G aMMN) (PySem.W.mg_of X G aMMB) KMN
  exact ok_law F21 hct TB hS y_range y_min y_len y_repr y_tuple y_list y_sum h10 C10 h11 C11 h12 C12 h13 C13 h14 C14 h15 C15 h16 C16 h17 C17 h18 C18 h19 C19 L20 F20 C20 h5 C5 KB5 bD5 vD5 h6 C6 h7 C7 h8 C8 bD8 vD8 h9 C9
theorem walk {l : PySem.W.OpenLaw} {q : Program} {loose : List Str} {XP : (Str → Option Value) → Heap → Prop} {YP : World → Heap → Prop} {d : DefRec} {K : Params → PySem.W.Frag} {PT : Addr} (hn : l.most = some 63) (hdf : d.params.defaults = [])
    (hY : ∀ (w : World) (h : Heap), YP w h → (K w.params).In h ∧ SysOn h ∧ h.get? PT = some { cls := .none, data := .fields #[] }) (hsys : sysModules ≠ PT)
    (F : ∀ (w : World) (mg : Str → Option Value) (fa : Addr) (h : Heap), (K w.params).In h → h.Ns mainGlobals mg → mg d.name = some (.ref fa) →
      ∃ (fd : FuncData) (ct : Addr), (K w.params).lookup PT = none ∧ PySem.W.codeHdIn (K w.params) ct PT = true ∧ (∀ (s : Shared) (u : Value), BindsTo s fd ⟨[u], []⟩ [("_law_script", u)]) ∧ ∀ base : Heap, SysOn base → LamX.TabB base mg ct PT → (K w.params).In base → base.Ns mainGlobals mg → FnG l.prog w (K w.params) mg base 9 fa fd ["_law_script"] (spD (K w.params) (fLaw PT))) :
    PySem.W.WalkO q loose XP YP l.row.toRowW d [] (fun f vs => PySem.call f vs) :=
  walkGT (n := 63) (k := 9) (x := "_law_script") (sp := fun w => spD (K w.params) (fLaw PT)) hn (by decide) hdf ⟨rfl, by decide, by decide⟩ hY hsys F fun _ _ _ _ hl hp hs => promise_law hl hp hs

end Pa
open PySem PySem.W PyProof.Rows
local macro_rules | `(tactic| o_head ($f:ident $k $a $e $t)) => `(tactic| o_head (Br.sysHook ($f $k $a $e $t)))
set_option maxRecDepth 100000 in
set_option maxHeartbeats 0 in
theorem PySem.Challenge.cw_byteround_k02_numbers_as_bytes_holds : PySem.Challenge.rw_byteround_k02_numbers_as_bytes.Holds := by
  w_on; o_law; k_head; (case hw => w_witness2)
  k_fill
  refine Pa.walk (l := PySem.Challenge.rw_byteround_k02_numbers_as_bytes) rfl rfl (fun w h Y => ⟨PySem.W.km_in_of Y.1, Y.2, PySem.W.km_tabs_of Y.1 _ (List.mem_cons_self ..)⟩) (by decide) ?F
  case F =>
    intro w mg fa h KX G hmg
    refine' Pa.all_mk KX G hmg ?aMMB ?xMMB ?rMMB ?hMMB ?sMMB ?eMMB ?tMMB ?kMMB ?gaMMB ?ggMMB ?cMMB ?mMMB ?iMMB ?nMMB ?bMMB ?vMMB ?oMMB ?aMMN ?xMMN ?rMMN ?hMMN ?sMMN ?eMMN ?tMMN ?kMMN ?gaMMN ?ggMMN ?cMMN ?mMMN ?iMMN ?nMMN ?bMMN ?vMMN ?oMMN ?gC ?kT ?vV ?gS ?a1 ?l1 ?c1 ?k1 ?a2 ?l2 ?c2 ?k2 ?a3 ?t3 ?l3 ?c3 ?k3 ?a4 ?t4 ?l4 ?c4 ?k4 ?a5 ?l5 ?c5 ?k5 ?n5 ?r5 ?a6 ?l6 ?c6 ?k6 ?a7 ?l7 ?c7 ?k7 ?a8 ?l8 ?c8 ?k8 ?n8 ?r8 ?a9 ?l9 ?c9 ?k9 ?a10 ?l10 ?c10 ?k10 ?a11 ?l11 ?c11 ?k11 ?a12 ?l12 ?c12 ?k12 ?a13 ?l13 ?c13 ?k13 ?a14 ?l14 ?c14 ?k14 ?a15 ?l15 ?c15 ?k15 ?a16 ?l16 ?c16 ?k16 ?a17 ?l17 ?c17 ?k17 ?a18 ?l18 ?c18 ?k18 ?a19 ?l19 ?c19 ?k19 ?a20 ?l20 ?c20 ?k20 ?a21 ?l21 ?c21 ?k21 ?z_len ?z_abs ?z_range ?z_int ?z_isinstance ?z_str ?z_tuple ?z_bool ?z_list ?z_dict ?z_repr ?z_min ?z_sum ?z_reversed ?z_ValueError ?hct ?hdT ?nPT
    (case aMMB => k_is)
    (case xMMB => k_is)
    (case rMMB => first | k_is | rfl | exact ⟨_, rfl⟩ | kernel_rfl)
    (case hMMB => first | k_is | rfl | exact ⟨_, rfl⟩ | kernel_rfl)
    (case sMMB => k_is)
    (case eMMB => k_is)
    (case tMMB => k_is)
    (case kMMB => k_is)
    (case gaMMB => k_is)
    (case ggMMB => k_is)
    (case cMMB => k_is)
    (case mMMB => first | k_is | rfl | exact ⟨_, rfl⟩ | kernel_rfl)
    (case iMMB => k_is)
    (case nMMB => k_is)
    (case bMMB => first | k_is | rfl | exact ⟨_, rfl⟩ | kernel_rfl)
    (case vMMB => first | k_is | rfl | exact ⟨_, rfl⟩ | kernel_rfl)
    (case oMMB => first | k_is | rfl | exact ⟨_, rfl⟩ | kernel_rfl)
    (case aMMN => k_is)
    (case xMMN => k_is)
    (case rMMN => first | k_is | rfl | exact ⟨_, rfl⟩ | kernel_rfl)
    (case hMMN => first | k_is | rfl | exact ⟨_, rfl⟩ | kernel_rfl)
    (case sMMN => k_is)
    (case eMMN => k_is)
    (case tMMN => k_is)
    (case kMMN => k_is)
    (case gaMMN => k_is)
    (case ggMMN => k_is)
    (case cMMN => k_is)
    (case mMMN => first | k_is | rfl | exact ⟨_, rfl⟩ | kernel_rfl)
    (case iMMN => k_is)
    (case nMMN => k_is)
    (case bMMN => first | k_is | rfl | exact ⟨_, rfl⟩ | kernel_rfl)
    (case vMMN => first | k_is | rfl | exact ⟨_, rfl⟩ | kernel_rfl)
    (case oMMN => first | k_is | rfl | exact ⟨_, rfl⟩ | kernel_rfl)
    (case gC => first | k_is | rfl | exact ⟨_, rfl⟩ | kernel_rfl)
    (case kT => first | k_is | rfl | exact ⟨_, rfl⟩ | kernel_rfl)
    (case vV => first | k_is | rfl | exact ⟨_, rfl⟩ | kernel_rfl)
    (case gS => k_is)
    (case a1 => k_is)
    (case l1 => k_is)
    (case c1 => k_is)
    (case k1 => k_is)
    (case a2 => k_is)
    (case l2 => k_is)
    (case c2 => k_is)
    (case k2 => k_is)
    (case a3 => k_is)
    (case t3 => k_is)
    (case l3 => k_is)
    (case c3 => k_is)
    (case k3 => k_is)
    (case a4 => k_is)
    (case t4 => k_is)
    (case l4 => k_is)
    (case c4 => k_is)
    (case k4 => k_is)
    (case a5 => k_is)
    (case l5 => k_is)
    (case c5 => k_is)
    (case k5 => k_is)
    (case n5 => k_is)
    (case r5 => first | k_is | rfl | exact ⟨_, rfl⟩ | kernel_rfl)
    (case a6 => k_is)
    (case l6 => k_is)
    (case c6 => k_is)
    (case k6 => k_is)
    (case a7 => k_is)
    (case l7 => k_is)
    (case c7 => k_is)
    (case k7 => k_is)
    (case a8 => k_is)
    (case l8 => k_is)
    (case c8 => k_is)
    (case k8 => k_is)
    (case n8 => k_is)
    (case r8 => first | k_is | rfl | exact ⟨_, rfl⟩ | kernel_rfl)
    (case a9 => k_is)
    (case l9 => k_is)
    (case c9 => k_is)
    (case k9 => k_is)
    (case a10 => k_is)
    (case l10 => k_is)
    (case c10 => k_is)
    (case k10 => k_is)
    (case a11 => k_is)
    (case l11 => k_is)
    (case c11 => k_is)
    (case k11 => k_is)
    (case a12 => k_is)
    (case l12 => k_is)
    (case c12 => k_is)
    (case k12 => k_is)
    (case a13 => k_is)
    (case l13 => k_is)
    (case c13 => k_is)
    (case k13 => k_is)
    (case a14 => k_is)
    (case l14 => k_is)
    (case c14 => k_is)
    (case k14 => k_is)
    (case a15 => k_is)
    (case l15 => k_is)
    (case c15 => k_is)
    (case k15 => k_is)
    (case a16 => k_is)
    (case l16 => k_is)
    (case c16 => k_is)
    (case k16 => k_is)
    (case a17 => k_is)
    (case l17 => k_is)
    (case c17 => k_is)
    (case k17 => k_is)
    (case a18 => k_is)
    (case l18 => k_is)
    (case c18 => k_is)
    (case k18 => k_is)
    (case a19 => k_is)
    (case l19 => k_is)
    (case c19 => k_is)
    (case k19 => k_is)
    (case a20 => k_is)
    (case l20 => k_is)
    (case c20 => k_is)
    (case k20 => k_is)
    (case a21 => k_is)
    (case l21 => k_is)
    (case c21 => k_is)
    (case k21 => k_is)
    (case z_len => k_is)
    (case z_abs => k_is)
    (case z_range => k_is)
    (case z_int => k_is)
    (case z_isinstance => k_is)
    (case z_str => k_is)
    (case z_tuple => k_is)
    (case z_bool => k_is)
    (case z_list => k_is)
    (case z_dict => k_is)
    (case z_repr => k_is)
    (case z_min => k_is)
    (case z_sum => k_is)
    (case z_reversed => k_is)
    (case z_ValueError => k_is)
    (case hct => first | k_is | rfl | exact ⟨_, rfl⟩ | kernel_rfl)
    (case hdT => first | k_is | rfl | exact ⟨_, rfl⟩ | kernel_rfl)
    (case nPT => first | k_is | rfl | exact ⟨_, rfl⟩ | kernel_rfl)
