import PyProof.Rows.All
import Wide.All
import OpenK.AllK
import Wide.FinOn
import HandS.ForMost
import HandS.Exc
import HandS.ExcOwn
import HandS.WordsExc
import HandS.Evl
import HandS.Lambda
import HandS.Wide
import HandS.IsInst
import HandS.Replace
import HandS.RaiseMore
import HandS.Steps
import KE.KEqSeq
import HandS.ExcInit
import KE.KExcIs
import HandS.ExcValue
import HandS.ExcField
import HandS.ExcIs
import HandS.Rev
import HandS.More
import HandS.TupAny
import HandS.Zip
import KE.GoesMore
import KE.GoesZip
import HandS.NoneIn
import HandS.Ends
import PyProof.ReprRoads
import KE.KxField
import HandS.FStr
import HandS.Style
import HandS.Text
import HandS.Codes
import PyProof.CallFns
import PyProof.CallStr
import PyProof.EqKinds
import PyProof.NeKinds
import PyProof.Rows.EqBoolInt
import PyProof.Rows.IntBool
import PyProof.Rows.ReprOcc
import PyProof.StrLawsRepr
import HandS.TupMul
import KE.GoesEnumKw
import HandS.Defaults
import HandS.MakeKwOnly
import PyProof.InstNe
import KE.KExcInit
import HandS.TryOnly
import PyProof.InstSpecial
import HandS.WideBits
import HandS.CallSlots
import HandS.DictComp
import KE.KTupSum
import KE.SortData
import KE.SortKeyHeap
import KE.DataMinMax
import PyProof.P3Eq
import HandS.SortRule
import HandS.Deep
import HandS.Iter
import HandS.NestedK
import KE.KNestM
import HandS.EndBits
import KE.KSortKey
import HandS.SortKw
import PyProof.Rows.CallKwBuiltin
import KE.KTryMore
import KE.KeyNested
import KE.KDictDisplayH
import KE.KEqDeep
import PySem.Challenge.RW_byteround_k75_whole_patches_as_deeds
set_option Elab.async false
set_option linter.all false
set_option maxRecDepth 100000
set_option maxHeartbeats 4000000
/-! BrA: a def read over plain data and a small store of the things that change. -/
namespace Br
open PySem L2

/-! ### data -/
inductive D where
  | non | bl (b : Bool) | int (i : Int) | str (x : Str) | lst (xs : List D) | tup (xs : List D) | dk (kvs : List (Key × D)) | ob (C : Addr) (fs : List (Str × D)) | xo (C : Addr) (fs : List (Str × D))

/-- all that H has and that isn't at as stays -/
def Go (as : List Addr) (H H' : Hp) : Prop := ∀ a o, H a = some o → a ∉ as → H' a = some o
theorem Go.refl (as : List Addr) (H : Hp) : Go as H H := fun _ _ h _ => h
theorem Go.trans {as : List Addr} {H H1 H2 : Hp} (x : Go as H H1) (y : Go as H1 H2) : Go as H H2 := fun a o h n => y a o (x a o h n) n
theorem Go.new {as : List Addr} {H : Hp} {p : Addr} {o : HO} (h : H p = none) : Go as H (upd H p o) := fun a u e _ => by
  rw [upd_ne (ne_of_none e h)]
  exact e
theorem Go.at {as : List Addr} {H : Hp} {p : Addr} {o : HO} (h : p ∈ as) : Go as H (upd H p o) := fun a u e n => by
  have hne : a ≠ p := fun z => n (z ▸ h)
  rw [upd_ne hne]
  exact e
theorem Go.free {as : List Addr} {H H' : Hp} (g : Go as H H') {a : Addr} (n : a ∉ as) (h : H' a = none) : H a = none := by
  cases e : H a with
  | none => rfl
  | some o =>
    rw [g a o e n] at h
    cases h

/-- written lists, tuples -/
def WrL (K : PySem.W.Frag) (a : Addr) (xs : List V) : Prop :=
  ∃ (o : Obj) (its : Array Value) (n : Nat), K.lookup a = some o ∧ o.cls = .type "list" ∧ o.dict = none ∧ o.data = .seq its n ∧ its.size ≤ sizeLine ∧ Vals xs its.toList
def WrT (K : PySem.W.Frag) (a : Addr) (xs : List V) : Prop :=
  ∃ (o : Obj) (its : Array Value) (n : Nat), K.lookup a = some o ∧ o.cls = .type "tuple" ∧ o.data = .seq its n ∧ its.size ≤ sizeLine ∧ Vals xs its.toList
def QL (K : PySem.W.Frag) (as : List Addr) (H : Hp) (a : Addr) (xs : List V) : Prop := (a ∉ as ∧ Rd H a (.lst xs)) ∨ WrL K a xs
def QT (K : PySem.W.Frag) (as : List Addr) (H : Hp) (a : Addr) (xs : List V) : Prop := (a ∉ as ∧ Rd H a (.tup xs)) ∨ WrT K a xs
theorem QL.sq {K : PySem.W.Frag} {as : List Addr} {H : Hp} {a : Addr} {xs : List V} (h : QL K as H a xs) : SqL K H a xs := by
  rcases h with ⟨_, h⟩ | h
  · exact .inl h
  · exact .inr h
theorem QT.sq {K : PySem.W.Frag} {as : List Addr} {H : Hp} {a : Addr} {xs : List V} (h : QT K as H a xs) : SqT K H a xs := by
  rcases h with ⟨_, h⟩ | h
  · exact .inl h
  · exact .inr h
theorem rd_go {as : List Addr} {H H' : Hp} (g : Go as H H') {a : Addr} {u : HO} (n : a ∉ as) (h : Rd H a u) : Rd H' a u := by
  rcases h with h | ⟨o, h⟩
  · exact .inl (g a _ h n)
  · exact .inr ⟨o, g a _ h n⟩
theorem QL.go {K : PySem.W.Frag} {as : List Addr} {H H' : Hp} (g : Go as H H') {a : Addr} {xs : List V} (h : QL K as H a xs) : QL K as H' a xs := by
  rcases h with ⟨n, h⟩ | h
  · exact .inl ⟨n, rd_go g n h⟩
  · exact .inr h
theorem QT.go {K : PySem.W.Frag} {as : List Addr} {H H' : Hp} (g : Go as H H') {a : Addr} {xs : List V} (h : QT K as H a xs) : QT K as H' a xs := by
  rcases h with ⟨n, h⟩ | h
  · exact .inl ⟨n, rd_go g n h⟩
  · exact .inr h
/-- fewer things that change -/
theorem QL.sub {K : PySem.W.Frag} {as bs : List Addr} {H : Hp} {a : Addr} {xs : List V} (s : ∀ x ∈ bs, x ∈ as) (h : QL K as H a xs) : QL K bs H a xs := by
  rcases h with ⟨n, h⟩ | h
  · exact .inl ⟨fun z => n (s _ z), h⟩
  · exact .inr h
theorem QT.sub {K : PySem.W.Frag} {as bs : List Addr} {H : Hp} {a : Addr} {xs : List V} (s : ∀ x ∈ bs, x ∈ as) (h : QT K as H a xs) : QT K bs H a xs := by
  rcases h with ⟨n, h⟩ | h
  · exact .inl ⟨fun z => n (s _ z), h⟩
  · exact .inr h
theorem rd_some {H : Hp} {a : Addr} {u : HO} (h : Rd H a u) : H a ≠ none := by
  rcases h with h | ⟨o, h⟩ <;> rw [h] <;> intro z <;> cases z
/-- a new thing that changes -/
theorem QL.add {K : PySem.W.Frag} {as : List Addr} {H : Hp} {a p : Addr} {xs : List V} (hp : H p = none) (h : QL K as H a xs) : QL K (as ++ [p]) H a xs := by
  rcases h with ⟨n, h⟩ | h
  · refine .inl ⟨fun z => ?_, h⟩
    rcases List.mem_append.mp z with z | z
    · exact n z
    · rw [List.mem_singleton.mp z] at h
      exact rd_some h hp
  · exact .inr h
theorem QT.add {K : PySem.W.Frag} {as : List Addr} {H : Hp} {a p : Addr} {xs : List V} (hp : H p = none) (h : QT K as H a xs) : QT K (as ++ [p]) H a xs := by
  rcases h with ⟨n, h⟩ | h
  · refine .inl ⟨fun z => ?_, h⟩
    rcases List.mem_append.mp z with z | z
    · exact n z
    · rw [List.mem_singleton.mp z] at h
      exact rd_some h hp
  · exact .inr h

/-- an exception that was caught and kept -/
def Exk (C dd a : Addr) : HO := .ext fun h => ∃ (oe : Obj) (vs : Array Value), h.get? a = some oe ∧ Zc (.ref C) (some dd) oe ∧ oe.data = .fields vs

mutual
inductive Dx (K : PySem.W.Frag) (as : List Addr) (H : Hp) : V → D → Prop
  | non : Dx K as H .non .non
  | bl (b : Bool) : Dx K as H (.bl b) (.bl b)
  | int (i : Int) : Dx K as H (.int i) (.int i)
  | str (x : Str) : Dx K as H (.str x) (.str x)
  | lst {a : Addr} {xs : List V} {ds : List D} : QL K as H a xs → DxA K as H xs ds → Dx K as H (.ref a) (.lst ds)
  | tup {a : Addr} {xs : List V} {ds : List D} : QT K as H a xs → DxA K as H xs ds → Dx K as H (.ref a) (.tup ds)
  | dk {a : Addr} {kvs : List (Key × V)} {kds : List (Key × D)} : a ∉ as → Rd H a (.dK kvs) → DxP K as H kvs kds → Dx K as H (.ref a) (.dk kds)
  | ob {a C dx : Addr} {fs : List (Str × V)} {fds : List (Str × D)} : a ∉ as → dx ∉ as → H a = some (.ins C dx fs) → H dx = some (.own a) → DxF K as H fs fds → Dx K as H (.ref a) (.ob C fds)
  | xo {a C dd : Addr} {fs : List (Str × V)} {fds : List (Str × D)} : a ∉ as → dd ∉ as → H a = some (Exk C dd a) → H dd = some (.xd fs) → DxF K as H fs fds → Dx K as H (.ref a) (.xo C fds)
inductive DxA (K : PySem.W.Frag) (as : List Addr) (H : Hp) : List V → List D → Prop
  | nil : DxA K as H [] []
  | cons {v : V} {vs : List V} {d : D} {ds : List D} : Dx K as H v d → DxA K as H vs ds → DxA K as H (v :: vs) (d :: ds)
inductive DxP (K : PySem.W.Frag) (as : List Addr) (H : Hp) : List (Key × V) → List (Key × D) → Prop
  | nil : DxP K as H [] []
  | cons {k : Key} {v : V} {vs : List (Key × V)} {d : D} {ds : List (Key × D)} : Dx K as H v d → DxP K as H vs ds → DxP K as H ((k, v) :: vs) ((k, d) :: ds)
inductive DxF (K : PySem.W.Frag) (as : List Addr) (H : Hp) : List (Str × V) → List (Str × D) → Prop
  | nil : DxF K as H [] []
  | cons {k : Str} {v : V} {vs : List (Str × V)} {d : D} {ds : List (Str × D)} : Dx K as H v d → DxF K as H vs ds → DxF K as H ((k, v) :: vs) ((k, d) :: ds)
end
section
variable {K : PySem.W.Frag} {as bs : List Addr} {H H' : Hp}
/-- what a reading leans on may be read elsewhere -/
structure Way (K : PySem.W.Frag) (as bs : List Addr) (H H' : Hp) : Prop where
  l : ∀ a xs, QL K as H a xs → QL K bs H' a xs
  t : ∀ a xs, QT K as H a xs → QT K bs H' a xs
  r : ∀ a u, a ∉ as → Rd H a u → a ∉ bs ∧ Rd H' a u
  o : ∀ a u, a ∉ as → H a = some u → a ∉ bs ∧ H' a = some u
mutual
theorem Dx.way (w : Way K as bs H H') : ∀ {v : V} {d : D}, Dx K as H v d → Dx K bs H' v d
  | _, _, .non => .non
  | _, _, .bl b => .bl b
  | _, _, .int i => .int i
  | _, _, .str x => .str x
  | _, _, .lst h r => .lst (w.l _ _ h) (DxA.way w r)
  | _, _, .tup h r => .tup (w.t _ _ h) (DxA.way w r)
  | _, _, .dk n h r => .dk (w.r _ _ n h).1 (w.r _ _ n h).2 (DxP.way w r)
  | _, _, .ob n n2 h h2 r => .ob (w.o _ _ n h).1 (w.o _ _ n2 h2).1 (w.o _ _ n h).2 (w.o _ _ n2 h2).2 (DxF.way w r)
  | _, _, .xo n n2 h h2 r => .xo (w.o _ _ n h).1 (w.o _ _ n2 h2).1 (w.o _ _ n h).2 (w.o _ _ n2 h2).2 (DxF.way w r)
theorem DxA.way (w : Way K as bs H H') : ∀ {v : List V} {d : List D}, DxA K as H v d → DxA K bs H' v d
  | _, _, .nil => .nil
  | _, _, .cons h r => .cons (Dx.way w h) (DxA.way w r)
theorem DxP.way (w : Way K as bs H H') : ∀ {v : List (Key × V)} {d : List (Key × D)}, DxP K as H v d → DxP K bs H' v d
  | _, _, .nil => .nil
  | _, _, .cons h r => .cons (Dx.way w h) (DxP.way w r)
theorem DxF.way (w : Way K as bs H H') : ∀ {v : List (Str × V)} {d : List (Str × D)}, DxF K as H v d → DxF K bs H' v d
  | _, _, .nil => .nil
  | _, _, .cons h r => .cons (Dx.way w h) (DxF.way w r)
end
theorem Way.of_go (g : Go as H H') : Way K as as H H' := ⟨fun _ _ h => h.go g, fun _ _ h => h.go g, fun _ _ n h => ⟨n, rd_go g n h⟩, fun a u n h => ⟨n, g a u h n⟩⟩
theorem Way.of_sub (s : ∀ x ∈ bs, x ∈ as) : Way K as bs H H := ⟨fun _ _ h => h.sub s, fun _ _ h => h.sub s, fun _ _ n h => ⟨fun z => n (s _ z), h⟩, fun _ _ n h => ⟨fun z => n (s _ z), h⟩⟩
theorem Way.of_add {p : Addr} (hp : H p = none) : Way K as (as ++ [p]) H H :=
  ⟨fun _ _ h => h.add hp, fun _ _ h => h.add hp, fun a u n h => ⟨fun z => by
      rcases List.mem_append.mp z with z | z
      · exact n z
      · rw [List.mem_singleton.mp z] at h
        exact rd_some h hp, h⟩,
    fun a u n h => ⟨fun z => by
      rcases List.mem_append.mp z with z | z
      · exact n z
      · rw [List.mem_singleton.mp z, hp] at h
        exact (nomatch h), h⟩⟩
theorem DxA.length : ∀ {v : List V} {d : List D}, DxA K as H v d → v.length = d.length
  | _, _, .nil => rfl
  | _, _, .cons _ r => by rw [List.length_cons, List.length_cons, DxA.length r]
theorem DxA.get : ∀ {v : List V} {d : List D} {i : Nat} {x : D}, DxA K as H v d → d[i]? = some x → ∃ u, v[i]? = some u ∧ Dx K as H u x
  | _, _, _, _, .nil, e => by simp at e
  | _, _, 0, _, .cons h _, e => by simp at e; subst e; exact ⟨_, rfl, h⟩
  | _, _, i + 1, x, .cons _ r, e => by
    obtain ⟨u, h1, h2⟩ := DxA.get (i := i) (x := x) r (by simpa using e)
    exact ⟨u, by simpa using h1, h2⟩
theorem DxA.getV : ∀ {v : List V} {d : List D} {i : Nat} {u : V}, DxA K as H v d → v[i]? = some u → ∃ x, d[i]? = some x ∧ Dx K as H u x
  | _, _, _, _, .nil, e => by simp at e
  | _, _, 0, _, .cons h _, e => by simp at e; subst e; exact ⟨_, rfl, h⟩
  | _, _, i + 1, u, .cons _ r, e => by
    obtain ⟨x, h1, h2⟩ := DxA.getV (i := i) (u := u) r (by simpa using e)
    exact ⟨x, by simpa using h1, h2⟩
theorem DxA.app : ∀ {v w : List V} {d e : List D}, DxA K as H v d → DxA K as H w e → DxA K as H (v ++ w) (d ++ e)
  | _, _, _, _, .nil, s => s
  | _, _, _, _, .cons h r, s => .cons h (DxA.app r s)
theorem DxA.drop : ∀ {v : List V} {d : List D} (n : Nat), DxA K as H v d → DxA K as H (v.drop n) (d.drop n)
  | _, _, 0, h => h
  | _, _, _ + 1, .nil => .nil
  | _, _, n + 1, .cons _ r => DxA.drop n r
theorem DxA.take : ∀ {v : List V} {d : List D} (n : Nat), DxA K as H v d → DxA K as H (v.take n) (d.take n)
  | _, _, 0, _ => .nil
  | _, _, _ + 1, .nil => .nil
  | _, _, n + 1, .cons h r => .cons h (DxA.take n r)
theorem DxA.rev : ∀ {v : List V} {d : List D}, DxA K as H v d → DxA K as H v.reverse d.reverse
  | _, _, .nil => .nil
  | _, _, .cons h r => by
    rw [List.reverse_cons, List.reverse_cons]
    exact DxA.app (DxA.rev r) (.cons h .nil)
theorem DxA.set {u : V} {x : D} (h : Dx K as H u x) : ∀ {v : List V} {d : List D} (i : Nat), DxA K as H v d → DxA K as H (v.set i u) (d.set i x)
  | _, _, _, .nil => .nil
  | _, _, 0, .cons _ r => .cons h r
  | _, _, i + 1, .cons q r => .cons q (DxA.set h i r)
/-- numbers, texts, truths -/
theorem DxA.ints : ∀ (ns : List Int), DxA K as H (ns.map V.int) (ns.map D.int)
  | [] => .nil
  | n :: r => .cons (.int n) (DxA.ints r)
theorem DxA.of_ints : ∀ {v : List V} {ns : List Int}, DxA K as H v (ns.map D.int) → v = ns.map V.int
  | [], [], _ => rfl
  | [], _ :: _, h => nomatch h
  | _ :: _, [], h => nomatch h
  | _ :: _, n :: r, .cons h t => by
    cases h
    rw [DxA.of_ints t]
    rfl
theorem DxA.of_strs : ∀ {v : List V} {ns : List Str}, DxA K as H v (ns.map D.str) → v = ns.map V.str
  | [], [], _ => rfl
  | [], _ :: _, h => nomatch h
  | _ :: _, [], h => nomatch h
  | _ :: _, n :: r, .cons h t => by
    cases h
    rw [DxA.of_strs t]
    rfl
theorem DxA.of_bls : ∀ {v : List V} {ns : List Bool}, DxA K as H v (ns.map D.bl) → v = ns.map V.bl
  | [], [], _ => rfl
  | [], _ :: _, h => nomatch h
  | _ :: _, [], h => nomatch h
  | _ :: _, n :: r, .cons h t => by
    cases h
    rw [DxA.of_bls t]
    rfl
end

/-! ### the store: what changes -/
inductive Ob where
  | ml (xs : List D) | md (kvs : List (Key × D)) | mi (C : Addr) (fs : List (Str × D)) | tb (P : Addr) (q : Str)
  -- a dict at p, the same while it is walked, an instance whose fields are things at known places
  | mp (p : Addr) (kvs : List (Key × D)) | lp (p : Addr) (od : Obj) (vs : List (Key × V)) (kvs : List (Key × D)) | mr (C : Addr) (fs : List (Str × Addr))
def ObR (K : PySem.W.Frag) (as : List Addr) (H : Hp) (a : Addr) : Ob → Prop
  | .ml xs => ∃ vs, H a = some (.lst vs) ∧ DxA K as H vs xs
  | .md kds => ∃ kvs, H a = some (.dK kvs) ∧ DxP K as H kvs kds
  | .mi C fds => ∃ dx fs, H a = some (.ins C dx fs) ∧ dx ∉ as ∧ H dx = some (.own a) ∧ DxF K as H fs fds
  | .tb P q => ∃ ps : Array Value, H a = some (.tbl ps) ∧ a = P ∧ TriplesOk ps.toList ∧ ∀ (pos : Pos) (cv : Value), codeAmong pos ps.toList = some cv → ∃ c, cv = .ref c ∧ c ∉ as ∧ H c = some (LamX.CodeO c q)
  | .mp p kds => ∃ kvs, H a = some (.dK kvs) ∧ a = p ∧ DxP K as H kvs kds
  | .lp p od vs kds => H a = some (.frz od (.dK vs)) ∧ a = p ∧ DxP K as H vs kds
  | .mr C fs => ∃ dx, H a = some (.ins C dx (fs.map fun f => (f.1, V.ref f.2))) ∧ dx ∉ as ∧ H dx = some (.own a)
theorem ObR.way {K : PySem.W.Frag} {as bs : List Addr} {H H' : Hp} {a : Addr} {o : Ob} (w : Way K as bs H H') (e : ∀ u, H a = some u → H' a = some u) (h : ObR K as H a o) : ObR K bs H' a o := by
  cases o with
  | ml xs =>
    obtain ⟨vs, h1, h2⟩ := h
    exact ⟨vs, e _ h1, h2.way w⟩
  | md kds =>
    obtain ⟨vs, h1, h2⟩ := h
    exact ⟨vs, e _ h1, h2.way w⟩
  | mi C fds =>
    obtain ⟨dx, vs, h1, h2, h3, h4⟩ := h
    exact ⟨dx, vs, e _ h1, (w.o _ _ h2 h3).1, (w.o _ _ h2 h3).2, h4.way w⟩
  | tb P q =>
    obtain ⟨ps, h1, hP, h2, h3⟩ := h
    refine ⟨ps, e _ h1, hP, h2, fun pos cv hc => ?_⟩
    obtain ⟨c, h4, h5, h6⟩ := h3 pos cv hc
    exact ⟨c, h4, (w.o _ _ h5 h6).1, (w.o _ _ h5 h6).2⟩
  | mp p kds =>
    obtain ⟨vs, h1, h2, h3⟩ := h
    exact ⟨vs, e _ h1, h2, h3.way w⟩
  | lp p od vs kds =>
    obtain ⟨h1, h2, h3⟩ := h
    exact ⟨e _ h1, h2, h3.way w⟩
  | mr C fs =>
    obtain ⟨dx, h1, h2, h3⟩ := h
    exact ⟨dx, e _ h1, (w.o _ _ h2 h3).1, (w.o _ _ h2 h3).2⟩
theorem ObR.some {K : PySem.W.Frag} {as : List Addr} {H : Hp} {a : Addr} {o : Ob} (h : ObR K as H a o) : H a ≠ none := by
  cases o with
  | mi C fds =>
    obtain ⟨dx, vs, h1, _⟩ := h
    rw [h1]
    intro z
    cases z
  | lp p od vs kds =>
    obtain ⟨h1, _⟩ := h
    rw [h1]
    intro z
    cases z
  | _ =>
    obtain ⟨_, h1, _⟩ := h
    rw [h1]
    intro z
    cases z
/-- what a lambda leans on: it stays where all that isn't of the store stays, and where the store grows -/
structure Stb where
  R : List Addr → Hp → Prop
  go : ∀ {as : List Addr} {H H' : Hp}, R as H → Go as H H' → R as H'
  add : ∀ {as : List Addr} {H : Hp} {p : Addr}, R as H → H p = none → R (as ++ [p]) H
theorem Stb.adds (r : Stb) {H : Hp} : ∀ {nw as : List Addr}, r.R as H → (∀ a ∈ nw, H a = none) → r.R (as ++ nw) H
  | [], as, h, _ => by
    rw [List.append_nil]
    exact h
  | p :: nw, as, h, n => by
    have e : as ++ p :: nw = (as ++ [p]) ++ nw := by simp
    rw [e]
    exact Stb.adds r (r.add h (n p List.mem_cons_self)) fun a ha => n a (List.mem_cons_of_mem _ ha)
/-- a slot's value: data, the k-th thing of the store, a lambda -/
inductive Sv where
  | d (x : D) | o (k : Nat) | fn (f : Addr) (r : Stb)
def SvR (K : PySem.W.Frag) (as : List Addr) (H : Hp) (v : V) : Sv → Prop
  | .d x => Dx K as H v x
  | .o k => ∃ a, as[k]? = some a ∧ v = .ref a
  | .fn f r => v = .ref f ∧ r.R as H
inductive SvA (K : PySem.W.Frag) (as : List Addr) (H : Hp) : List V → List Sv → Prop
  | nil : SvA K as H [] []
  | cons {v : V} {vs : List V} {d : Sv} {ds : List Sv} : SvR K as H v d → SvA K as H vs ds → SvA K as H (v :: vs) (d :: ds)
abbrev Sl := List (Option Sv)
abbrev Os := List Ob
structure Sa where
  s : Sl
  os : Os
/-- the store at as -/
structure Ro (K : PySem.W.Frag) (as : List Addr) (H : Hp) (os : Os) : Prop where
  nd : as.Nodup
  len : as.length = os.length
  own : ∀ (k : Nat) (a : Addr) (ob : Ob), as[k]? = some a → os[k]? = some ob → ObR K as H a ob
structure Re (K : PySem.W.Frag) (as : List Addr) (H : Hp) (σ : St) (S : Sa) : Prop where
  o : Ro K as H S.os
  slen : σ.length = S.s.length
  slot : ∀ (i : Nat) (d : Sv), S.s[i]? = some (some d) → ∃ v, σ[i]? = some (some v) ∧ SvR K as H v d
/-- from as, H to bs, H': what is further is new, what isn't of the store stays -/
structure Stp (as : List Addr) (H : Hp) (bs : List Addr) (H' : Hp) : Prop where
  pre : ∃ nw, bs = as ++ nw ∧ ∀ a ∈ nw, H a = none
  go : Go as H H'
  th : ∀ a, H' a = none → H a = none
section
variable {K : PySem.W.Frag} {as bs cs : List Addr} {H H' H'' : Hp} {σ : St} {S : Sa} {os os' : Os}
theorem Ro.has {a : Addr} (R : Ro K as H os) (ha : a ∈ as) : H a ≠ none := by
  obtain ⟨k, hk, e⟩ := List.mem_iff_getElem.mp ha
  have h1 : as[k]? = some a := by rw [List.getElem?_eq_getElem hk, e]
  have h2 : k < os.length := R.len ▸ hk
  exact (R.own k a os[k] h1 (List.getElem?_eq_getElem h2)).some
theorem Ro.notin {p : Addr} (R : Ro K as H os) (hp : H p = none) : p ∉ as := fun z => R.has z hp
theorem Stp.refl : Stp as H as H := ⟨⟨[], by simp, fun _ h => nomatch h⟩, Go.refl _ _, fun _ h => h⟩
theorem Stp.of_go (g : Go as H H') (R : Ro K as H' os) : Stp as H as H' := ⟨⟨[], by simp, fun _ h => nomatch h⟩, g, fun a h => g.free (R.notin h) h⟩
theorem Stp.sub (s : Stp as H bs H') : ∀ x ∈ as, x ∈ bs := fun x hx => by
  obtain ⟨nw, e, _⟩ := s.pre
  rw [e]
  exact List.mem_append_left _ hx
theorem Stp.nin (s : Stp as H bs H') {a : Addr} (h : H a ≠ none) (n : a ∉ as) : a ∉ bs := fun z => by
  obtain ⟨nw, e, f⟩ := s.pre
  rw [e] at z
  rcases List.mem_append.mp z with z | z
  · exact n z
  · exact h (f a z)
theorem ne_none {α : Type} {o : Option α} {x : α} (h : o = some x) : o ≠ none := by
  rw [h]
  intro z
  cases z
theorem Stp.trans (s : Stp as H bs H') (t : Stp bs H' cs H'') : Stp as H cs H'' := by
  obtain ⟨n1, e1, f1⟩ := s.pre
  obtain ⟨n2, e2, f2⟩ := t.pre
  refine ⟨⟨n1 ++ n2, by rw [e2, e1, List.append_assoc], fun a ha => ?_⟩, fun a o h n => t.go a o (s.go a o h n) (s.nin (ne_none h) n), fun a h => s.th a (t.th a h)⟩
  rcases List.mem_append.mp ha with z | z
  · exact f1 a z
  · exact s.th a (f2 a z)
theorem rd_nn {H : Hp} {a : Addr} {u : HO} (h : Rd H a u) : H a ≠ none := rd_some h
theorem Stp.way (s : Stp as H bs H') : Way K as bs H H' := by
  refine ⟨fun a xs h => ?_, fun a xs h => ?_, fun a u n h => ⟨s.nin (rd_nn h) n, rd_go s.go n h⟩, fun a u n h => ⟨s.nin (ne_none h) n, s.go a u h n⟩⟩
  · rcases h with ⟨n, h⟩ | h
    · exact .inl ⟨s.nin (rd_nn h) n, rd_go s.go n h⟩
    · exact .inr h
  · rcases h with ⟨n, h⟩ | h
    · exact .inl ⟨s.nin (rd_nn h) n, rd_go s.go n h⟩
    · exact .inr h
theorem SvR.stp {v : V} {d : Sv} (s : Stp as H bs H') (h : SvR K as H v d) : SvR K bs H' v d := by
  cases d with
  | d x => exact Dx.way s.way h
  | o k =>
    obtain ⟨a, e, z⟩ := h
    obtain ⟨nw, q, _⟩ := s.pre
    refine ⟨a, ?_, z⟩
    rw [q, List.getElem?_append_left (List.getElem?_eq_some_iff.mp e).1]
    exact e
  | fn f r =>
    obtain ⟨nw, q, n⟩ := s.pre
    refine ⟨h.1, r.go (H := H) ?_ fun a o e m => s.go a o e fun z => m (s.sub a z)⟩
    rw [q]
    exact r.adds h.2 n
theorem SvR.go {v : V} {d : Sv} (g : Go as H H') (h : SvR K as H v d) : SvR K as H' v d := by
  cases d with
  | d x => exact Dx.way (Way.of_go g) h
  | o k => exact h
  | fn f r => exact ⟨h.1, r.go h.2 g⟩
theorem SvR.wayA {v : V} {d : Sv} {p : Addr} (hp : H p = none) (h : SvR K as H v d) : SvR K (as ++ [p]) H v d := by
  cases d with
  | d x => exact Dx.way (Way.of_add hp) h
  | o k =>
    obtain ⟨a, e, z⟩ := h
    refine ⟨a, ?_, z⟩
    rw [List.getElem?_append_left (List.getElem?_eq_some_iff.mp e).1]
    exact e
  | fn f r => exact ⟨h.1, r.add h.2 hp⟩
theorem SvA.go {vs : List V} {ds : List Sv} (g : Go as H H') : SvA K as H vs ds → SvA K as H' vs ds
  | .nil => .nil
  | .cons h r => .cons (h.go g) (SvA.go g r)
theorem Re.go (R : Re K as H σ S) (g : Go as H H') (Q : Ro K as H' os') : Re K as H' σ ⟨S.s, os'⟩ :=
  ⟨Q, R.slen, fun i d h => by
    obtain ⟨v, e, r⟩ := R.slot i d h
    exact ⟨v, e, r.go g⟩⟩
theorem Ro.new {p : Addr} {o : HO} (R : Ro K as H os) (hp : H p = none) : Ro K as (upd H p o) os := by
  refine ⟨R.nd, R.len, fun k a ob h1 h2 => ?_⟩
  refine (R.own k a ob h1 h2).way (Way.of_go (Go.new hp)) fun u e => ?_
  rw [upd_ne (ne_of_none e hp)]
  exact e
end

/-! ### abstract wishes -/
/-- what is wished of an exception: at the heap, over the data -/
structure Xc where
  wx : Value → Option Addr → St → Hp → Prop
  xe : Addr → List (Str × D) → Sa → Prop
/-- none may come -/
def X0 : Xc := ⟨fun _ _ _ _ => False, fun _ _ _ => False⟩
section
variable (K : PySem.W.Frag) (X : Xc)
def XH (as : List Addr) (H : Hp) (σ : St) (s : Sl) : Prop :=
  ∀ H' C dd fs fds os', Go as H H' → Ro K as H' os' → H dd = none → H' dd = some (.xd fs) → DxF K as H' fs fds → X.xe C fds ⟨s, os'⟩ → X.wx (.ref C) (some dd) σ H'
def XS (as : List Addr) (H : Hp) : Prop :=
  ∀ bs H' σ' S' C dd fs fds, Stp as H bs H' → Re K bs H' σ' S' → H dd = none → H' dd = some (.xd fs) → DxF K bs H' fs fds → X.xe C fds S' → X.wx (.ref C) (some dd) σ' H'
def EW (te : TE) (S : Sa) (Q : Sv → Os → Prop) : Prop :=
  ∀ as H σ (Q' : VK), Re K as H σ S → XH K X as H σ S.s → (∀ v H' d os', Go as H H' → Ro K as H' os' → SvR K as H' v d → Q d os' → Q' v H') → te σ H Q'
def TW (tt : TT) (S : Sa) (Q : Bool → Os → Prop) : Prop :=
  ∀ as H σ (Q' : Bool → Hp → Prop), Re K as H σ S → XH K X as H σ S.s → (∀ b H' os', Go as H H' → Ro K as H' os' → Q b os' → Q' b H') → tt σ H Q'
def AW (ta : TA) (S : Sa) (Q : List Sv → Os → Prop) : Prop :=
  ∀ as H σ (Q' : List V → Hp → Prop), Re K as H σ S → XH K X as H σ S.s → (∀ vs H' ds os', Go as H H' → Ro K as H' os' → SvA K as H' vs ds → Q ds os' → Q' vs H') → ta σ H Q'
def OW (to : TO) (S : Sa) (Q : Option Int → Os → Prop) : Prop :=
  ∀ as H σ (Q' : Option Int → Hp → Prop), Re K as H σ S → XH K X as H σ S.s → (∀ o H' os', Go as H H' → Ro K as H' os' → Q o os' → Q' o H') → to σ H Q'
/-- an operation on values -/
def BW (r : R2) (x y : Sv) (os : Os) (Q : Sv → Os → Prop) : Prop :=
  ∀ as H v u (Q' : VK), Ro K as H os → SvR K as H v x → SvR K as H u y → (∀ z H' d os', Go as H H' → Ro K as H' os' → SvR K as H' z d → Q d os' → Q' z H') → r v u H Q'
def UW (r : V → Hp → VK → Prop) (x : Sv) (os : Os) (Q : Sv → Os → Prop) : Prop :=
  ∀ as H v (Q' : VK), Ro K as H os → SvR K as H v x → (∀ z H' d os', Go as H H' → Ro K as H' os' → SvR K as H' z d → Q d os' → Q' z H') → r v H Q'
/-- a call on values -/
def CW (r : List V → Hp → VK → Prop) (xs : List Sv) (os : Os) (Q : Sv → Os → Prop) : Prop :=
  ∀ as H vs (Q' : VK), Ro K as H os → SvA K as H vs xs → (∀ z H' d os', Go as H H' → Ro K as H' os' → SvR K as H' z d → Q d os' → Q' z H') → r vs H Q'
/-- a method on values -/
def MW (r : V → List V → Hp → VK → Prop) (x : Sv) (xs : List Sv) (os : Os) (Q : Sv → Os → Prop) : Prop :=
  ∀ as H v vs (Q' : VK), Ro K as H os → SvR K as H v x → SvA K as H vs xs → (∀ z H' d os', Go as H H' → Ro K as H' os' → SvR K as H' z d → Q d os' → Q' z H') → r v vs H Q'
structure Ea where
  nx : Sa → Prop
  rt : Sv → Os → Prop
  bk : Sa → Prop := fun _ => False
  ct : Sa → Prop := fun _ => False
def W (ts : TS) (E : Ea) (S : Sa) : Prop :=
  ∀ as H σ (D : Ends), Re K as H σ S → XS K X as H →
    (∀ bs H' σ' S', Stp as H bs H' → Re K bs H' σ' S' → E.nx S' → D.nx σ' H') →
    (∀ bs H' v d os', Stp as H bs H' → Ro K bs H' os' → SvR K bs H' v d → E.rt d os' → D.rt v H') →
    (∀ bs H' σ' S', Stp as H bs H' → Re K bs H' σ' S' → E.bk S' → D.bk σ' H') →
    (∀ bs H' σ' S', Stp as H bs H' → Re K bs H' σ' S' → E.ct S' → D.ct σ' H') → ts D σ H
end
section
variable {K : PySem.W.Frag} {X : Xc} {as bs : List Addr} {H H1 : Hp} {σ : St} {s : Sl} {S : Sa} {os os1 : Os}
theorem XH.go (x : XH K X as H σ s) (g : Go as H H1) (R : Ro K as H1 os1) : XH K X as H1 σ s := fun H' C dd fs fds os' g2 R2 n e r z =>
  x H' C dd fs fds os' (g.trans g2) R2 (g.free (R.notin n) n) e r z
theorem XS.stp (x : XS K X as H) (s : Stp as H bs H1) : XS K X bs H1 := fun cs H' σ' S' C dd fs fds t R n e r z => x cs H' σ' S' C dd fs fds (s.trans t) R (s.th _ n) e r z
theorem XS.h (x : XS K X as H) (R : Re K as H σ S) : XH K X as H σ S.s := fun H' C dd fs fds os' g R2 n e r z => x as H' σ ⟨S.s, os'⟩ C dd fs fds (Stp.of_go g R2) (R.go g R2) n e r z
theorem XH.x0 : XH K X0 as H σ s := fun _ _ _ _ _ _ _ _ _ _ _ z => z.elim
theorem XS.x0 : XS K X0 as H := fun _ _ _ _ _ _ _ _ _ _ _ _ _ z => z.elim
end

/-! ### expressions -/
section
variable {K : PySem.W.Frag} {X : Xc} {S : Sa} {os : Os} {Q : Sv → Os → Prop} {ta tb te : TE} {tr : TA}
theorem ew_var {i : Nat} {d : Sv} (h : S.s[i]? = some (some d)) (q : Q d S.os) : EW K X (tVar i) S Q := fun as H σ Q' R x k => by
  obtain ⟨v, e, r⟩ := R.slot i d h
  exact ⟨v, e, k v H d S.os (Go.refl _ _) R.o r q⟩
theorem ew_c {v : V} {d : D} (h : ∀ as H, Dx K as H v d) (q : Q (.d d) S.os) : EW K X (tC v) S Q := fun as H σ Q' R x k => k v H (.d d) S.os (Go.refl _ _) R.o (h as H) q
theorem ew_int {i : Int} (q : Q (.d (.int i)) S.os) : EW K X (tC (.int i)) S Q := ew_c (fun _ _ => .int i) q
theorem ew_str {z : PySem.Str} (q : Q (.d (.str z)) S.os) : EW K X (tC (.str z)) S Q := ew_c (fun _ _ => .str z) q
theorem ew_bl {b : Bool} (q : Q (.d (.bl b)) S.os) : EW K X (tC (.bl b)) S Q := ew_c (fun _ _ => .bl b) q
theorem ew_non (q : Q (.d .non) S.os) : EW K X (tC .non) S Q := ew_c (fun _ _ => .non) q
theorem ew_op {r : R2} (h : EW K X ta S fun x os1 => EW K X tb ⟨S.s, os1⟩ fun y os2 => BW K r x y os2 Q) : EW K X (tOp r ta tb) S Q := fun as H σ Q' R x k =>
  h as H σ _ R x fun v H1 d os1 g1 R1 r1 q1 => q1 as H1 σ _ (R.go g1 R1) (x.go g1 R1) fun u H2 e os2 g2 R2 r2 q2 => q2 as H2 v u Q' R2 (r1.go g2) r2 fun z H3 f os3 g3 R3 r3 q3 => k z H3 f os3 ((g1.trans g2).trans g3) R3 r3 q3
theorem ew_un {r : V → Hp → VK → Prop} (h : EW K X ta S fun x os1 => UW K r x os1 Q) : EW K X (tUn r ta) S Q := fun as H σ Q' R x k =>
  h as H σ _ R x fun v H1 d os1 g1 R1 r1 q1 => q1 as H1 v Q' R1 r1 fun z H3 f os3 g3 R3 r3 q3 => k z H3 f os3 (g1.trans g3) R3 r3 q3
theorem aw_nil {Q : List Sv → Os → Prop} (q : Q [] S.os) : AW K X tNil S Q := fun as H σ Q' R x k => k [] H [] S.os (Go.refl _ _) R.o .nil q
theorem aw_cons {Q : List Sv → Os → Prop} (h : EW K X ta S fun x os1 => AW K X tr ⟨S.s, os1⟩ fun xs os2 => Q (x :: xs) os2) : AW K X (tCons ta tr) S Q := fun as H σ Q' R x k =>
  h as H σ _ R x fun v H1 d os1 g1 R1 r1 q1 => q1 as H1 σ _ (R.go g1 R1) (x.go g1 R1) fun vs H2 ds os2 g2 R2 r2 q2 => k (v :: vs) H2 (d :: ds) os2 (g1.trans g2) R2 (.cons (r1.go g2) r2) q2
theorem ew_cb {r : List V → Hp → VK → Prop} (h : AW K X tr S fun xs os1 => CW K r xs os1 Q) : EW K X (tCB r tr) S Q := fun as H σ Q' R x k =>
  h as H σ _ R x fun vs H1 ds os1 g1 R1 r1 q1 => q1 as H1 vs Q' R1 r1 fun z H3 f os3 g3 R3 r3 q3 => k z H3 f os3 (g1.trans g3) R3 r3 q3
theorem ew_if {t : TT} (h : TW K X t S fun b os1 => if b = true then EW K X ta ⟨S.s, os1⟩ Q else EW K X tb ⟨S.s, os1⟩ Q) : EW K X (tIf t ta tb) S Q := fun as H σ Q' R x k =>
  h as H σ _ R x fun b H1 os1 g1 R1 q1 => by
    cases b with
    | true =>
      show ta σ H1 Q'
      exact (show EW K X ta ⟨S.s, os1⟩ Q from q1) as H1 σ Q' (R.go g1 R1) (x.go g1 R1) fun z H3 f os3 g3 R3 r3 q3 => k z H3 f os3 (g1.trans g3) R3 r3 q3
    | false =>
      show tb σ H1 Q'
      exact (show EW K X tb ⟨S.s, os1⟩ Q from q1) as H1 σ Q' (R.go g1 R1) (x.go g1 R1) fun z H3 f os3 g3 R3 r3 q3 => k z H3 f os3 (g1.trans g3) R3 r3 q3
theorem ew_mono {Q' : Sv → Os → Prop} (h : EW K X te S Q) (m : ∀ d os, Q d os → Q' d os) : EW K X te S Q' := fun as H σ Z R x k =>
  h as H σ Z R x fun v H1 d os1 g1 R1 r1 q1 => k v H1 d os1 g1 R1 r1 (m d os1 q1)
end

/-! ### tests -/
section
variable {K : PySem.W.Frag} {X : Xc} {S : Sa} {Q : Bool → Os → Prop} {ta : TE} {t u : TT}
theorem tw_test (h : EW K X ta S fun x os => ∃ b, x = .d (.bl b) ∧ Q b os) : TW K X (tTest ta) S Q := fun as H σ Q' R x k =>
  h as H σ _ R x fun v H1 d os1 g1 R1 r1 ⟨b, e, q⟩ => by
    subst e
    cases r1
    exact ⟨b, rfl, k b H1 os1 g1 R1 q⟩
theorem tw_B (h : EW K X ta S fun x os => ∃ b, x = .d (.bl b) ∧ Q b os) : TW K X (tB ta) S Q := fun as H σ Q' R x k =>
  h as H σ _ R x fun v H1 d os1 g1 R1 r1 ⟨b, e, q⟩ => by
    subst e
    cases r1
    exact ⟨b, rfl, k b H1 os1 g1 R1 q⟩
theorem tw_and (h : TW K X t S fun b os => if b = true then TW K X u ⟨S.s, os⟩ Q else Q false os) : TW K X (tAnd t u) S Q := fun as H σ Q' R x k =>
  h as H σ _ R x fun b H1 os1 g1 R1 q1 => by
    cases b with
    | true =>
      show u σ H1 Q'
      exact (show TW K X u ⟨S.s, os1⟩ Q from q1) as H1 σ Q' (R.go g1 R1) (x.go g1 R1) fun b H2 os2 g2 R2 q2 => k b H2 os2 (g1.trans g2) R2 q2
    | false =>
      show Q' false H1
      exact k false H1 os1 g1 R1 q1
theorem tw_or (h : TW K X t S fun b os => if b = true then Q true os else TW K X u ⟨S.s, os⟩ Q) : TW K X (tOr t u) S Q := fun as H σ Q' R x k =>
  h as H σ _ R x fun b H1 os1 g1 R1 q1 => by
    cases b with
    | false =>
      show u σ H1 Q'
      exact (show TW K X u ⟨S.s, os1⟩ Q from q1) as H1 σ Q' (R.go g1 R1) (x.go g1 R1) fun b H2 os2 g2 R2 q2 => k b H2 os2 (g1.trans g2) R2 q2
    | true =>
      show Q' true H1
      exact k true H1 os1 g1 R1 q1
theorem tw_not (h : TW K X t S fun b os => Q (!b) os) : TW K X (tNot t) S Q := fun as H σ Q' R x k => h as H σ _ R x fun b H1 os1 g1 R1 q1 => k (!b) H1 os1 g1 R1 q1
end
section
variable {K : PySem.W.Frag} {X : Xc} {S : Sa} {Q : Sv → Os → Prop} {ta tb : TE}
theorem ew_andV (h : EW K X ta S fun x os => ∃ b, x = .d (.bl b) ∧ if b = true then EW K X tb ⟨S.s, os⟩ Q else Q (.d (.bl false)) os) : EW K X (tAndV ta tb) S Q := fun as H σ Q' R x k =>
  h as H σ _ R x fun v H1 d os1 g1 R1 r1 ⟨b, e, q1⟩ => by
    subst e
    cases r1
    refine ⟨b, rfl, ?_⟩
    cases b with
    | true =>
      show tb σ H1 Q'
      exact (show EW K X tb ⟨S.s, os1⟩ Q from q1) as H1 σ Q' (R.go g1 R1) (x.go g1 R1) fun z H3 f os3 g3 R3 r3 q3 => k z H3 f os3 (g1.trans g3) R3 r3 q3
    | false =>
      show Q' (.bl false) H1
      exact k _ H1 (.d (.bl false)) os1 g1 R1 (Dx.bl false) q1
theorem ew_orV (h : EW K X ta S fun x os => ∃ b, x = .d (.bl b) ∧ if b = true then Q (.d (.bl true)) os else EW K X tb ⟨S.s, os⟩ Q) : EW K X (tOrV ta tb) S Q := fun as H σ Q' R x k =>
  h as H σ _ R x fun v H1 d os1 g1 R1 r1 ⟨b, e, q1⟩ => by
    subst e
    cases r1
    refine ⟨b, rfl, ?_⟩
    cases b with
    | false =>
      show tb σ H1 Q'
      exact (show EW K X tb ⟨S.s, os1⟩ Q from q1) as H1 σ Q' (R.go g1 R1) (x.go g1 R1) fun z H3 f os3 g3 R3 r3 q3 => k z H3 f os3 (g1.trans g3) R3 r3 q3
    | true =>
      show Q' (.bl true) H1
      exact k _ H1 (.d (.bl true)) os1 g1 R1 (Dx.bl true) q1
theorem ew_notV (h : EW K X ta S fun x os => ∃ b, x = .d (.bl b) ∧ Q (.d (.bl (!b))) os) : EW K X (tNotV ta) S Q := fun as H σ Q' R x k =>
  h as H σ _ R x fun v H1 d os1 g1 R1 r1 ⟨b, e, q1⟩ => by
    subst e
    cases r1
    exact ⟨b, rfl, k _ H1 (.d (.bl _)) os1 g1 R1 (Dx.bl _) q1⟩
end

/-! ### statements -/
section
variable {K : PySem.W.Frag} {X : Xc} {S : Sa} {E : Ea} {te : TE} {tt : TT} {t u : TS}
theorem w_seq (h : W K X t { E with nx := W K X u E } S) : W K X (tSeq t u) E S := fun as H σ D R x n r b c => by
  refine h as H σ { D with nx := u D } R x (fun bs H1 σ1 S1 s1 R1 q1 => ?_) r b c
  exact q1 bs H1 σ1 D R1 (x.stp s1) (fun cs H2 σ2 S2 s2 R2 q2 => n cs H2 σ2 S2 (s1.trans s2) R2 q2) (fun cs H2 v d os2 s2 R2 r2 q2 => r cs H2 v d os2 (s1.trans s2) R2 r2 q2)
    (fun cs H2 σ2 S2 s2 R2 q2 => b cs H2 σ2 S2 (s1.trans s2) R2 q2) (fun cs H2 σ2 S2 s2 R2 q2 => c cs H2 σ2 S2 (s1.trans s2) R2 q2)
theorem w_next (q : E.nx S) : W K X tNext E S := fun as H σ D R x n r b c => n as H σ S Stp.refl R q
theorem w_brk (q : E.bk S) : W K X tBreak E S := fun as H σ D R x n r b c => b as H σ S Stp.refl R q
theorem w_cont (q : E.ct S) : W K X tCont E S := fun as H σ D R x n r b c => c as H σ S Stp.refl R q
theorem w_ret (h : EW K X te S E.rt) : W K X (tRet te) E S := fun as H σ D R x n r b c => h as H σ _ R (x.h R) fun v H1 d os1 g1 R1 r1 q1 => r as H1 v d os1 (Stp.of_go g1 R1) R1 r1 q1
theorem w_retN (h : E.rt (.d .non) S.os) : W K X tRetN E S := fun as H σ D R x n r b c => r as H .non (.d .non) S.os Stp.refl R.o Dx.non h
theorem w_drop (h : EW K X te S fun _ os => E.nx ⟨S.s, os⟩) : W K X (tDrop te) E S := fun as H σ D R x n r b c => h as H σ _ R (x.h R) fun v H1 d os1 g1 R1 r1 q1 => n as H1 σ _ (Stp.of_go g1 R1) (R.go g1 R1) q1
theorem Re.set {as : List Addr} {H : Hp} {σ : St} {v : V} {d : Sv} (i : Nat) (R : Re K as H σ S) (r : SvR K as H v d) : Re K as H (σ.set i (some v)) ⟨S.s.set i (some d), S.os⟩ :=
  ⟨R.o, by simp [R.slen], fun j e h => by
    have h' : (S.s.set i (some d))[j]? = some (some e) := h
    by_cases hj : i = j
    · subst hj
      by_cases hl : i < S.s.length
      · rw [List.getElem?_set_self hl] at h'
        cases h'
        exact ⟨v, by rw [List.getElem?_set_self (by rw [R.slen]; exact hl)], r⟩
      · rw [List.getElem?_eq_none (by simpa using hl)] at h'
        cases h'
    · rw [List.getElem?_set_ne hj] at h'
      obtain ⟨w, e1, r1⟩ := R.slot j e h'
      exact ⟨w, by rw [List.getElem?_set_ne hj]; exact e1, r1⟩⟩
theorem w_asg {i : Nat} (h : EW K X te S fun d os => E.nx ⟨S.s.set i (some d), os⟩) : W K X (tAsg te (gName i)) E S := fun as H σ D R x n r b c =>
  h as H σ _ R (x.h R) fun v H1 d os1 g1 R1 r1 q1 => n as H1 _ _ (Stp.of_go g1 R1) ((R.go g1 R1).set i r1) q1
theorem w_if (h : TW K X tt S fun b os => if b = true then W K X t E ⟨S.s, os⟩ else W K X u E ⟨S.s, os⟩) : W K X (tIfS tt t u) E S := fun as H σ D R x n r b c =>
  h as H σ _ R (x.h R) fun y H1 os1 g1 R1 q1 => by
    have s1 := Stp.of_go g1 R1
    cases y with
    | true =>
      show t D σ H1
      exact (show W K X t E ⟨S.s, os1⟩ from q1) as H1 σ D (R.go g1 R1) (x.stp s1) (fun cs H2 σ2 S2 s2 R2 q2 => n cs H2 σ2 S2 (s1.trans s2) R2 q2) (fun cs H2 v d os2 s2 R2 r2 q2 => r cs H2 v d os2 (s1.trans s2) R2 r2 q2)
        (fun cs H2 σ2 S2 s2 R2 q2 => b cs H2 σ2 S2 (s1.trans s2) R2 q2) (fun cs H2 σ2 S2 s2 R2 q2 => c cs H2 σ2 S2 (s1.trans s2) R2 q2)
    | false =>
      show u D σ H1
      exact (show W K X u E ⟨S.s, os1⟩ from q1) as H1 σ D (R.go g1 R1) (x.stp s1) (fun cs H2 σ2 S2 s2 R2 q2 => n cs H2 σ2 S2 (s1.trans s2) R2 q2) (fun cs H2 v d os2 s2 R2 r2 q2 => r cs H2 v d os2 (s1.trans s2) R2 r2 q2)
        (fun cs H2 σ2 S2 s2 R2 q2 => b cs H2 σ2 S2 (s1.trans s2) R2 q2) (fun cs H2 σ2 S2 s2 R2 q2 => c cs H2 σ2 S2 (s1.trans s2) R2 q2)
theorem w_mono {E' : Ea} (h : W K X t E S) (n : ∀ S, E.nx S → E'.nx S) (r : ∀ d os, E.rt d os → E'.rt d os) (b : ∀ S, E.bk S → E'.bk S) (c : ∀ S, E.ct S → E'.ct S) : W K X t E' S := fun as H σ D R x kn kr kb kc =>
  h as H σ D R x (fun bs H' σ' S' s R' q => kn bs H' σ' S' s R' (n _ q)) (fun bs H' v d os s R' r' q => kr bs H' v d os s R' r' (r _ _ q)) (fun bs H' σ' S' s R' q => kb bs H' σ' S' s R' (b _ q)) (fun bs H' σ' S' s R' q => kc bs H' σ' S' s R' (c _ q))
/-- never come to -/
theorem w_never (h : False) : W K X t E S := h.elim
end
end Br

/-! BrB: calls, operations on data. -/
namespace Br
open PySem L2

/-! ### data as the library's own -/
mutual
def D.py : D → Option PyData
  | .non => some .none
  | .bl b => some (.bool b)
  | .int i => some (.int i)
  | .str x => some (.str x)
  | .lst xs => (D.pys xs).map .list
  | .tup xs => (D.pys xs).map .tuple
  | .dk _ => none
  | .ob _ _ => none
  | .xo _ _ => none
def D.pys : List D → Option (List PyData)
  | [] => some []
  | x :: r => (D.py x).bind fun p => (D.pys r).map fun ps => p :: ps
end
section
variable {K : PySem.W.Frag} {as : List Addr} {H : Hp}
mutual
theorem Dx.dp1 : ∀ (d : D) (v : V) (p : PyData), Dx K as H v d → d.py = some p → Dp K H v p
  | .non, _, _, h, e => by
    cases h
    have e2 : some PyData.none = some _ := e
    cases e2
    exact .non
  | .bl b, _, _, h, e => by
    cases h
    have e2 : some (PyData.bool b) = some _ := e
    cases e2
    exact .bl b
  | .int b, _, _, h, e => by
    cases h
    have e2 : some (PyData.int b) = some _ := e
    cases e2
    exact .int b
  | .str b, _, _, h, e => by
    cases h
    have e2 : some (PyData.str b) = some _ := e
    cases e2
    exact .str b
  | .lst ds, _, p, h, e => by
    cases h with
    | lst hl hr =>
      have e2 : (D.pys ds).map PyData.list = some p := e
      obtain ⟨ps, q, rfl⟩ := Option.map_eq_some_iff.mp e2
      exact .lst hl.sq (DxA.dp1 ds _ ps hr q)
  | .tup ds, _, p, h, e => by
    cases h with
    | tup hl hr =>
      have e2 : (D.pys ds).map PyData.tuple = some p := e
      obtain ⟨ps, q, rfl⟩ := Option.map_eq_some_iff.mp e2
      exact .tup hl.sq (DxA.dp1 ds _ ps hr q)
  | .dk _, _, p, _, e => by
    have e2 : (none : Option PyData) = some p := e
    cases e2
  | .ob _ _, _, p, _, e => by
    have e2 : (none : Option PyData) = some p := e
    cases e2
  | .xo _ _, _, p, _, e => by
    have e2 : (none : Option PyData) = some p := e
    cases e2
theorem DxA.dp1 : ∀ (ds : List D) (vs : List V) (ps : List PyData), DxA K as H vs ds → D.pys ds = some ps → DpAll K H vs ps
  | [], _, ps, h, e => by
    cases h
    have e2 : some [] = some ps := e
    cases e2
    exact .nil
  | d :: ds, _, ps, h, e => by
    cases h with
    | cons h r =>
      have e2 : ((D.py d).bind fun p => (D.pys ds).map fun ps => p :: ps) = some ps := e
      obtain ⟨p, q1, q2⟩ := Option.bind_eq_some_iff.mp e2
      obtain ⟨qs, q3, q4⟩ := Option.map_eq_some_iff.mp q2
      subst q4
      exact .cons (Dx.dp1 d _ p h q1) (DxA.dp1 ds _ qs r q3)
end
theorem Dx.dp {v : V} {d : D} {p : PyData} (h : Dx K as H v d) (e : d.py = some p) : Dp K H v p := Dx.dp1 d v p h e
end

/-! ### promises over data -/
abbrev Xa := Addr → List (Str × D) → Os → Prop
abbrev FD := List Sv → Os → (D → Os → Prop) → Xa → Prop
/-- the promise: from the arguments' data and the store to the answer's -/
def spD (K : PySem.W.Frag) (f : FD) : Sp := fun vs H Q E => ∃ (as : List Addr) (os : Os) (ds : List Sv) (QA : D → Os → Prop) (EA : Xa), Ro K as H os ∧ SvA K as H vs ds ∧ f ds os QA EA ∧
  (∀ v H' d os', Go as H H' → Ro K as H' os' → Dx K as H' v d → QA d os' → Q v H') ∧
  (∀ C dd H' fs fds os', Go as H H' → Ro K as H' os' → H dd = none → H' dd = some (.xd fs) → DxF K as H' fs fds → EA C fds os' → E (.ref C) (some dd) H')
section
variable {K : PySem.W.Frag} {as bs : List Addr} {H H' : Hp} {os os' : Os}
/-- back to the caller's things -/
theorem Ro.back (s : Stp as H bs H') (n : as.length = os.length) (R : Ro K bs H' os') : Ro K as H' (os'.take os.length) := by
  obtain ⟨nw, e, _⟩ := s.pre
  have hl : os.length ≤ os'.length := by rw [← R.len, ← n, e, List.length_append]; omega
  refine ⟨?_, by rw [n, List.length_take]; omega, fun k a ob h1 h2 => ?_⟩
  · have q := R.nd
    rw [e] at q
    exact (List.nodup_append.mp q).1
  · have hk : k < as.length := (List.getElem?_eq_some_iff.mp h1).1
    have h1' : bs[k]? = some a := by rw [e, List.getElem?_append_left hk]; exact h1
    have h2' : os'[k]? = some ob := by rw [List.getElem?_take_of_lt (by omega)] at h2; exact h2
    exact (R.own k a ob h1' h2').way (Way.of_sub s.sub) fun _ z => z
/-- what a return hands out -/
def RetOk (n : Nat) (QA : D → Os → Prop) : Sv → Os → Prop := fun x os' => match x with
  | .d d => QA d (os'.take n)
  | .o k => n ≤ k ∧ ∃ xs, os'[k]? = some (.ml xs) ∧ QA (.lst xs) (os'.take n)
  | .fn _ _ => False
theorem ret_back {QA : D → Os → Prop} {v : V} {x : Sv} {Q : VK} (s : Stp as H bs H') (n : as.length = os.length) (R : Ro K bs H' os') (r : SvR K bs H' v x) (q : RetOk os.length QA x os')
    (k : ∀ v H' d os', Go as H H' → Ro K as H' os' → Dx K as H' v d → QA d os' → Q v H') : Q v H' := by
  cases x with
  | d d => exact k v H' d _ s.go (R.back s n) (Dx.way (Way.of_sub s.sub) r) q
  | o j =>
    obtain ⟨hj, xs, e, q⟩ := q
    obtain ⟨a, ea, rfl⟩ := r
    obtain ⟨vs, h1, h2⟩ := R.own j a _ ea e
    obtain ⟨nw, eb, hf⟩ := s.pre
    have ha : a ∉ as := fun z => by
      obtain ⟨i, hi, ei⟩ := List.mem_iff_getElem.mp z
      have h3 : bs[i]? = some a := by rw [eb, List.getElem?_append_left hi, List.getElem?_eq_getElem hi, ei]
      have h4 : i = j := by
        obtain ⟨l1, m1⟩ := List.getElem?_eq_some_iff.mp h3
        obtain ⟨l2, m2⟩ := List.getElem?_eq_some_iff.mp ea
        exact (List.getElem_inj R.nd).mp (m1.trans m2.symm)
      omega
    exact k _ H' _ _ s.go (R.back s n) (.lst (.inl ⟨ha, .inl h1⟩) (h2.way (Way.of_sub s.sub))) q
  | fn f r => exact q.elim
def startS (N : List Str) (ds : List Sv) : Sl := ds.map some ++ List.replicate (N.length - ds.length) none
theorem SvA.length : ∀ {vs : List V} {ds : List Sv}, SvA K as H vs ds → vs.length = ds.length
  | _, _, .nil => rfl
  | _, _, .cons _ r => by rw [List.length_cons, List.length_cons, SvA.length r]
theorem SvA.get : ∀ {v : List V} {d : List Sv} {i : Nat} {x : Sv}, SvA K as H v d → d[i]? = some x → ∃ u, v[i]? = some u ∧ SvR K as H u x
  | _, _, _, _, .nil, e => by simp at e
  | _, _, 0, _, .cons h _, e => by simp at e; subst e; exact ⟨_, rfl, h⟩
  | _, _, i + 1, x, .cons _ r, e => by
    obtain ⟨u, h1, h2⟩ := SvA.get (i := i) (x := x) r (by simpa using e)
    exact ⟨u, by simpa using h1, h2⟩
theorem re_start {N : List Str} {vs : List V} {ds : List Sv} (R : Ro K as H os) (r : SvA K as H vs ds) : Re K as H (L2.start N vs) ⟨startS N ds, os⟩ := by
  have hl := r.length
  refine ⟨R, by unfold L2.start startS; simp [hl], fun i d h => ?_⟩
  have h' : (startS N ds)[i]? = some (some d) := h
  unfold startS at h'
  by_cases hi : i < ds.length
  · rw [List.getElem?_append_left (by simpa using hi), List.getElem?_map] at h'
    cases e : ds[i]? with
    | none => rw [e] at h'; cases h'
    | some y =>
      rw [e] at h'
      cases h'
      obtain ⟨u, h1, h2⟩ := r.get e
      refine ⟨u, ?_, h2⟩
      unfold L2.start
      rw [List.getElem?_append_left (by simpa [hl] using hi), List.getElem?_map, h1]
      rfl
  · rw [List.getElem?_append_right (by simpa using hi), List.getElem?_replicate] at h'
    split at h' <;> cases h'
/-- a body's abstract reading is a reading of the promise -/
theorem read_of {N : List Str} {f : FD} {t : TS} {vs : List V} {Q : VK} {E : XK} (h : spD K f vs H Q E)
    (w : ∀ ds os QA EA, f ds os QA EA → W K ⟨fun cls d _ H => E cls d H, fun C fds S => EA C fds (S.os.take os.length)⟩ t { nx := fun S => RetOk os.length QA (.d .non) S.os, rt := RetOk os.length QA } ⟨startS N ds, os⟩) : t { nx := fun _ H' => Q .non H', rt := Q } (L2.start N vs) H := by
  obtain ⟨as, os, ds, QA, EA, R, r, hf, kq, ke⟩ := h
  refine w ds os QA EA hf as H _ _ (re_start R r) (fun bs H' σ' S' C dd fs fds s R' n e r' z => ?_) (fun bs H' σ' S' s R' q => ?_) (fun bs H' v d os' s R' r' q => ?_) (fun _ _ _ _ _ _ q => q.elim) fun _ _ _ _ _ _ q => q.elim
  · exact ke C dd H' fs fds _ s.go (R'.o.back s R.len) n e (DxF.way (Way.of_sub s.sub) r') z
  · exact ret_back s R.len R'.o (v := .non) (x := .d .non) Dx.non q kq
  · exact ret_back s R.len R' r' q kq
end

/-! ### a call of a def -/
section
variable {K : PySem.W.Frag} {X : Xc} {S : Sa} {Q : Sv → Os → Prop} {ta : TA} {f : FD}
theorem SvA.nilr {as : List Addr} {H : Hp} : ∀ {vs : List V} {ds : List Sv}, SvA K as H vs ds → SvA K as H (vs ++ []) ds := fun h => by
  rw [List.append_nil]
  exact h
theorem ew_call (h : AW K X ta S fun ds os => f ds os (fun d os' => Q (.d d) os') fun _ _ _ => False) : EW K X (tCall (spD K f) [] E0 ta) S Q := fun as H σ Q' R x k =>
  h as H σ _ R x fun vs H1 ds os1 g1 R1 r1 q1 => ⟨as, os1, ds, _, _, R1, r1.nilr, q1, fun v H2 d os2 g2 R2 r2 q2 => k v H2 (.d d) os2 (g1.trans g2) R2 r2 q2, fun _ _ _ _ _ _ _ _ _ _ _ z => z.elim⟩
/-- one that may raise -/
theorem ew_callS {wx : WX} {xe : Addr → List (Str × D) → Sa → Prop} (h : AW K ⟨wx, xe⟩ ta S fun ds os => f ds os (fun d os' => Q (.d d) os') fun C fds os' => xe C fds ⟨S.s, os'⟩) : EW K ⟨wx, xe⟩ (tCallS (spD K f) (WE wx) ta) S Q := fun as H σ Q' R x k =>
  h as H σ _ R x fun vs H1 ds os1 g1 R1 r1 q1 => ⟨as, os1, ds, _, _, R1, r1, q1, fun v H2 d os2 g2 R2 r2 q2 => k v H2 (.d d) os2 (g1.trans g2) R2 r2 q2,
    fun C dd H2 fs fds os2 g2 R2 n2 e2 r2 z => x H2 C dd fs fds os2 (g1.trans g2) R2 (g1.free (R1.notin n2) n2) e2 r2 z⟩
end

/-! ### operations on values -/
section
variable {K : PySem.W.Frag} {os : Os} {Q : Sv → Os → Prop}
theorem bw_pure {r : R2} {x y : Sv} {z : D} (h : ∀ as H v u (Q' : VK), Ro K as H os → SvR K as H v x → SvR K as H u y → (∀ v, Dx K as H v z → Q' v H) → r v u H Q') (q : Q (.d z) os) : BW K r x y os Q :=
  fun as H v u Q' R rx ry k => h as H v u Q' R rx ry fun w rw => k w H (.d z) os (Go.refl _ _) R rw q
theorem cw_pure {r : List V → Hp → VK → Prop} {xs : List Sv} {z : D} (h : ∀ as H vs (Q' : VK), Ro K as H os → SvA K as H vs xs → (∀ v, Dx K as H v z → Q' v H) → r vs H Q') (q : Q (.d z) os) : CW K r xs os Q :=
  fun as H vs Q' R r k => h as H vs Q' R r fun w rw => k w H (.d z) os (Go.refl _ _) R rw q
/-- what gives a new object -/
theorem cw_new {r : List V → Hp → VK → Prop} {xs : List Sv} {z : D}
    (h : ∀ as H vs (Q' : VK), Ro K as H os → SvA K as H vs xs → (∀ p o, H p = none → Dx K as (upd H p o) (.ref p) z → Q' (.ref p) (upd H p o)) → (∀ v, Dx K as H v z → Q' v H) → r vs H Q') (q : Q (.d z) os) : CW K r xs os Q :=
  fun as H vs Q' R r k => h as H vs Q' R r (fun p o hp rw => k (.ref p) (upd H p o) (.d z) os (Go.new hp) (R.new hp) rw q) fun w rw => k w H (.d z) os (Go.refl _ _) R rw q
theorem bw_new {r : R2} {x y : Sv} {z : D}
    (h : ∀ as H v u (Q' : VK), Ro K as H os → SvR K as H v x → SvR K as H u y → (∀ p o, H p = none → Dx K as (upd H p o) (.ref p) z → Q' (.ref p) (upd H p o)) → (∀ v, Dx K as H v z → Q' v H) → r v u H Q') (q : Q (.d z) os) : BW K r x y os Q :=
  fun as H v u Q' R rx ry k => h as H v u Q' R rx ry (fun p o hp rw => k (.ref p) (upd H p o) (.d z) os (Go.new hp) (R.new hp) rw q) fun w rw => k w H (.d z) os (Go.refl _ _) R rw q
/-- ints -/
theorem bw_i0 {g : Int → Int → Int} {i j : Int} (q : Q (.d (.int (g i j))) os) : BW K (rI0 fun i j => .int (g i j)) (.d (.int i)) (.d (.int j)) os Q :=
  bw_pure (fun as H v u Q' R rx ry k => by
    cases rx
    cases ry
    exact ⟨i, j, rfl, rfl, k _ (.int _)⟩) q
theorem bw_ib {g : Int → Int → Bool} {i j : Int} (q : Q (.d (.bl (g i j))) os) : BW K (rI0 fun i j => .bl (g i j)) (.d (.int i)) (.d (.int j)) os Q :=
  bw_pure (fun as H v u Q' R rx ry k => by
    cases rx
    cases ry
    exact ⟨i, j, rfl, rfl, k _ (.bl _)⟩) q
theorem bw_i {C : Int → Int → Prop} {g : Int → Int → Int} {i j : Int} (c : C i j) (q : Q (.d (.int (g i j))) os) : BW K (rI C fun i j => .int (g i j)) (.d (.int i)) (.d (.int j)) os Q :=
  bw_pure (fun as H v u Q' R rx ry k => by
    cases rx
    cases ry
    exact ⟨i, j, rfl, rfl, c, k _ (.int _)⟩) q
/-- texts -/
def rCatS : R2 := fun x y H Q => ∃ i j, x = .str i ∧ y = .str j ∧ i.length + j.length ≤ sizeLine ∧ Q (.str (i ++ j)) H
theorem bw_catS {i j : Str} (c : i.length + j.length ≤ sizeLine) (q : Q (.d (.str (i ++ j))) os) : BW K rCatS (.d (.str i)) (.d (.str j)) os Q :=
  bw_pure (fun as H v u Q' R rx ry k => by
    cases rx
    cases ry
    exact ⟨i, j, rfl, rfl, c, k _ (.str _)⟩) q
theorem bw_inS {c : Nat} {z : Str} (q : Q (.d (.bl (decide (c ∈ z.cps.toList)))) os) : BW K rInS (.d (.str ⟨#[c]⟩)) (.d (.str z)) os Q :=
  bw_pure (fun as H v u Q' R rx ry k => by
    cases rx
    cases ry
    exact ⟨c, z, rfl, rfl, k _ (.bl _)⟩) q
theorem bw_notInS {c : Nat} {z : Str} (q : Q (.d (.bl (!decide (c ∈ z.cps.toList)))) os) : BW K rNotInS (.d (.str ⟨#[c]⟩)) (.d (.str z)) os Q :=
  bw_pure (fun as H v u Q' R rx ry k => by
    cases rx
    cases ry
    exact ⟨c, z, rfl, rfl, k _ (.bl _)⟩) q
theorem bw_eqS {i j : Str} (q : Q (.d (.bl (decide (i = j)))) os) : BW K rEq (.d (.str i)) (.d (.str j)) os Q :=
  bw_pure (fun as H v u Q' R rx ry k => by
    cases rx
    cases ry
    have e : decide (V.str i = V.str j) = decide (i = j) := by simp
    exact ⟨rfl, by rw [e]; exact k _ (.bl _)⟩) q
theorem bw_neS {i j : Str} (q : Q (.d (.bl (!decide (i = j)))) os) : BW K rNe (.d (.str i)) (.d (.str j)) os Q :=
  bw_pure (fun as H v u Q' R rx ry k => by
    cases rx
    cases ry
    have e : decide (V.str i = V.str j) = decide (i = j) := by simp
    exact ⟨rfl, by rw [e]; exact k _ (.bl _)⟩) q
theorem bw_eqI {i j : Int} (q : Q (.d (.bl (decide (i = j)))) os) : BW K rEq (.d (.int i)) (.d (.int j)) os Q :=
  bw_pure (fun as H v u Q' R rx ry k => by
    cases rx
    cases ry
    have e : decide (V.int i = V.int j) = decide (i = j) := by simp
    exact ⟨rfl, by rw [e]; exact k _ (.bl _)⟩) q
theorem bw_neI {i j : Int} (q : Q (.d (.bl (!decide (i = j)))) os) : BW K rNe (.d (.int i)) (.d (.int j)) os Q :=
  bw_pure (fun as H v u Q' R rx ry k => by
    cases rx
    cases ry
    have e : decide (V.int i = V.int j) = decide (i = j) := by simp
    exact ⟨rfl, by rw [e]; exact k _ (.bl _)⟩) q
/-- data at any depth -/
theorem bw_eqD {x y : D} {p r : PyData} (hx : x.py = some p) (hy : y.py = some r) (sp : SeqAt.shaped p = true) (sr : SeqAt.shaped r = true) (q : Q (.d (.bl (PyData.eqv p r))) os) : BW K (rEqD K) (.d x) (.d y) os Q :=
  bw_pure (fun as H v u Q' R rx ry k => ⟨p, r, Dx.dp rx hx, Dx.dp ry hy, sp, sr, k _ (.bl _)⟩) q
theorem bw_neD {x y : D} {p r : PyData} (hx : x.py = some p) (hy : y.py = some r) (sp : SeqAt.shaped p = true) (sr : SeqAt.shaped r = true) (q : Q (.d (.bl (!PyData.eqv p r))) os) : BW K (rNeD K) (.d x) (.d y) os Q :=
  bw_pure (fun as H v u Q' R rx ry k => ⟨p, r, Dx.dp rx hx, Dx.dp ry hy, sp, sr, k _ (.bl _)⟩) q
/-- an item -/
theorem DxA.atI {as : List Addr} {H : Hp} {vs : List V} {ds : List D} {i : Int} {z : D} (r : DxA K as H vs ds) (h : L2.atI ds i = some z) : ∃ u, L2.atI vs i = some u ∧ Dx K as H u z := by
  unfold L2.atI at h ⊢
  rw [r.length]
  cases e : ixN ds.length i with
  | none => rw [e] at h; cases h
  | some j =>
    rw [e] at h
    exact r.get h
theorem bw_ixL {xs : List D} {i : Int} {z : D} (h : L2.atI xs i = some z) (q : Q (.d z) os) : BW K (rIxL K) (.d (.lst xs)) (.d (.int i)) os Q :=
  bw_pure (fun as H v u Q' R rx ry k => by
    cases rx with
    | lst hl hr =>
      cases ry
      obtain ⟨u, e, r⟩ := hr.atI h
      exact ⟨_, _, i, u, rfl, rfl, hl.sq, e, k _ r⟩) q
theorem bw_ixT {xs : List D} {i : Int} {z : D} (h : L2.atI xs i = some z) (q : Q (.d z) os) : BW K (rIxT K) (.d (.tup xs)) (.d (.int i)) os Q :=
  bw_pure (fun as H v u Q' R rx ry k => by
    cases rx with
    | tup hl hr =>
      cases ry
      obtain ⟨u, e, r⟩ := hr.atI h
      exact ⟨_, _, i, u, rfl, rfl, hl.sq, e, k _ r⟩) q
theorem bw_ixS {s : Str} {i : Int} {c : Nat} (hz : s.length ≤ sizeLine) (h : L2.atI s.cps.toList i = some c) (q : Q (.d (.str ⟨#[c]⟩)) os) : BW K rIxS (.d (.str s)) (.d (.int i)) os Q :=
  bw_pure (fun as H v u Q' R rx ry k => by
    cases rx
    cases ry
    exact ⟨s, i, c, rfl, rfl, hz, h, k _ (.str _)⟩) q
/-- lengths -/
def rLen (K : PySem.W.Frag) : List V → Hp → VK → Prop := fun xs H Q => ∃ p ys, xs = [.ref p] ∧ (SqL K H p ys ∨ SqT K H p ys) ∧ Q (.int ys.length) H
def rLenT : List V → Hp → VK → Prop := fun xs H Q => ∃ z, xs = [.str z] ∧ z.length ≤ sizeLine ∧ Q (.int z.length) H
theorem cw_lenL {xs : List D} (q : Q (.d (.int (xs.length : Int))) os) : CW K (rLen K) [.d (.lst xs)] os Q :=
  cw_pure (fun as H vs Q' R r k => by
    cases r with
    | cons h t =>
      cases t
      cases h with
      | lst hl hr =>
        refine ⟨_, _, rfl, .inl hl.sq, ?_⟩
        rw [hr.length]
        exact k _ (.int _)) q
theorem cw_lenU {xs : List D} (q : Q (.d (.int (xs.length : Int))) os) : CW K (rLen K) [.d (.tup xs)] os Q :=
  cw_pure (fun as H vs Q' R r k => by
    cases r with
    | cons h t =>
      cases t
      cases h with
      | tup hl hr =>
        refine ⟨_, _, rfl, .inr hl.sq, ?_⟩
        rw [hr.length]
        exact k _ (.int _)) q
theorem cw_lenS {z : Str} (hz : z.length ≤ sizeLine) (q : Q (.d (.int (z.length : Int))) os) : CW K rLenT [.d (.str z)] os Q :=
  cw_pure (fun as H vs Q' R r k => by
    cases r with
    | cons h t =>
      cases t
      cases h
      exact ⟨z, rfl, hz, k _ (.int _)⟩) q
/-- tuple(a list), list(..) -/
def rTupOf (K : PySem.W.Frag) : List V → Hp → VK → Prop := fun xs H Q => ∃ p ys, xs = [.ref p] ∧ ((SqL K H p ys ∧ ∀ l, H l = none → Q (.ref l) (upd H l (.tup ys))) ∨ (SqT K H p ys ∧ Q (.ref p) H))
theorem dx_newT {as : List Addr} {H : Hp} {p : Addr} {vs : List V} {ds : List D} (R : Ro K as H os) (hp : H p = none) (r : DxA K as H vs ds) : Dx K as (upd H p (.tup vs)) (.ref p) (.tup ds) :=
  .tup (.inl ⟨R.notin hp, .inl upd_same⟩) (r.way (Way.of_go (Go.new hp)))
theorem dx_newL {as : List Addr} {H : Hp} {p : Addr} {vs : List V} {ds : List D} (R : Ro K as H os) (hp : H p = none) (r : DxA K as H vs ds) : Dx K as (upd H p (.lst vs)) (.ref p) (.lst ds) :=
  .lst (.inl ⟨R.notin hp, .inl upd_same⟩) (r.way (Way.of_go (Go.new hp)))
theorem cw_tupL {xs : List D} (q : Q (.d (.tup xs)) os) : CW K (rTupOf K) [.d (.lst xs)] os Q :=
  cw_new (fun as H vs Q' R r k1 k2 => by
    cases r with
    | cons h t =>
      cases t
      cases h with
      | lst hl hr => exact ⟨_, _, rfl, .inl ⟨hl.sq, fun l hl => k1 l _ hl (dx_newT R hl hr)⟩⟩) q
theorem cw_tupU {xs : List D} (q : Q (.d (.tup xs)) os) : CW K (rTupOf K) [.d (.tup xs)] os Q :=
  cw_new (fun as H vs Q' R r k1 k2 => by
    cases r with
    | cons h t =>
      cases t
      cases h with
      | tup hl hr => exact ⟨_, _, rfl, .inr ⟨hl.sq, k2 _ (.tup hl hr)⟩⟩) q
def rListOf (K : PySem.W.Frag) : List V → Hp → VK → Prop := fun xs H Q => ∃ p ys, xs = [.ref p] ∧ (SqL K H p ys ∨ SqT K H p ys) ∧ ∀ l, H l = none → Q (.ref l) (upd H l (.lst ys))
theorem cw_lstL {xs : List D} (q : Q (.d (.lst xs)) os) : CW K (rListOf K) [.d (.lst xs)] os Q :=
  cw_new (fun as H vs Q' R r k1 k2 => by
    cases r with
    | cons h t =>
      cases t
      cases h with
      | lst hl hr => exact ⟨_, _, rfl, .inl hl.sq, fun l hl => k1 l _ hl (dx_newL R hl hr)⟩) q
theorem cw_lstU {xs : List D} (q : Q (.d (.lst xs)) os) : CW K (rListOf K) [.d (.tup xs)] os Q :=
  cw_new (fun as H vs Q' R r k1 k2 => by
    cases r with
    | cons h t =>
      cases t
      cases h with
      | tup hl hr => exact ⟨_, _, rfl, .inr hl.sq, fun l hl => k1 l _ hl (dx_newL R hl hr)⟩) q
/-- abs, min, max, int -/
def rAbs : List V → Hp → VK → Prop := fun xs H Q => ∃ i, xs = [.int i] ∧ Q (.int (if i < 0 then -i else i)) H
theorem cw_abs {i : Int} (q : Q (.d (.int (if i < 0 then -i else i))) os) : CW K rAbs [.d (.int i)] os Q :=
  cw_pure (fun as H vs Q' R r k => by
    cases r with
    | cons h t =>
      cases t
      cases h
      exact ⟨i, rfl, k _ (.int _)⟩) q
def rMin2 : List V → Hp → VK → Prop := fun xs H Q => ∃ i j, xs = [.int i, .int j] ∧ Q (.int (if j < i then j else i)) H
theorem cw_min2 {i j : Int} (q : Q (.d (.int (if j < i then j else i))) os) : CW K rMin2 [.d (.int i), .d (.int j)] os Q :=
  cw_pure (fun as H vs Q' R r k => by
    cases r with
    | cons h t =>
      cases t with
      | cons h2 t =>
        cases t
        cases h
        cases h2
        exact ⟨i, j, rfl, k _ (.int _)⟩) q
def rInt1 : List V → Hp → VK → Prop := fun xs H Q => (∃ i, xs = [.int i] ∧ Q (.int i) H) ∨ ∃ k, xs = [.bl k] ∧ Q (.int (if k then 1 else 0)) H
theorem cw_intI {i : Int} (q : Q (.d (.int i)) os) : CW K rInt1 [.d (.int i)] os Q :=
  cw_pure (fun as H vs Q' R r k => by
    cases r with
    | cons h t =>
      cases t
      cases h
      exact .inl ⟨i, rfl, k _ (.int _)⟩) q
theorem cw_intB {b : Bool} (q : Q (.d (.int (if b then 1 else 0))) os) : CW K rInt1 [.d (.bl b)] os Q :=
  cw_pure (fun as H vs Q' R r k => by
    cases r with
    | cons h t =>
      cases t
      cases h
      exact .inr ⟨b, rfl, k _ (.int _)⟩) q
end
section
variable {X : Cx}
theorem op_addS : OpR X (binaryOp .Add) rCatS := op_add_str
theorem call_lenA : CallR X (.builtin "len") (rLen X.K) := call_len_seq
theorem call_lenS1 : CallR X (.builtin "len") rLenT := call_len_str
theorem call_tupA : CallR X (.type "tuple") (rTupOf X.K) := call_tuple_of
theorem call_lstA : CallR X (.type "list") (rListOf X.K) := call_list_of
theorem call_absA (hc : X.calm = true) : CallR X (.builtin "abs") rAbs := by first | exact call_abs | exact call_abs hc
theorem call_min2A (hc : X.calm = true) : CallR X (.builtin "min") rMin2 := call_min2 hc
theorem call_intA : CallR X (.type "int") rInt1 := call_int1
end

/-! ### displays, slices -/
section
variable {K : PySem.W.Frag} {X : Xc} {S : Sa} {Q : Sv → Os → Prop} {ta : TA} {te : TE} {tl th : TO}
inductive AllD : List Sv → List D → Prop
  | nil : AllD [] []
  | cons {x : D} {xs : List Sv} {ds : List D} : AllD xs ds → AllD (.d x :: xs) (x :: ds)
theorem AllD.dx {as : List Addr} {H : Hp} : ∀ {vs : List V} {xs : List Sv} {ds : List D}, AllD xs ds → SvA K as H vs xs → DxA K as H vs ds
  | _, _, _, .nil, .nil => .nil
  | _, _, _, .cons a, .cons h r => .cons h (AllD.dx a r)
theorem ew_lst (h : AW K X ta S fun xs os => ∃ ds, AllD xs ds ∧ ds.length ≤ sizeLine ∧ Q (.d (.lst ds)) os) : EW K X (tLst ta) S Q := fun as H σ Q' R x k =>
  h as H σ _ R x fun vs H1 xs os1 g1 R1 r1 ⟨ds, a, hl, q⟩ => ⟨by rw [(a.dx r1).length]; exact hl, fun p hp => k (.ref p) _ (.d (.lst ds)) os1 (g1.trans (Go.new hp)) (R1.new hp) (dx_newL R1 hp (a.dx r1)) q⟩
theorem ew_tup (h : AW K X ta S fun xs os => ∃ ds, AllD xs ds ∧ ds.length ≤ sizeLine ∧ Q (.d (.tup ds)) os) : EW K X (tTup ta) S Q := fun as H σ Q' R x k =>
  h as H σ _ R x fun vs H1 xs os1 g1 R1 r1 ⟨ds, a, hl, q⟩ => ⟨by rw [(a.dx r1).length]; exact hl, fun p hp => k (.ref p) _ (.d (.tup ds)) os1 (g1.trans (Go.new hp)) (R1.new hp) (dx_newT R1 hp (a.dx r1)) q⟩
theorem ow_none {Q : Option Int → Os → Prop} (q : Q none S.os) : OW K X tNoPart S Q := fun as H σ Q' R x k => k none H S.os (Go.refl _ _) R.o q
theorem ow_some {Q : Option Int → Os → Prop} (h : EW K X te S fun x os => ∃ i, x = .d (.int i) ∧ Q (some i) os) : OW K X (tPart te) S Q := fun as H σ Q' R x k =>
  h as H σ _ R x fun v H1 d os1 g1 R1 r1 ⟨i, e, q⟩ => by
    subst e
    cases r1
    exact ⟨i, rfl, k (some i) H1 os1 g1 R1 q⟩
def SW (K : PySem.W.Frag) (r : V → Option Int → Option Int → Hp → VK → Prop) (x : Sv) (lo hi : Option Int) (os : Os) (Q : Sv → Os → Prop) : Prop :=
  ∀ as H v (Q' : VK), Ro K as H os → SvR K as H v x → (∀ z H' d os', Go as H H' → Ro K as H' os' → SvR K as H' z d → Q d os' → Q' z H') → r v lo hi H Q'
theorem ew_sl {r : V → Option Int → Option Int → Hp → VK → Prop} (h : EW K X te S fun x os1 => OW K X tl ⟨S.s, os1⟩ fun lo os2 => OW K X th ⟨S.s, os2⟩ fun hi os3 => SW K r x lo hi os3 Q) : EW K X (tSl r te tl th) S Q := fun as H σ Q' R x k =>
  h as H σ _ R x fun v H1 d os1 g1 R1 r1 q1 => q1 as H1 σ _ (R.go g1 R1) (x.go g1 R1) fun lo H2 os2 g2 R2 q2 => q2 as H2 σ _ (R.go (g1.trans g2) R2) (x.go (g1.trans g2) R2) fun hi H3 os3 g3 R3 q3 =>
    q3 as H3 v Q' R3 (r1.go (g2.trans g3)) fun z H4 e os4 g4 R4 r4 q4 => k z H4 e os4 (((g1.trans g2).trans g3).trans g4) R4 r4 q4
theorem sw_S {z : Str} {lo hi : Option Int} {os : Os} (hz : z.length ≤ sizeLine) (q : Q (.d (.str (cutS z lo hi))) os) : SW K rSlS (.d (.str z)) lo hi os Q := fun as H v Q' R r k => by
  cases r
  exact ⟨z, rfl, hz, k _ H (.d (.str _)) os (Go.refl _ _) R (Dx.str _) q⟩
def cutD (xs : List D) (lo hi : Option Int) : List D := (xs.drop (HT.sIx xs.length 0 lo)).take (HT.sIx xs.length xs.length hi - HT.sIx xs.length 0 lo)
theorem cut_dx {as : List Addr} {H : Hp} {vs : List V} {ds : List D} (r : DxA K as H vs ds) (lo hi : Option Int) : DxA K as H (cutV vs lo hi) (cutD ds lo hi) := by
  unfold cutV cutD
  rw [r.length]
  exact (r.drop _).take _
theorem sw_L {xs : List D} {lo hi : Option Int} {os : Os} (q : Q (.d (.lst (cutD xs lo hi))) os) : SW K (rSlL K) (.d (.lst xs)) lo hi os Q := fun as H v Q' R r k => by
  cases r with
  | lst hl hr => exact ⟨_, _, rfl, hl.sq, fun p hp => k _ _ (.d (.lst _)) os (Go.new hp) (R.new hp) (dx_newL R hp (cut_dx hr lo hi)) q⟩
end
end Br

/-! BrC: what is walked, targets, loops, comprehensions, the store's dicts and lists. -/
namespace Br
open PySem L2

/-! ### what is walked -/
/-- J walks over ds, whatever comes later -/
def ItD (K : PySem.W.Frag) (J : It) (as : List Addr) (H : Hp) (ds : List D) : Prop :=
  ∀ bs H2 os, Stp as H bs H2 → Ro K bs H2 os → ∀ i, (∀ d, ds[i]? = some d → J.go i H2 ∧ ∀ x H3, J.yld i H2 x H3 → Go bs H2 H3 ∧ Ro K bs H3 os ∧ Dx K bs H3 x d) ∧ (ds.length ≤ i → J.stop i H2)
def IW (K : PySem.W.Frag) (X : Xc) (wi : TI) (S : Sa) (Q : List D → Os → Prop) : Prop :=
  ∀ as H σ (R' : It → Hp → Prop), Re K as H σ S → XH K X as H σ S.s → (∀ J H' ds os', Go as H H' → Ro K as H' os' → ItD K J as H' ds → Q ds os' → R' J H') → wi σ H R'
section
variable {K : PySem.W.Frag} {X : Xc} {S : Sa} {tl : TE} {ta : TA} {Q : List D → Os → Prop}
theorem iw_list (h : EW K X tl S fun x os => ∃ ds, x = .d (.lst ds) ∧ Q ds os) : IW K X (iList K tl) S Q := fun as H σ R' R x k =>
  h as H σ _ R x fun v H1 d os1 g1 R1 r1 ⟨ds, e, q⟩ => by
    subst e
    cases r1 with
    | @lst a xs _ hl hr =>
      refine ⟨a, rfl, ⟨xs, hl.sq⟩, k (Itl K a) H1 ds os1 g1 R1 (fun bs H2 os s R2 i => ?_) q⟩
      have hl2 := s.way.l _ _ hl
      have hr2 := hr.way s.way
      refine ⟨fun d hd => ?_, fun hn => ⟨xs, hl2.sq, by rw [hr.length]; exact hn⟩⟩
      obtain ⟨u, e1, e2⟩ := hr2.get hd
      refine ⟨⟨xs, u, hl2.sq, e1⟩, fun y H3 hy => ?_⟩
      obtain ⟨rfl, hy⟩ := hy
      have z := hy xs hl2.sq
      rw [e1] at z
      cases z
      exact ⟨Go.refl _ _, R2, e2⟩
theorem iw_tup (h : EW K X tl S fun x os => ∃ ds, x = .d (.tup ds) ∧ Q ds os) : IW K X (iTup K tl) S Q := fun as H σ R' R x k =>
  h as H σ _ R x fun v H1 d os1 g1 R1 r1 ⟨ds, e, q⟩ => by
    subst e
    cases r1 with
    | @tup a xs _ hl hr =>
      refine ⟨a, rfl, ⟨xs, hl.sq⟩, k (Itt K a) H1 ds os1 g1 R1 (fun bs H2 os s R2 i => ?_) q⟩
      have hl2 := s.way.t _ _ hl
      have hr2 := hr.way s.way
      refine ⟨fun d hd => ?_, fun hn => ⟨xs, hl2.sq, by rw [hr.length]; exact hn⟩⟩
      obtain ⟨u, e1, e2⟩ := hr2.get hd
      refine ⟨⟨xs, u, hl2.sq, e1⟩, fun y H3 hy => ?_⟩
      obtain ⟨rfl, hy⟩ := hy
      have z := hy xs hl2.sq
      rw [e1] at z
      cases z
      exact ⟨Go.refl _ _, R2, e2⟩
/-- lo, lo + c, .. -/
def rngD (lo c : Int) (n : Nat) : List D := (List.range n).map fun i => D.int (lo + (i : Nat) * c)
theorem rngD_get {lo c : Int} {n i : Nat} {d : D} (h : (rngD lo c n)[i]? = some d) : i < n ∧ d = .int (lo + (i : Nat) * c) := by
  unfold rngD at h
  rw [List.getElem?_map] at h
  obtain ⟨j, h1, h2⟩ := Option.map_eq_some_iff.mp h
  obtain ⟨h3, h4⟩ := List.getElem?_eq_some_iff.mp h1
  rw [List.getElem_range] at h4
  rw [List.length_range] at h3
  subst h4
  exact ⟨h3, h2.symm⟩
theorem rngD_len {lo c : Int} {n : Nat} : (rngD lo c n).length = n := by unfold rngD; simp
theorem iw_rng1 (h : AW K X ta S fun xs os => ∃ j : Int, xs = [.d (.int j)] ∧ -(2 ^ 62) ≤ j ∧ j < 2 ^ 62 ∧ Q (rngD 0 1 j.toNat) os) : IW K X (iRng1 ta) S Q := fun as H σ R' R x k =>
  h as H σ _ R x fun vs H1 ds os1 g1 R1 r1 ⟨j, e, h1, h2, q⟩ => by
    subst e
    cases r1 with
    | cons r1 rn =>
      cases rn
      cases r1
      refine ⟨j, rfl, h1, h2, k _ H1 _ os1 g1 R1 (fun bs H2 os s R2 i => ⟨fun d hd => ?_, fun hn => ?_⟩) q⟩
      · obtain ⟨hi, rfl⟩ := rngD_get hd
        refine ⟨hi, fun y H3 hy => ?_⟩
        obtain ⟨rfl, rfl⟩ := hy
        refine ⟨Go.refl _ _, R2, ?_⟩
        rw [Int.mul_one]
        exact .int _
      · rw [rngD_len] at hn
        exact hn
theorem iw_rng2 (h : AW K X ta S fun xs os => ∃ i j : Int, xs = [.d (.int i), .d (.int j)] ∧ (-(2 ^ 62) ≤ i ∧ i < 2 ^ 62 ∧ -(2 ^ 62) ≤ j ∧ j < 2 ^ 62) ∧ Q (rngD i 1 (j - i).toNat) os) : IW K X (iRng2 ta) S Q := fun as H σ R' R x k =>
  h as H σ _ R x fun vs H1 ds os1 g1 R1 r1 ⟨i0, j, e, h1, q⟩ => by
    subst e
    cases r1 with
    | cons r1 rn =>
      cases rn with
      | cons r2 rn =>
        cases rn
        cases r1
        cases r2
        refine ⟨i0, j, rfl, h1, k _ H1 _ os1 g1 R1 (fun bs H2 os s R2 i => ⟨fun d hd => ?_, fun hn => ?_⟩) q⟩
        · obtain ⟨hi, rfl⟩ := rngD_get hd
          refine ⟨hi, fun y H3 hy => ?_⟩
          obtain ⟨rfl, rfl⟩ := hy
          refine ⟨Go.refl _ _, R2, ?_⟩
          rw [Int.mul_one]
          exact .int _
        · rw [rngD_len] at hn
          exact hn
theorem iw_rng3 (h : AW K X ta S fun xs os => ∃ (i j c : Int) (n : Nat), xs = [.d (.int i), .d (.int j), .d (.int c)] ∧ RgC i j c n ∧ Q (rngD i c n) os) : IW K X (iRng3 ta) S Q := fun as H σ R' R x k =>
  h as H σ _ R x fun vs H1 ds os1 g1 R1 r1 ⟨i0, j, c, n, e, h1, q⟩ => by
    subst e
    cases r1 with
    | cons r1 rn =>
      cases rn with
      | cons r2 rn =>
        cases rn with
        | cons r3 rn =>
          cases rn
          cases r1
          cases r2
          cases r3
          refine ⟨i0, j, c, n, rfl, h1, k _ H1 _ os1 g1 R1 (fun bs H2 os s R2 i => ⟨fun d hd => ?_, fun hn => ?_⟩) q⟩
          · obtain ⟨hi, rfl⟩ := rngD_get hd
            refine ⟨hi, fun y H3 hy => ?_⟩
            obtain ⟨rfl, rfl⟩ := hy
            exact ⟨Go.refl _ _, R2, .int _⟩
          · rw [rngD_len] at hn
            exact hn
theorem iw_str (h : EW K X tl S fun x os => ∃ z : Str, x = .d (.str z) ∧ Q (z.cps.toList.map fun c => D.str ⟨#[c]⟩) os) : IW K X (iStr tl) S Q := fun as H σ R' R x k =>
  h as H σ _ R x fun v H1 d os1 g1 R1 r1 ⟨z, e, q⟩ => by
    subst e
    cases r1
    refine ⟨z, rfl, k (Its z) H1 _ os1 g1 R1 (fun bs H2 os s R2 i => ⟨fun d hd => ?_, fun hn => ?_⟩) q⟩
    · rw [List.getElem?_map] at hd
      obtain ⟨c, h1, h2⟩ := Option.map_eq_some_iff.mp hd
      have h1' : z.cps[i]? = some c := by rw [← Array.getElem?_toList]; exact h1
      have hi : i < z.cps.size := (Array.getElem?_eq_some_iff.mp h1').1
      refine ⟨hi, fun y H3 hy => ?_⟩
      obtain ⟨rfl, c', e1, rfl⟩ := hy
      rw [h1'] at e1
      cases e1
      subst h2
      exact ⟨Go.refl _ _, R2, .str _⟩
    · rw [List.length_map, Array.length_toList] at hn
      exact hn
end

/-! ### targets -/
def GW (K : PySem.W.Frag) (g : TG) (d : Sv) (S : Sa) (Q : Sa → Prop) : Prop :=
  ∀ as H σ v (Q' : St → Hp → Prop), Re K as H σ S → SvR K as H v d → (∀ σ' S', Re K as H σ' S' → Q S' → Q' σ' H) → g v σ H Q'
def GsW (K : PySem.W.Frag) (g : TGs) (ds : List D) (S : Sa) (Q : Sa → Prop) : Prop :=
  ∀ as H σ vs (Q' : St → Hp → Prop), Re K as H σ S → DxA K as H vs ds → (∀ σ' S', Re K as H σ' S' → Q S' → Q' σ' H) → g vs σ H Q'
section
variable {K : PySem.W.Frag} {X : Xc} {S : Sa} {Q : Sa → Prop} {g : TG} {gs : TGs}
theorem gw_name {j : Nat} {d : Sv} (q : Q ⟨S.s.set j (some d), S.os⟩) : GW K (gName j) d S Q := fun as H σ v Q' R r k => k _ _ (R.set j r) q
theorem gw_tup {n : Nat} {xs : List D} (hn : xs.length = n) (h : GsW K gs xs S Q) : GW K (gTup K n gs) (.d (.tup xs)) S Q := fun as H σ v Q' R r k => by
  cases r with
  | tup hl hr => exact ⟨_, _, rfl, hl.sq, by rw [hr.length]; exact hn, h as H σ _ Q' R hr k⟩
theorem gs_nil (q : Q S) : GsW K gNil [] S Q := fun as H σ vs Q' R r k => by
  cases r
  exact ⟨rfl, k σ S R q⟩
theorem gs_cons {d : D} {ds : List D} (h : GW K g (.d d) S fun S' => GsW K gs ds S' Q) : GsW K (gCons g gs) (d :: ds) S Q := fun as H σ vs Q' R r k => by
  cases r with
  | cons r1 r2 => exact ⟨_, _, rfl, h as H σ _ _ R r1 fun σ' S' R' q => q as H σ' _ Q' R' r2 k⟩
/-- x, y = e -/
theorem w_asgG {te : TE} {E : Ea} (h : EW K X te S fun d os => GW K g d ⟨S.s, os⟩ E.nx) : W K X (tAsg te g) E S := fun as H σ D R x n r b c =>
  h as H σ _ R (x.h R) fun v H1 d os1 g1 R1 r1 q1 => q1 as H1 σ v _ (R.go g1 R1) r1 fun σ' S' R' q => n as H1 σ' S' (Stp.of_go g1 R1) R' q
theorem w_par {i j : Nat} {ta : TA} {E : Ea} (h : AW K X ta S fun ds os => ∃ x y, ds = [x, y] ∧ E.nx ⟨(S.s.set i (some x)).set j (some y), os⟩) : W K X (tPar i j ta) E S := fun as H σ D R x n r b c =>
  h as H σ _ R (x.h R) fun vs H1 ds os1 g1 R1 r1 ⟨y, z, e, q⟩ => by
    subst e
    cases r1 with
    | cons r1 rn =>
      cases rn with
      | cons r2 rn =>
        cases rn
        exact ⟨_, _, rfl, n as H1 _ _ (Stp.of_go g1 R1) (((R.go g1 R1).set i r1).set j r2) q⟩
end

/-! ### for -/
section
variable {K : PySem.W.Frag} {X : Xc} {S : Sa} {E : Ea} {wi : TI} {g : TG} {tb : TS}
theorem w_for (h : IW K X wi S fun ds os => ∃ Pv : Nat → Sa → Prop, Pv 0 ⟨S.s, os⟩ ∧
      (∀ i d S', ds[i]? = some d → Pv i S' → GW K g (.d d) S' (W K X tb { nx := Pv (i + 1), ct := Pv (i + 1), bk := E.nx, rt := E.rt })) ∧ ∀ S', Pv ds.length S' → E.nx S') : W K X (tFor wi g tb) E S := fun as H σ D R x n r b c =>
  h as H σ _ R (x.h R) fun J H1 ds os1 g1 R1 it ⟨Pv, p0, turn, fin⟩ => by
    have s1 : Stp as H as H1 := Stp.of_go g1 R1
    refine ⟨fun i m σ H2 => m = ds.length - i ∧ i ≤ ds.length ∧ ∃ bs S', Stp as H1 bs H2 ∧ Re K bs H2 σ S' ∧ Pv i S', ⟨_, rfl, Nat.zero_le _, as, _, Stp.refl, R.go g1 R1, p0⟩, ?_⟩
    rintro i m σ2 H2 ⟨rfl, hi, bs, S2, s2, R2, p⟩
    by_cases hlt : i < ds.length
    · have hd : ds[i]? = some ds[i] := List.getElem?_eq_getElem hlt
      obtain ⟨hgo, hy⟩ := (it bs H2 S2.os s2 R2.o i).1 _ hd
      refine .inr ⟨hgo, fun σ' H' => ∃ cs S', Stp as H1 cs H' ∧ Re K cs H' σ' S' ∧ Pv (i + 1) S', fun σ' H' z => ⟨ds.length - (i + 1), by omega, rfl, hlt, z⟩, fun y H3 hyl => ?_⟩
      obtain ⟨g3, R3, r3⟩ := hy y H3 hyl
      have s3 : Stp bs H2 bs H3 := Stp.of_go g3 R3
      refine turn i _ S2 hd p bs H3 σ2 y _ (R2.go g3 R3) r3 fun σ4 S4 R4 w => ?_
      refine w bs H3 σ4 _ R4 ((x.stp s1).stp (s2.trans s3)) (fun cs H5 σ5 S5 s5 R5 q5 => ⟨cs, S5, (s2.trans s3).trans s5, R5, q5⟩) (fun cs H5 v d os5 s5 R5 r5 q5 => r cs H5 v d os5 (((s1.trans s2).trans s3).trans s5) R5 r5 q5)
        (fun cs H5 σ5 S5 s5 R5 q5 => n cs H5 σ5 S5 (((s1.trans s2).trans s3).trans s5) R5 q5) (fun cs H5 σ5 S5 s5 R5 q5 => ⟨cs, S5, (s2.trans s3).trans s5, R5, q5⟩)
    · have e : i = ds.length := by omega
      subst e
      exact .inl ⟨(it bs H2 S2.os s2 R2.o _).2 (Nat.le_refl _), n bs H2 σ2 S2 (s1.trans s2) R2 (fin S2 p)⟩
/-- while, by a word that falls -/
theorem w_while {tc : TT} (Pv : Nat → Sa → Prop) (m0 : Nat) (p0 : Pv m0 S)
    (turn : ∀ m S', Pv m S' → TW K X tc S' fun b os => if b = true then W K X tb { nx := fun S2 => ∃ m', m' < m ∧ Pv m' S2, ct := fun S2 => ∃ m', m' < m ∧ Pv m' S2, bk := E.nx, rt := E.rt } ⟨S'.s, os⟩ else E.nx ⟨S'.s, os⟩) : W K X (tWhile tc tb) E S := fun as H σ D R x n r b c => by
  refine ⟨fun m σ H2 => ∃ bs S', Stp as H bs H2 ∧ Re K bs H2 σ S' ∧ Pv m S', ⟨m0, as, S, Stp.refl, R, p0⟩, ?_⟩
  rintro m σ2 H2 ⟨bs, S2, s2, R2, p⟩
  refine turn m S2 p bs H2 σ2 _ R2 ((x.stp s2).h R2) fun y H3 os3 g3 R3 q => ?_
  have s3 : Stp bs H2 bs H3 := Stp.of_go g3 R3
  cases y with
  | false =>
    show D.nx σ2 H3
    exact n bs H3 σ2 _ (s2.trans s3) (R2.go g3 R3) q
  | true =>
    show ∃ N : St → Hp → Prop, _
    refine ⟨fun σ' H' => ∃ m', m' < m ∧ ∃ cs S', Stp as H cs H' ∧ Re K cs H' σ' S' ∧ Pv m' S', fun σ' H' ⟨m', l, z⟩ => ⟨m', l, z⟩, ?_⟩
    refine (show W K X tb _ _ from q) bs H3 σ2 _ (R2.go g3 R3) (x.stp (s2.trans s3)) (fun cs H5 σ5 S5 s5 R5 ⟨m', l, q5⟩ => ⟨m', l, cs, S5, (s2.trans s3).trans s5, R5, q5⟩) (fun cs H5 v d os5 s5 R5 r5 q5 => r cs H5 v d os5 ((s2.trans s3).trans s5) R5 r5 q5)
      (fun cs H5 σ5 S5 s5 R5 q5 => n cs H5 σ5 S5 ((s2.trans s3).trans s5) R5 q5) (fun cs H5 σ5 S5 s5 R5 ⟨m', l, q5⟩ => ⟨m', l, cs, S5, (s2.trans s3).trans s5, R5, q5⟩)
end

/-! ### comprehensions -/
def wipeS (s : Sl) : List Nat → Sl
  | [] => s
  | v :: vs => (wipeS s vs).set v none
section
variable {K : PySem.W.Frag} {X : Xc} {S : Sa} {Q : Sv → Os → Prop} {wi : TI} {g : TG} {tt : TT} {te : TE}
theorem wipe_in {σ : St} {i : Nat} : ∀ {vs : List Nat}, i ∈ vs → (wipe σ vs)[i]? = if i < σ.length then some none else none
  | [], h => nomatch h
  | v :: vs, h => by
    show ((wipe σ vs).set v none)[i]? = _
    by_cases hv : v = i
    · subst hv
      rw [List.getElem?_set, wipe_length]
      simp
    · rw [List.getElem?_set_ne hv]
      rcases List.mem_cons.mp h with e | h
      · exact absurd e.symm hv
      · exact wipe_in h
theorem wipe_out1 {σ : St} {i : Nat} : ∀ {vs : List Nat}, i ∉ vs → (wipe σ vs)[i]? = σ[i]?
  | [], _ => rfl
  | v :: vs, h => by
    have h1 : v ≠ i := fun e => h (by rw [e]; exact List.mem_cons_self)
    show ((wipe σ vs).set v none)[i]? = _
    rw [List.getElem?_set_ne h1]
    exact wipe_out1 fun z => h (List.mem_cons_of_mem _ z)
theorem wipe_ext {σ τ : St} {vs : List Nat} (hl : τ.length = σ.length) (h : ∀ i, i ∉ vs → τ[i]? = σ[i]?) : wipe τ vs = wipe σ vs := by
  refine List.ext_getElem? fun i => ?_
  by_cases hi : i ∈ vs
  · rw [wipe_in hi, wipe_in hi, hl]
  · rw [wipe_out1 hi, wipe_out1 hi, h i hi]
theorem re_wipe {as : List Addr} {H : Hp} {σ : St} {s : Sl} {os : Os} : ∀ {vs : List Nat}, Re K as H σ ⟨s, os⟩ → Re K as H (wipe σ vs) ⟨wipeS s vs, os⟩
  | [], R => R
  | v :: vs, R => by
    have ih := re_wipe (vs := vs) R
    refine ⟨R.o, by show ((wipe σ vs).set v none).length = ((wipeS s vs).set v none).length; simpa using ih.slen, fun i d h => ?_⟩
    have h' : ((wipeS s vs).set v none)[i]? = some (some d) := h
    by_cases hv : v = i
    · subst hv
      by_cases hl : v < (wipeS s vs).length
      · rw [List.getElem?_set_self hl] at h'
        cases h'
      · rw [List.getElem?_eq_none (by simpa using hl)] at h'
        cases h'
    · rw [List.getElem?_set_ne hv] at h'
      obtain ⟨u, e, r⟩ := ih.slot i d h'
      exact ⟨u, by show ((wipe σ vs).set v none)[i]? = _; rw [List.getElem?_set_ne hv]; exact e, r⟩
/-- a target that stores at vs alone -/
def Wg (g : TG) (vs : List Nat) : Prop := ∀ v σ H Q, g v σ H Q → g v σ H fun σ2 H2 => Q σ2 H2 ∧ σ2.length = σ.length ∧ ∀ i, i ∉ vs → σ2[i]? = σ[i]?
def Wgs (g : TGs) (vs : List Nat) : Prop := ∀ v σ H Q, g v σ H Q → g v σ H fun σ2 H2 => Q σ2 H2 ∧ σ2.length = σ.length ∧ ∀ i, i ∉ vs → σ2[i]? = σ[i]?
theorem wg_name {j : Nat} {vs : List Nat} (h : j ∈ vs) : Wg (gName j) vs := fun v σ H Q q => ⟨q, by simp, fun i hi => List.getElem?_set_ne fun (e : j = i) => hi (e ▸ h)⟩
theorem wgs_nil {vs : List Nat} : Wgs gNil vs := fun v σ H Q q => ⟨q.1, q.2, rfl, fun _ _ => rfl⟩
/-- what follows may be widened -/
def Mg (g : TG) : Prop := ∀ v σ H (Q Q' : St → Hp → Prop), (∀ σ H, Q σ H → Q' σ H) → g v σ H Q → g v σ H Q'
def Mgs (g : TGs) : Prop := ∀ v σ H (Q Q' : St → Hp → Prop), (∀ σ H, Q σ H → Q' σ H) → g v σ H Q → g v σ H Q'
theorem mg_name {j : Nat} : Mg (gName j) := fun v σ H Q Q' k q => k _ _ q
theorem mgs_nil : Mgs gNil := fun v σ H Q Q' k q => ⟨q.1, k _ _ q.2⟩
theorem mgs_cons {g : TG} {gs : TGs} (a : Mg g) (b : Mgs gs) : Mgs (gCons g gs) := fun v σ H Q Q' k ⟨x, r, e, q⟩ => ⟨x, r, e, a _ _ _ _ _ (fun σ2 H2 z => b _ _ _ _ _ k z) q⟩
theorem mg_tup {n : Nat} {gs : TGs} (b : Mgs gs) : Mg (gTup K n gs) := fun v σ H Q Q' k ⟨a, xs, e1, e2, e3, q⟩ => ⟨a, xs, e1, e2, e3, b _ _ _ _ _ k q⟩
theorem wgs_cons {g : TG} {gs : TGs} {vs : List Nat} (m : Mg g) (mb : Mgs gs) (a : Wg g vs) (b : Wgs gs vs) : Wgs (gCons g gs) vs := fun v σ H Q ⟨x, r, e, q⟩ =>
  ⟨x, r, e, m _ _ _ _ _ (fun σ2 H2 ⟨z, l, o⟩ => mb _ _ _ _ _ (fun σ3 H3 ⟨y, l2, o2⟩ => ⟨y, l2.trans l, fun i hi => (o2 i hi).trans (o i hi)⟩) (b _ _ _ _ z)) (a _ _ _ _ q)⟩
theorem wg_tup {n : Nat} {gs : TGs} {vs : List Nat} (b : Wgs gs vs) : Wg (gTup K n gs) vs := fun v σ H Q ⟨a, xs, e1, e2, e3, q⟩ => ⟨a, xs, e1, e2, e3, b _ _ _ _ q⟩
theorem ro_add {as : List Addr} {H : Hp} {os : Os} {p : Addr} (R : Ro K as H os) (hp : H p = none) : Ro K (as ++ [p]) (upd H p (.lst [])) (os ++ [.ml []]) := by
  have R' := R.new (o := .lst []) hp
  refine ⟨?_, by simp [R.len], fun k a ob h1 h2 => ?_⟩
  · refine List.nodup_append.mpr ⟨R.nd, List.nodup_cons.mpr ⟨by simp, List.nodup_nil⟩, fun a ha b hb e => ?_⟩
    rw [List.mem_singleton.mp hb] at e
    exact R.notin hp (e ▸ ha)
  · by_cases hk : k < as.length
    · rw [List.getElem?_append_left hk] at h1
      rw [List.getElem?_append_left (by rw [← R.len]; exact hk)] at h2
      refine (R.own k a ob h1 h2).way ?_ fun u e => ?_
      · have w1 : Way K as (as ++ [p]) H H := Way.of_add hp
        have w2 : Way K (as ++ [p]) (as ++ [p]) H (upd H p (.lst [])) := Way.of_go (Go.at (by simp))
        exact ⟨fun a xs z => w2.l _ _ (w1.l _ _ z), fun a xs z => w2.t _ _ (w1.t _ _ z), fun a u n z => let ⟨n1, z1⟩ := w1.r _ _ n z; w2.r _ _ n1 z1, fun a u n z => let ⟨n1, z1⟩ := w1.o _ _ n z; w2.o _ _ n1 z1⟩
      · rw [upd_ne (ne_of_none e hp)]
        exact e
    · have hk2 : k = as.length := by
        have := (List.getElem?_eq_some_iff.mp h1).1
        rw [List.length_append] at this
        simp at this
        omega
      subst hk2
      rw [List.getElem?_append_right (Nat.le_refl _)] at h1
      rw [R.len, List.getElem?_append_right (Nat.le_refl _)] at h2
      simp at h1 h2
      subst h1
      subst h2
      exact ⟨[], upd_same, .nil⟩
theorem ro_drop {as : List Addr} {H : Hp} {os : Os} {p : Addr} {ob : Ob} (R : Ro K (as ++ [p]) H (os ++ [ob])) : Ro K as H os ∧ ObR K as H p ob ∧ p ∉ as := by
  have hl : as.length = os.length := by
    have := R.len
    simpa using this
  have sub : ∀ x ∈ as, x ∈ as ++ [p] := fun x h => List.mem_append_left _ h
  have hnd := List.nodup_append.mp R.nd
  refine ⟨⟨hnd.1, hl, fun k a ob h1 h2 => ?_⟩, ?_, fun z => hnd.2.2 p z p (by simp) rfl⟩
  · have hk := (List.getElem?_eq_some_iff.mp h1).1
    exact (R.own k a ob (by rw [List.getElem?_append_left hk]; exact h1) (by rw [List.getElem?_append_left (by omega)]; exact h2)).way (Way.of_sub sub) fun _ e => e
  · refine (R.own as.length p ob (by simp) (by rw [hl]; simp)).way (Way.of_sub sub) fun _ e => e
/-- the store's last list has grown -/
theorem ro_grow {as : List Addr} {H : Hp} {os : Os} {p : Addr} {vs : List V} {xs : List D} {v : V} {d : D} (R : Ro K (as ++ [p]) H (os ++ [.ml xs])) (e : H p = some (.lst vs)) (r : Dx K (as ++ [p]) H v d) :
    Ro K (as ++ [p]) (upd H p (.lst (vs ++ [v]))) (os ++ [.ml (xs ++ [d])]) := by
  have g : Go (as ++ [p]) H (upd H p (.lst (vs ++ [v]))) := Go.at (by simp)
  have hl : as.length = os.length := by
    have := R.len
    simpa using this
  have hnd := List.nodup_append.mp R.nd
  refine ⟨R.nd, by simp [hl], fun k a ob h1 h2 => ?_⟩
  by_cases hk : k < as.length
  · have h1' := h1
    rw [List.getElem?_append_left hk] at h1
    rw [List.getElem?_append_left (by omega)] at h2
    refine (R.own k a ob h1' (by rw [List.getElem?_append_left (by omega)]; exact h2)).way (Way.of_go g) fun u q => ?_
    have hne : a ≠ p := fun z => hnd.2.2 a (List.mem_of_getElem? h1) p (by simp) z
    rw [upd_ne hne]
    exact q
  · have hk2 : k = as.length := by
      have := (List.getElem?_eq_some_iff.mp h1).1
      rw [List.length_append] at this
      simp at this
      omega
    subst hk2
    rw [List.getElem?_append_right (Nat.le_refl _)] at h1
    rw [hl, List.getElem?_append_right (Nat.le_refl _)] at h2
    simp at h1 h2
    subst h1
    subst h2
    obtain ⟨ws, e2, r2⟩ := (ro_drop R).2.1
    rw [e] at e2
    cases e2
    have hown := R.own as.length p (.ml xs) (by simp) (by rw [hl]; simp)
    obtain ⟨ws, e3, r3⟩ := hown
    rw [e] at e3
    cases e3
    exact ⟨_, upd_same, DxA.app (r3.way (Way.of_go g)) (.cons (r.way (Way.of_go g)) .nil)⟩
theorem ew_lc {vs : List Nat} (hg : Wg g vs) (hm : Mg g) (h : IW K X wi S fun ds os => ∃ Pv : Nat → List D → Os → Prop, Pv 0 [] os ∧
      (∀ i d acc os', ds[i]? = some d → Pv i acc os' → GW K g (.d d) ⟨wipeS S.s vs, os' ++ [.ml acc]⟩ fun S2 => TW K X0 tt S2 fun b os2 =>
        if b = true then EW K X0 te ⟨S2.s, os2⟩ fun y os3 => ∃ z os4, y = .d z ∧ os3 = os4 ++ [.ml acc] ∧ acc.length < sizeLine ∧ Pv (i + 1) (acc ++ [z]) os4 else ∃ os4, os2 = os4 ++ [.ml acc] ∧ Pv (i + 1) acc os4) ∧
      ∀ acc os', Pv ds.length acc os' → Q (.d (.lst acc)) os') : EW K X (tLc wi g tt te vs) S Q := fun as H σ Q' R x k =>
  h as H σ _ R x fun J H1 ds os1 g1 R1 it ⟨Pv, p0, turn, fin⟩ Dl hD => by
    have R1' := R.go g1 R1
    refine ⟨fun i m H2 => m = ds.length - i ∧ i ≤ ds.length ∧ ∃ acc os2, Stp as H1 (as ++ [Dl]) H2 ∧ Re K (as ++ [Dl]) H2 σ ⟨S.s, os2 ++ [.ml acc]⟩ ∧ Pv i acc os2, ⟨_, rfl, Nat.zero_le _, [], os1, ?_, ?_, p0⟩, ?_⟩
    · exact ⟨⟨[Dl], rfl, fun a ha => by rw [List.mem_singleton.mp ha]; exact hD⟩, Go.new hD, fun a ha => by
        by_cases e : a = Dl
        · rw [e]
          exact hD
        · rw [upd_ne e] at ha
          exact ha⟩
    · refine ⟨ro_add R1 hD, R1'.slen, fun i d hd => ?_⟩
      obtain ⟨u, e, r⟩ := R1'.slot i d hd
      refine ⟨u, e, ?_⟩
      have r2 := r.wayA hD
      exact r2.go (Go.at (by simp))
    rintro i m H2 ⟨rfl, hi, acc, os2, s2, R2, p⟩
    by_cases hlt : i < ds.length
    · have hd : ds[i]? = some ds[i] := List.getElem?_eq_getElem hlt
      obtain ⟨hgo, hy⟩ := (it _ H2 _ s2 R2.o i).1 _ hd
      refine .inr ⟨hgo, fun H' => ∃ acc os3, Stp as H1 (as ++ [Dl]) H' ∧ Re K (as ++ [Dl]) H' σ ⟨S.s, os3 ++ [.ml acc]⟩ ∧ Pv (i + 1) acc os3, fun H' z => ⟨ds.length - (i + 1), by omega, rfl, hlt, z⟩, fun y H3 hyl => ?_⟩
      obtain ⟨g3, R3, r3⟩ := hy y H3 hyl
      have R3' := R2.go g3 R3
      have s3 : Stp as H1 (as ++ [Dl]) H3 := s2.trans (Stp.of_go g3 R3)
      have base := turn i _ acc os2 hd p (as ++ [Dl]) H3 (wipe σ vs) y (fun σ2 H4 => H4 = H3 ∧ ∃ S2, Re K (as ++ [Dl]) H3 σ2 S2 ∧ TW K X0 tt S2 fun b os2 =>
        if b = true then EW K X0 te ⟨S2.s, os2⟩ fun y os3 => ∃ z os4, y = .d z ∧ os3 = os4 ++ [.ml acc] ∧ acc.length < sizeLine ∧ Pv (i + 1) (acc ++ [z]) os4 else ∃ os4, os2 = os4 ++ [.ml acc] ∧ Pv (i + 1) acc os4) (re_wipe R3') r3 fun σ2 S2 R4 q => ⟨rfl, S2, R4, q⟩
      refine hm _ _ _ _ _ ?_ (hg _ _ _ _ base)
      rintro σ2 H4 ⟨⟨rfl, S2, R4, tw⟩, hl, ho⟩
      refine ⟨(wipe_ext hl fun i hi => ho i hi).trans (wipe_ext (wipe_length σ vs) fun i hi => wipe_out1 hi), ?_⟩
      refine tw _ H4 σ2 _ R4 XH.x0 fun b H5 os5 g5 R5 q5 => ?_
      have s5 := s3.trans (Stp.of_go g5 R5)
      cases b with
      | false =>
        obtain ⟨os4, rfl, q6⟩ := (show ∃ os4, os5 = os4 ++ [.ml acc] ∧ Pv (i + 1) acc os4 from q5)
        show ∃ acc os3, _
        exact ⟨acc, os4, s5, R3'.go g5 R5, q6⟩
      | true =>
        show te σ2 H5 _
        refine (show EW K X0 te ⟨S2.s, os5⟩ _ from q5) _ H5 σ2 _ (R4.go g5 R5) XH.x0 fun u H6 e os6 g6 R6 r6 ⟨z, os7, ez, eo, hz, q7⟩ => ?_
        subst ez
        subst eo
        obtain ⟨ws, ew, rw'⟩ := (ro_drop R6).2.1
        refine ⟨ws, ew, by rw [rw'.length]; exact hz, acc ++ [z], os7, ?_, ?_, q7⟩
        · exact (s5.trans (Stp.of_go g6 R6)).trans (Stp.of_go (Go.at (by simp)) (ro_grow R6 ew r6))
        · exact (R3'.go (g5.trans g6) R6).go (Go.at (by simp)) (ro_grow R6 ew r6)
    · have e : i = ds.length := by omega
      subst e
      obtain ⟨Rd, ob, nin⟩ := ro_drop R2.o
      obtain ⟨ws, ew, rw'⟩ := ob
      exact .inl ⟨(it _ H2 _ s2 R2.o _).2 (Nat.le_refl _), k (.ref Dl) H2 (.d (.lst acc)) os2 (g1.trans s2.go) Rd (Dx.lst (.inl ⟨nin, .inl ew⟩) rw') (fin acc os2 p)⟩
theorem tw_yes {S : Sa} {Q : Bool → Os → Prop} (q : Q true S.os) : TW K X tYes S Q := fun as H σ Q' R x k => k true H S.os (Go.refl _ _) R.o q
end
end Br

/-! BrE: the store's dicts; a def that makes one; rooms; a law's end. -/
namespace Br
open PySem L2

/-! ### the store's dicts -/
def keyD : Key → D
  | .inl i => .int i
  | .inr x => .str x
def lookD (kvs : List (Key × D)) (k : Key) : Option D := (kvs.find? fun kv => decide (kv.1 = k)).map (·.2)
def putD (kvs : List (Key × D)) (k : Key) (v : D) : List (Key × D) :=
  if (kvs.any fun kv => decide (kv.1 = k)) = true then kvs.map (fun kv => if kv.1 = k then (kv.1, v) else kv) else kvs ++ [(k, v)]
section
variable {K : PySem.W.Frag} {as : List Addr} {H : Hp}
theorem key_v {v : V} {k : Key} (h : Dx K as H v (keyD k)) : v = kV k := by
  cases k with
  | inl i =>
    cases h
    rfl
  | inr x =>
    cases h
    rfl
theorem DxP.length : ∀ {vs : List (Key × V)} {ds : List (Key × D)}, DxP K as H vs ds → vs.length = ds.length
  | _, _, .nil => rfl
  | _, _, .cons _ r => by rw [List.length_cons, List.length_cons, DxP.length r]
theorem DxP.look {k : Key} : ∀ {vs : List (Key × V)} {ds : List (Key × D)} {z : D}, DxP K as H vs ds → lookD ds k = some z → ∃ v, valV vs k = some v ∧ Dx K as H v z
  | _, _, _, .nil, e => by simp [lookD] at e
  | _, _, z, .cons (k := k2) (v := v) (d := d) (ds := ds) (vs := vs) h r, e => by
    by_cases hk : k2 = k
    · have e2 : some d = some z := by rw [← e]; simp [lookD, List.find?_cons, hk]
      cases e2
      exact ⟨v, valV_pos (p := (k2, v)) hk, h⟩
    · have e2 : lookD ds k = some z := by rw [← e]; simp [lookD, List.find?_cons, hk]
      obtain ⟨u, h1, h2⟩ := DxP.look r e2
      exact ⟨u, by rw [valV_neg (p := (k2, v)) hk]; exact h1, h2⟩
theorem DxP.any {k : Key} : ∀ {vs : List (Key × V)} {ds : List (Key × D)}, DxP K as H vs ds → (vs.any fun kv => decide (kv.1 = k)) = (ds.any fun kv => decide (kv.1 = k))
  | _, _, .nil => rfl
  | _, _, .cons _ r => by rw [List.any_cons, List.any_cons, DxP.any r]
theorem DxP.mapk {k : Key} {u : V} {z : D} (h : Dx K as H u z) : ∀ {vs : List (Key × V)} {ds : List (Key × D)}, DxP K as H vs ds → DxP K as H (vs.map fun kv => if kv.1 = k then (kv.1, u) else kv) (ds.map fun kv => if kv.1 = k then (kv.1, z) else kv)
  | _, _, .nil => .nil
  | _, _, .cons (k := k2) h2 r => by
    rw [List.map_cons, List.map_cons]
    by_cases hk : k2 = k
    · rw [if_pos hk, if_pos hk]
      exact .cons h (DxP.mapk h r)
    · rw [if_neg hk, if_neg hk]
      exact .cons h2 (DxP.mapk h r)
theorem DxP.app : ∀ {v w : List (Key × V)} {d e : List (Key × D)}, DxP K as H v d → DxP K as H w e → DxP K as H (v ++ w) (d ++ e)
  | _, _, _, _, .nil, s => s
  | _, _, _, _, .cons h r, s => .cons h (DxP.app r s)
theorem DxP.put {k : Key} {u : V} {z : D} {vs : List (Key × V)} {ds : List (Key × D)} (h : Dx K as H u z) (r : DxP K as H vs ds) : DxP K as H (putK vs k u) (putD ds k z) := by
  unfold putK putD
  rw [r.any (k := k)]
  split
  · exact DxP.mapk h r
  · exact DxP.app r (.cons h .nil)
/-- a thing of the store is written -/
theorem ro_set {os : Os} {k : Nat} {a : Addr} {o : HO} {ob : Ob} (R : Ro K as H os) (ha : as[k]? = some a) (h : ObR K as (upd H a o) a ob) : Ro K as (upd H a o) (os.set k ob) := by
  have hm : a ∈ as := List.mem_of_getElem? ha
  refine ⟨R.nd, by rw [List.length_set]; exact R.len, fun j b ob2 h1 h2 => ?_⟩
  by_cases hj : k = j
  · subst hj
    rw [ha] at h1
    cases h1
    by_cases hl : k < os.length
    · rw [List.getElem?_set_self hl] at h2
      cases h2
      exact h
    · rw [List.getElem?_eq_none (by simpa using hl)] at h2
      cases h2
  · rw [List.getElem?_set_ne hj] at h2
    refine (R.own j b ob2 h1 h2).way (Way.of_go (Go.at hm)) fun u e => ?_
    have hne : b ≠ a := fun z => by
      subst z
      obtain ⟨l1, m1⟩ := List.getElem?_eq_some_iff.mp h1
      obtain ⟨l2, m2⟩ := List.getElem?_eq_some_iff.mp ha
      exact hj ((List.getElem_inj R.nd).mp (m2.trans m1.symm))
    rw [upd_ne hne]
    exact e
end
section
variable {K : PySem.W.Frag} {X : Xc} {S : Sa} {Q : Sv → Os → Prop} {td ty tv : TE} {E : Ea}
theorem ew_dget (h : EW K X td S fun x os1 => EW K X ty ⟨S.s, os1⟩ fun y os2 => ∃ k kvs key z, x = .o k ∧ os2[k]? = some (.md kvs) ∧ y = .d (keyD key) ∧ lookD kvs key = some z ∧ Q (.d z) os2) : EW K X (tDGet td ty) S Q := fun as H σ Q' R x k =>
  h as H σ _ R x fun v H1 d os1 g1 R1 r1 q1 => q1 as H1 σ _ (R.go g1 R1) (x.go g1 R1) fun u H2 e os2 g2 R2 r2 ⟨j, kvs, key, z, ex, eo, ey, el, q2⟩ => by
    subst ex
    subst ey
    obtain ⟨a, ea, rfl⟩ := r1
    obtain ⟨vs, h1, h2⟩ := R2.own j a _ ea eo
    obtain ⟨w, h3, h4⟩ := h2.look el
    have hk := key_v r2
    subst hk
    refine ⟨a, w, rfl, ?_, k w H2 (.d z) os2 (g1.trans g2) R2 h4 q2⟩
    rw [← h3]
    exact DGet.k h1
theorem w_dput (h : EW K X tv S fun v os1 => EW K X td ⟨S.s, os1⟩ fun x os2 => EW K X ty ⟨S.s, os2⟩ fun y os3 => ∃ k kvs key z, v = .d z ∧ x = .o k ∧ os3[k]? = some (.md kvs) ∧ y = .d (keyD key) ∧ kvs.length ≤ 1000 ∧
    E.nx ⟨S.s, os3.set k (.md (putD kvs key z))⟩) : W K X (sDPut td ty tv) E S := fun as H σ D R x n r b c =>
  h as H σ _ R (x.h R) fun v H1 d os1 g1 R1 r1 q1 => q1 as H1 σ _ (R.go g1 R1) ((x.h R).go g1 R1) fun u H2 e os2 g2 R2 r2 q2 => q2 as H2 σ _ (R.go (g1.trans g2) R2) ((x.h R).go (g1.trans g2) R2) fun y H3 f os3 g3 R3 r3 ⟨j, kvs, key, z, ev, ex, eo, ey, hl, q3⟩ => by
    subst ev
    subst ex
    subst ey
    obtain ⟨a, ea, rfl⟩ := r2
    obtain ⟨vs, h1, h2⟩ := R3.own j a _ ea eo
    have hk := key_v r3
    subst hk
    have hm : a ∈ as := List.mem_of_getElem? ea
    have rz : Dx K as H3 v z := (r1.go (g2.trans g3) : SvR K as H3 v (.d z))
    have R4 : Ro K as (upd H3 a (.dK (putK vs key v))) (os3.set j (.md (putD kvs key z))) := ro_set R3 ea ⟨_, upd_same, DxP.way (Way.of_go (Go.at hm)) (h2.put rz)⟩
    have g4 : Go as H (upd H3 a (.dK (putK vs key v))) := ((g1.trans g2).trans g3).trans (Go.at hm)
    have hz : vs.length < sizeLine := by
      rw [h2.length]
      exact Nat.lt_of_le_of_lt hl (by decide)
    exact ⟨a, _, rfl, DPut.k h1 hz, n as _ σ _ (Stp.of_go g4 R4) (R.go g4 R4) q3⟩
end

section
variable {K : PySem.W.Frag} {X : Xc} {S : Sa} {Q : Sv → Os → Prop} {td tv : TE} {E : Ea} {z : Str}
/-- by a written text -/
theorem ew_dgetS (h : EW K X td S fun v os1 => ∃ k kvs d, v = .o k ∧ os1[k]? = some (.md kvs) ∧ lookD kvs (.inr z) = some d ∧ Q (.d d) os1) : EW K X (tDGet td (tC (.str z))) S Q :=
  ew_dget (ew_mono h fun x os1 ⟨k, kvs, d, ex, eo, el, q⟩ => ew_str ⟨k, kvs, .inr z, d, ex, eo, rfl, el, q⟩)
theorem w_dputS (h : EW K X tv S fun v os1 => EW K X td ⟨S.s, os1⟩ fun x os2 => ∃ k kvs d kv2 os3, v = .d d ∧ x = .o k ∧ os2[k]? = some (.md kvs) ∧ kvs.length ≤ 1000 ∧ putD kvs (.inr z) d = kv2 ∧ os2.set k (.md kv2) = os3 ∧ E.nx ⟨S.s, os3⟩) : W K X (sDPut td (tC (.str z)) tv) E S :=
  w_dput (ew_mono h fun v os1 h1 => ew_mono h1 fun x os2 ⟨k, kvs, d, kv2, os3, ev, ex, eo, hl, e1, e2, q⟩ => ew_str ⟨k, kvs, .inr z, d, ev, ex, eo, rfl, hl, by rw [e1, e2]; exact q⟩)
end

/-! ### a def that makes a thing of the store -/
abbrev FN := List Sv → Os → (Ob → Os → Prop) → Prop
def spN (K : PySem.W.Frag) (f : FN) : Sp := fun vs H Q _ => ∃ (as : List Addr) (os : Os) (ds : List Sv) (QN : Ob → Os → Prop), Ro K as H os ∧ SvA K as H vs ds ∧ f ds os QN ∧
  ∀ p H' ob os', Stp as H (as ++ [p]) H' → Ro K (as ++ [p]) H' (os' ++ [ob]) → QN ob os' → Q (.ref p) H'
def RetN (n : Nat) (QN : Ob → Os → Prop) : Sv → Os → Prop := fun x os' => x = .o n ∧ os'.length = n + 1 ∧ ∃ ob, os'[n]? = some ob ∧ QN ob (os'.take n)
theorem take_last {α : Type} {l : List α} {n : Nat} {x : α} (h : l.length = n + 1) (e : l[n]? = some x) : l.take n ++ [x] = l := by
  obtain ⟨hn, e2⟩ := List.getElem?_eq_some_iff.mp e
  rw [← e2]
  have : l.take (n + 1) = l := List.take_of_length_le (by omega)
  rw [← List.take_append_getElem hn] at this
  exact this
theorem readN_of {K : PySem.W.Frag} {N : List Str} {f : FN} {t : TS} {vs : List V} {H : Hp} {Q : VK} {E : XK} (h : spN K f vs H Q E)
    (w : ∀ ds os QN, f ds os QN → W K X0 t { nx := fun S => False, rt := RetN os.length QN } ⟨startS N ds, os⟩) : t { nx := fun _ H' => Q .non H', rt := Q } (L2.start N vs) H := by
  obtain ⟨as, os, ds, QN, R, r, hf, k⟩ := h
  refine w ds os QN hf as H _ _ (re_start R r) XS.x0 (fun _ _ _ _ _ _ q => q.elim) (fun bs H' v d os' s R' r' q => ?_) (fun _ _ _ _ _ _ q => q.elim) fun _ _ _ _ _ _ q => q.elim
  obtain ⟨rfl, hl, ob, e, q⟩ := q
  obtain ⟨a, ea, rfl⟩ := r'
  obtain ⟨nw, eb, hf⟩ := s.pre
  have hb : bs = as ++ [a] := by
    have h1 : bs.length = os.length + 1 := R'.len.trans hl
    have h2 : as.length = os.length := R.len
    rw [eb, List.length_append] at h1
    match nw, h1 with
    | [b], _ =>
      rw [eb, ← h2, List.getElem?_append_right (Nat.le_refl _)] at ea
      simp at ea
      rw [eb, ea]
    | [], h1 => simp at h1; omega
    | _ :: _ :: _, h1 => simp at h1; omega
  subst hb
  exact k a H' ob _ s (by rw [take_last hl e]; exact R') q
section
variable {K : PySem.W.Frag} {X : Xc} {S : Sa}
/-- x = f(..), f making a thing -/
theorem w_asgN {ta : TA} {i : Nat} {f : FN} {E : Ea} (h : AW K X ta S fun ds os => f ds os fun ob os' => E.nx ⟨S.s.set i (some (.o os'.length)), os' ++ [ob]⟩) : W K X (tAsg (tCall (spN K f) [] E0 ta) (gName i)) E S := fun as H σ D R x n r b c =>
  h as H σ _ R (x.h R) fun vs H1 ds os1 g1 R1 r1 q1 => ⟨as, os1, ds, _, R1, r1.nilr, q1, fun p H2 ob os2 s2 R2 q2 => by
    have s1 : Stp as H as H1 := Stp.of_go g1 R1
    have hl : as.length = os2.length := by
      have := R2.len
      simpa using this
    have R3 : Re K (as ++ [p]) H2 σ ⟨S.s, os2 ++ [ob]⟩ := ⟨R2, R.slen, fun j d hd => by
      obtain ⟨u, e, z⟩ := R.slot j d hd
      exact ⟨u, e, z.stp (s1.trans s2)⟩⟩
    exact n _ H2 _ _ (s1.trans s2) (R3.set i (v := .ref p) (d := .o os2.length) ⟨p, by rw [← hl]; simp, rfl⟩) q2⟩
/-- pairs of a display -/
inductive PrR (K : PySem.W.Frag) (as : List Addr) (H : Hp) : List (V × V) → List (D × D) → Prop
  | nil : PrR K as H [] []
  | cons {x y : V} {a b : D} {ps : List (V × V)} {ds : List (D × D)} : Dx K as H x a → Dx K as H y b → PrR K as H ps ds → PrR K as H ((x, y) :: ps) ((a, b) :: ds)
def DW (K : PySem.W.Frag) (X : Xc) (trs : List (TE × TE)) (S : Sa) (Q : List (D × D) → Os → Prop) : Prop :=
  ∀ as H σ (Q' : List (V × V) → Hp → Prop), Re K as H σ S → XH K X as H σ S.s → (∀ ps H' ds os', Go as H H' → Ro K as H' os' → PrR K as H' ps ds → Q ds os' → Q' ps H') → tPairs trs σ H Q'
theorem dw_nil {Q : List (D × D) → Os → Prop} (q : Q [] S.os) : DW K X [] S Q := fun as H σ Q' R x k => k [] H [] S.os (Go.refl _ _) R.o .nil q
theorem dw_cons {Q : List (D × D) → Os → Prop} {tk tv : TE} {trs : List (TE × TE)} (h : EW K X tk S fun x os1 => EW K X tv ⟨S.s, os1⟩ fun y os2 => ∃ a b, x = .d a ∧ y = .d b ∧ DW K X trs ⟨S.s, os2⟩ fun ds os3 => Q ((a, b) :: ds) os3) : DW K X ((tk, tv) :: trs) S Q := fun as H σ Q' R x k =>
  h as H σ _ R x fun v H1 d os1 g1 R1 r1 q1 => q1 as H1 σ _ (R.go g1 R1) (x.go g1 R1) fun u H2 e os2 g2 R2 r2 ⟨a, b, ea, eb, q2⟩ => by
    subst ea
    subst eb
    have ra : Dx K as H2 v a := (r1.go g2 : SvR K as H2 v (.d a))
    have rb : Dx K as H2 u b := r2
    exact q2 as H2 σ _ (R.go (g1.trans g2) R2) (x.go (g1.trans g2) R2) fun ps H3 ds os3 g3 R3 r3 q3 => k _ H3 _ os3 ((g1.trans g2).trans g3) R3 (.cons (ra.way (Way.of_go g3)) (rb.way (Way.of_go g3)) r3) q3
def mergeD (kvs more : List (Key × D)) : List (Key × D) := more.foldl (fun acc kv => putD acc kv.1 kv.2) kvs
theorem merge_dx {as : List Addr} {H : Hp} : ∀ {more : List (Key × V)} {md : List (Key × D)} {kvs : List (Key × V)} {kds : List (Key × D)}, DxP K as H more md → DxP K as H kvs kds → DxP K as H (mergeK kvs more) (mergeD kds md)
  | _, _, _, _, .nil, s => s
  | _, _, _, _, .cons (k := k) (v := v) (vs := vs) (d := d) (ds := ds) h r, s => merge_dx (kvs := putK _ k v) (kds := putD _ k d) r (s.put h)
theorem pr_keys {as : List Addr} {H : Hp} : ∀ {ps : List (V × V)} {kds : List (Key × D)}, PrR K as H ps (kds.map fun kv => (keyD kv.1, kv.2)) → ∃ kvs : List (Key × V), ps = kvs.map (fun kv => (kV kv.1, kv.2)) ∧ DxP K as H kvs kds
  | [], [], _ => ⟨[], rfl, .nil⟩
  | [], _ :: _, h => nomatch h
  | _ :: _, [], h => nomatch h
  | (x, y) :: ps, (k, d) :: kds, .cons h1 h2 r => by
    obtain ⟨kvs, e, z⟩ := pr_keys (kds := kds) r
    have hk := key_v h1
    subst hk
    subst e
    exact ⟨(k, y) :: kvs, rfl, .cons h2 z⟩
/-- a new dict at p -/
theorem ro_addD {as : List Addr} {H : Hp} {os : Os} {p : Addr} (R : Ro K as H os) (hp : H p = none) : Ro K (as ++ [p]) (upd H p (.dK [])) (os ++ [.md []]) := by
  refine ⟨List.nodup_append.mpr ⟨R.nd, List.nodup_cons.mpr ⟨by simp, List.nodup_nil⟩, fun a ha b hb e => ?_⟩, by simp [R.len], fun k a ob h1 h2 => ?_⟩
  · rw [List.mem_singleton.mp hb] at e
    exact R.notin hp (e ▸ ha)
  · have w1 : Way K as (as ++ [p]) H H := Way.of_add hp
    have w2 : Way K (as ++ [p]) (as ++ [p]) H (upd H p (.dK [])) := Way.of_go (Go.at (by simp))
    by_cases hk : k < as.length
    · rw [List.getElem?_append_left hk] at h1
      rw [List.getElem?_append_left (by rw [← R.len]; exact hk)] at h2
      refine ((R.own k a ob h1 h2).way w1 fun _ e => e).way w2 fun u e => ?_
      rw [upd_ne (ne_of_none e hp)]
      exact e
    · have hk2 : k = as.length := by
        have := (List.getElem?_eq_some_iff.mp h1).1
        rw [List.length_append] at this
        simp at this
        omega
      subst hk2
      rw [List.getElem?_append_right (Nat.le_refl _)] at h1
      rw [R.len, List.getElem?_append_right (Nat.le_refl _)] at h2
      simp at h1 h2
      subst h1
      subst h2
      exact ⟨[], upd_same, .nil⟩
theorem stp_add {as : List Addr} {H : Hp} {p : Addr} {o : HO} (hp : H p = none) : Stp as H (as ++ [p]) (upd H p o) :=
  ⟨⟨[p], rfl, fun a ha => by rw [List.mem_singleton.mp ha]; exact hp⟩, Go.new hp, fun a ha => by
    by_cases e : a = p
    · rw [e]
      exact hp
    · rw [upd_ne e] at ha
      exact ha⟩
theorem w_retDisp {trs : List (TE × TE)} {E : Ea} (h : DW K X0 trs ⟨S.s, S.os ++ [.md []]⟩ fun ds os3 => ∃ os4 kds, os3 = os4 ++ [.md []] ∧ ds = kds.map (fun kv => (keyD kv.1, kv.2)) ∧ kds.length ≤ 15 ∧ E.rt (.o S.os.length) (os4 ++ [.md (mergeD [] kds)])) :
    W K X (tRet (tDisp trs)) E S := fun as H σ D R x n r b c p hp => by
  have R1 : Re K (as ++ [p]) (upd H p (.dK [])) σ ⟨S.s, S.os ++ [.md []]⟩ := ⟨ro_addD R.o hp, R.slen, fun j d hd => by
    obtain ⟨u, e, z⟩ := R.slot j d hd
    exact ⟨u, e, z.stp (stp_add hp)⟩⟩
  refine h _ _ σ _ R1 XH.x0 fun ps H2 ds os3 g2 R2 r2 ⟨os4, kds, e3, ed, hl, q⟩ => ?_
  subst e3
  subst ed
  obtain ⟨kvs, ek, rk⟩ := pr_keys r2
  have hlen : as.length = os4.length := by
    have := R2.len
    simpa using this
  have hpos : (as ++ [p])[as.length]? = some p := by simp
  obtain ⟨ws, e1, e2⟩ := R2.own as.length p (.md []) hpos (by rw [hlen]; simp)
  cases e2
  have g3 : Go (as ++ [p]) H2 (upd H2 p (.dK (mergeK [] kvs))) := Go.at (by simp)
  have R3 : Ro K (as ++ [p]) (upd H2 p (.dK (mergeK [] kvs))) (os4 ++ [.md (mergeD [] kds)]) := by
    have z := ro_set (ob := .md (mergeD [] kds)) R2 hpos ⟨mergeK [] kvs, upd_same, DxP.way (Way.of_go g3) (merge_dx rk .nil)⟩
    rw [hlen, List.set_append_right _ _ (Nat.le_refl _)] at z
    simpa using z
  have sN : Stp as H (as ++ [p]) (upd H2 p (.dK (mergeK [] kvs))) := ((stp_add hp).trans (Stp.of_go g2 R2)).trans (Stp.of_go g3 R3)
  refine ⟨e1, kvs, ek, by rw [rk.length]; exact hl, r _ _ (.ref p) (.o S.os.length) _ sN R3 ⟨p, by rw [← R.o.len]; simp, rfl⟩ q⟩
end
end Br

/-! BrT: small words for the readings. -/
namespace Br
open PySem L2
theorem br_ite {c : Prop} [Decidable c] {A B : Prop} (h1 : c → A) (h2 : ¬ c → B) : if decide c = true then A else B := by
  by_cases h : c
  · rw [decide_eq_true h]
    exact h1 h
  · rw [decide_eq_false h]
    exact h2 h
theorem br_iteN {c : Prop} [Decidable c] {A B : Prop} (h1 : ¬ c → A) (h2 : c → B) : if (!decide c) = true then A else B := by
  by_cases h : c
  · rw [decide_eq_true h]
    exact h2 h
  · rw [decide_eq_false h]
    exact h1 h
theorem br_iteB {b : Bool} {A B : Prop} (h1 : b = true → A) (h2 : b = false → B) : if b = true then A else B := by
  cases b with
  | true => exact h1 rfl
  | false => exact h2 rfl
theorem br_T {A B : Prop} (h : A) : if true = true then A else B := h
theorem br_F {A B : Prop} (h : B) : if false = true then A else B := h
theorem set_set {os : Os} {k : Nat} {a b : Ob} : (os.set k a).set k b = os.set k b := List.set_set ..
theorem get_set {os : Os} {k : Nat} {a b : Ob} (h : os[k]? = some a) : (os.set k b)[k]? = some b := List.getElem?_set_self (List.getElem?_eq_some_iff.mp h).1
theorem c_div {i j : Int} (h : 0 < j) (h2 : j < 2 ^ 8000) : CDivW i j := wide_div (b := 8000) h (by omega) (by decide) (by decide)
theorem c_mul {i j : Int} (a b : Nat) (ha : i.natAbs < 2 ^ a) (hb : j.natAbs < 2 ^ b) (h0 : 0 < a) (h1 : 0 < b) (h : a + b ≤ 1000000) : CMulW i j := wide_mul ha hb h0 h1 h
theorem alld1 {x : D} : AllD [.d x] [x] := .cons .nil
theorem small_len {n : Nat} (h : n ≤ 1000000) : n ≤ sizeLine := Nat.le_trans h (by decide)
theorem pys_ints : ∀ ns : List Int, D.pys (ns.map D.int) = some (ns.map PyData.int)
  | [] => rfl
  | n :: r => by
    show ((D.py (.int n)).bind fun p => (D.pys (r.map D.int)).map fun ps => p :: ps) = _
    rw [pys_ints r]
    rfl
theorem bw_neNil {K : PySem.W.Frag} {os : Os} {Q : Sv → Os → Prop} {ns : List Int} (q : Q (.d (.bl (!ns.isEmpty))) os) : BW K (rNeD K) (.d (.lst (ns.map D.int))) (.d (.lst [])) os Q := by
  refine bw_neD (p := .list (ns.map PyData.int)) (r := .list []) ?_ rfl (PySem.W.ke_shaped_ints ns) (PySem.W.ke_shaped_ints []) ?_
  · show (D.pys (ns.map D.int)).map PyData.list = _
    rw [pys_ints]
    rfl
  · cases ns with
    | nil => exact q
    | cons n r => exact q
theorem at_mod {ns : List Int} {n : Int} (h : ns ≠ []) : ∃ c, L2.atI (ns.map D.int) (n % ((ns.map D.int).length : Int)) = some (.int c) := by
  have hl : 0 < ns.length := List.length_pos_iff.mpr h
  have e : ((ns.map D.int).length : Int) = (ns.length : Int) := by rw [List.length_map]
  have h1 : 0 ≤ n % (ns.length : Int) := Int.emod_nonneg _ (by omega)
  have h2 : n % (ns.length : Int) < (ns.length : Int) := Int.emod_lt_of_pos _ (by omega)
  have hk : (n % (ns.length : Int)).toNat < ns.length := by omega
  obtain ⟨j, hj⟩ : ∃ j : Nat, n % (ns.length : Int) = (j : Int) := ⟨(n % (ns.length : Int)).toNat, by omega⟩
  have hj2 : j < ns.length := by omega
  refine ⟨ns[j], ?_⟩
  rw [e, hj]
  exact atI_nat (by rw [List.getElem?_map, List.getElem?_eq_getElem hj2]; rfl)
theorem w_cut {K : PySem.W.Frag} {X : Xc} {S : Sa} {E : Ea} {t u : TS} (Mid : Sa → Prop) (h1 : W K X t { E with nx := Mid } S) (h2 : ∀ S', Mid S' → W K X u E S') : W K X (tSeq t u) E S :=
  w_seq (w_mono h1 h2 (fun _ _ z => z) (fun _ z => z) fun _ z => z)
theorem w_join {K : PySem.W.Frag} {X : Xc} {S S2 : Sa} {E : Ea} {t u : TS} {b : Bool} (Mid : Sa → Prop) (h1 : if b = true then W K X t { E with nx := Mid } S else W K X u { E with nx := Mid } S2) (h2 : ∀ S', Mid S' → E.nx S') : if b = true then W K X t E S else W K X u E S2 := by
  cases b with
  | true => exact w_mono (show W K X t { E with nx := Mid } S from h1) h2 (fun _ _ z => z) (fun _ z => z) fun _ z => z
  | false => exact w_mono (show W K X u { E with nx := Mid } S2 from h1) h2 (fun _ _ z => z) (fun _ z => z) fun _ z => z
theorem ret_set {os : Os} {k : Nat} {ob : Ob} {d : D} {QA : D → Os → Prop} (q : QA d (os.set k ob)) : RetOk os.length QA (.d d) (os.set k ob) := by
  show QA d ((os.set k ob).take os.length)
  rw [List.take_of_length_le (by rw [List.length_set]; exact Nat.le_refl _)]
  exact q
theorem ret_same {os : Os} {d : D} {QA : D → Os → Prop} (q : QA d os) : RetOk os.length QA (.d d) os := by
  show QA d (os.take os.length)
  rw [List.take_length]
  exact q
theorem c_divS {i j : Int} (h : 0 < j) (h2 : j < 2 ^ 64) : CDivW i j := wide_div (b := 64) h (by omega) (by decide) (by decide)
theorem c_mulS {i j : Int} (h1 : -(2 ^ 200) < i ∧ i < 2 ^ 200) (h2 : -(2 ^ 200) < j ∧ j < 2 ^ 200) : CMulW i j := wide_mul (a := 200) (b := 200) (by omega) (by omega) (by decide) (by decide) (by decide)
/-- a display's things, as data -/
def unD : List Sv → Option (List D)
  | [] => some []
  | .d x :: r => (unD r).map fun ds => x :: ds
  | .o _ :: _ => none
  | .fn _ _ :: _ => none
theorem unD_all : ∀ {xs : List Sv} {ds : List D}, unD xs = some ds → AllD xs ds
  | [], ds, h => by
    have e : some [] = some ds := h
    cases e
    exact .nil
  | .d x :: r, ds, h => by
    have e : (unD r).map (fun ds => x :: ds) = some ds := h
    obtain ⟨es, e1, rfl⟩ := Option.map_eq_some_iff.mp e
    exact .cons (unD_all e1)
  | .o _ :: _, ds, h => by
    have e : (none : Option (List D)) = some ds := h
    cases e
  | .fn _ _ :: _, ds, h => by
    have e : (none : Option (List D)) = some ds := h
    cases e
section
variable {K : PySem.W.Frag} {X : Xc} {S : Sa} {Q : Sv → Os → Prop} {ta : TA}
theorem ew_lst2 (h : AW K X ta S fun xs os => ∃ ds, unD xs = some ds ∧ ds.length ≤ sizeLine ∧ Q (.d (.lst ds)) os) : EW K X (tLst ta) S Q :=
  ew_lst fun as H σ Q' R x k => h as H σ Q' R x fun vs H1 xs os1 g1 R1 r1 ⟨ds, e, q⟩ => k vs H1 xs os1 g1 R1 r1 ⟨ds, unD_all e, q⟩
theorem ew_tup2 (h : AW K X ta S fun xs os => ∃ ds, unD xs = some ds ∧ ds.length ≤ sizeLine ∧ Q (.d (.tup ds)) os) : EW K X (tTup ta) S Q :=
  ew_tup fun as H σ Q' R x k => h as H σ Q' R x fun vs H1 xs os1 g1 R1 r1 ⟨ds, e, q⟩ => k vs H1 xs os1 g1 R1 r1 ⟨ds, unD_all e, q⟩
end
end Br

/-! BrU: kinds asked, texts joined, looked through; an exception made and raised. -/
namespace Br
open PySem L2
/-- the kind of data -/
def D.ty : D → Option String
  | .non => some "NoneType"
  | .bl _ => some "bool"
  | .int _ => some "int"
  | .str _ => some "str"
  | .lst _ => some "list"
  | .tup _ => some "tuple"
  | .dk _ => some "dict"
  | .ob _ _ => none
  | .xo _ _ => none
section
variable {K : PySem.W.Frag} {X : Xc} {S : Sa} {Q : Sv → Os → Prop} {te to : TE} {ta : TA}
theorem dx_ty {as : List Addr} {H : Hp} {v : V} {d : D} {n : String} (r : Dx K as H v d) (e : d.ty = some n) : TyX K H v (.type n) := by
  cases r with
  | non => cases e; exact .base .non
  | bl b => cases e; exact .base (.bl b)
  | int i => cases e; exact .base (.int i)
  | str x => cases e; exact .base (.str x)
  | lst hl hr =>
    cases e
    rcases hl with ⟨_, h | ⟨o, h⟩⟩ | ⟨o, its, k, h, c, _⟩
    · exact .base (.lst h)
    · exact .base (.frz h)
    · exact .kList h c
  | tup hl hr =>
    cases e
    rcases hl with ⟨_, h | ⟨o, h⟩⟩ | ⟨o, its, k, h, c, _⟩
    · exact .base (.tup h)
    · exact .fTuple h
    · exact .kTuple h c
  | dk n h hr =>
    cases e
    rcases h with h | ⟨o, h⟩
    · exact .base (.dK h)
    · exact .fDict h
  | ob => cases e
  | xo => cases e
/-- isinstance(x, a built-in type) -/
theorem ew_isi {n : String} (h : EW K X te S fun x os => ∃ d a r, x = .d d ∧ d.ty = some a ∧ kitB a n = some r ∧ Q (.d (.bl r)) os) : EW K X (tCB (rIsi K) (tCons te (tCons (tC (.ty n)) tNil))) S Q := fun as H σ Q' R x k =>
  h as H σ _ R x fun v H1 d os1 g1 R1 r1 ⟨e, a, r, ed, ea, er, q⟩ => by
    subst ed
    exact ⟨v, .ty n, .type a, .type n, r, rfl, .ty n, dx_ty r1 ea, kit_ty er, k (.bl r) H1 (.d (.bl r)) os1 g1 R1 (Dx.bl r) q⟩
/-- sep.join(a list of texts) -/
theorem ew_join (h : EW K X to S fun x os => ∃ a : Str, x = .d (.str a) ∧ EW K X te ⟨S.s, os⟩ fun y os2 => ∃ ys : List Str, y = .d (.lst (ys.map D.str)) ∧ (ys.map (·.length)).sum + ys.length * a.length ≤ 16777216 ∧ Q (.d (.str (Txt.join a ys))) os2) :
    EW K X (tM1 (fun x xs H Q => ∃ a p, ∃ ys : List Str, x = .str a ∧ xs = [.ref p] ∧ (SqL K H p (ys.map V.str) ∨ SqT K H p (ys.map V.str)) ∧ (ys.map (·.length)).sum + ys.length * a.length ≤ 16777216 ∧ Q (.str (Txt.join a ys)) H) to te) S Q := fun as H σ Q' R x k =>
  h as H σ _ R x fun v H1 d os1 g1 R1 r1 ⟨a, ed, h2⟩ => by
    subst ed
    cases r1
    refine ⟨⟨a, rfl⟩, h2 as H1 σ _ (R.go g1 R1) (x.go g1 R1) fun u H2 e os2 g2 R2 r2 ⟨ys, ey, hl, q⟩ => ?_⟩
    subst ey
    cases r2 with
    | @lst p vs _ hl2 hr =>
      have ev := DxA.of_strs hr
      subst ev
      exact ⟨a, p, ys, rfl, rfl, .inl hl2.sq, hl, k _ H2 (.d (.str _)) os2 (g1.trans g2) R2 (Dx.str _) q⟩
/-- a.index(b) -/
theorem ew_sindex (h : EW K X to S fun x os => ∃ a : Str, x = .d (.str a) ∧ EW K X te ⟨S.s, os⟩ fun y os2 => ∃ (b : Str) (i : Nat), y = .d (.str b) ∧ (Builtin.Str.occurrences a b 0 a.length 1).head? = some i ∧ Q (.d (.int (i : Int))) os2) :
    EW K X (tM1 (fun x xs H Q => ∃ a b i rest, x = .str a ∧ xs = [.str b] ∧ Builtin.Str.occurrences a b 0 a.length 1 = i :: rest ∧ Q (.int (i : Nat)) H) to te) S Q := fun as H σ Q' R x k =>
  h as H σ _ R x fun v H1 d os1 g1 R1 r1 ⟨a, ed, h2⟩ => by
    subst ed
    cases r1
    refine ⟨⟨a, rfl⟩, h2 as H1 σ _ (R.go g1 R1) (x.go g1 R1) fun u H2 e os2 g2 R2 r2 ⟨b, i, ey, ho, q⟩ => ?_⟩
    subst ey
    cases r2
    cases eo : Builtin.Str.occurrences a b 0 a.length 1 with
    | nil => rw [eo] at ho; cases ho
    | cons j rest =>
      rw [eo] at ho
      cases ho
      exact ⟨a, b, i, rest, rfl, rfl, eo, k _ H2 (.d (.int _)) os2 (g1.trans g2) R2 (Dx.int _) q⟩
end
/-! ### an exception of the text's own -/
/-- data without a place -/
def D.flat : D → Option V
  | .non => some .non
  | .bl b => some (.bl b)
  | .int i => some (.int i)
  | .str x => some (.str x)
  | _ => none
theorem dx_flat {K : PySem.W.Frag} {as : List Addr} {H : Hp} {v : V} : ∀ {d : D}, d.flat = some v → Dx K as H v d
  | .non, e => by cases e; exact .non
  | .bl b, e => by cases e; exact .bl b
  | .int i, e => by cases e; exact .int i
  | .str x, e => by cases e; exact .str x
  | .lst _, e => by cases e
  | .tup _, e => by cases e
  | .dk _, e => by cases e
  | .ob _ _, e => by cases e
  | .xo _ _, e => by cases e
theorem flat_dx {K : PySem.W.Frag} {as : List Addr} {H : Hp} {u v : V} : ∀ {d : D}, d.flat = some v → Dx K as H u d → u = v
  | .non, e, r => by cases e; cases r; rfl
  | .bl b, e, r => by cases e; cases r; rfl
  | .int i, e, r => by cases e; cases r; rfl
  | .str x, e, r => by cases e; cases r; rfl
  | .lst _, e, _ => by cases e
  | .tup _, e, _ => by cases e
  | .dk _, e, _ => by cases e
  | .ob _ _, e, _ => by cases e
  | .xo _ _, e, _ => by cases e
/-- C.__init__ of one field -/
def spI1 (C : Addr) (f : Str) (P : V → Prop) : Sp := fun vs H Q _ => ∃ (a : Addr) (v : V), vs = [.ref a, v] ∧ P v ∧ H a = some (exo a C none) ∧
  ∀ dx H', H dx = none → dx ≠ a → H' a = some (exo a C (some dx)) → H' dx = some (exd dx [(f, v)]) → (∀ b o, H b = some o → b ≠ a → H' b = some o) → Q .non H'
section
variable {K : PySem.W.Frag} {X : Xc} {S : Sa} {E : Ea} {ta : TA}
theorem w_raise1 {C : Addr} {f : Str} {P : V → Prop} {Wx : WX} (hw : Wx = X.wx) (h : AW K X ta S fun xs os => ∃ d v, xs = [.d d] ∧ d.flat = some v ∧ P v ∧ X.xe C [(f, d)] ⟨S.s, os⟩) :
    W K X (fun _ σ H => tMkO C (spI1 C f P) [] ta σ H fun cls dd H' => Wx cls dd σ H') E S := fun as H σ D R x n r b c => by
  refine h as H σ _ R (x.h R) fun vs H1 xs os1 g1 R1 r1 ⟨d, v, e, ef, hP, q⟩ => ?_
  subst e
  cases r1 with
  | @cons u _ _ _ r1 rn =>
    cases rn
    have ev : v = u := (flat_dx ef r1).symm
    subst ev
    refine ⟨Nat.le_of_ble_eq_true rfl, fun a ha => ⟨a, _, rfl, hP, upd_same, fun dx H2 h1 h2 h3 h4 h6 => ⟨rfl, dx, _, h3, h4, ?_, ?_⟩⟩⟩
    · rw [upd_ne h2] at h1
      exact h1
    · have hdx : H1 dx = none := by
        rw [upd_ne h2] at h1
        exact h1
      have gg : ∀ b o, H1 b = some o → (upd (del H2 a) dx (.xd [(f, v)])) b = some o := fun b o e => by
        have hb : b ≠ a := ne_of_none e ha
        rw [upd_ne (ne_of_none e hdx), del_ne hb]
        exact h6 b o (by rw [upd_ne hb]; exact e) hb
      have g2 : Go as H1 (upd (del H2 a) dx (.xd [(f, v)])) := fun b o e _ => gg b o e
      have R3 : Ro K as (upd (del H2 a) dx (.xd [(f, v)])) os1 := ⟨R1.nd, R1.len, fun k b ob e1 e2 => (R1.own k b ob e1 e2).way (Way.of_go g2) fun w e => gg b w e⟩
      have g3 : Go as H (upd (del H2 a) dx (.xd [(f, v)])) := g1.trans g2
      have z := x.h R _ C dx [(f, v)] [(f, d)] os1 g3 R3 (g1.free (R1.notin hdx) hdx) upd_same (.cons (dx_flat ef) .nil) q
      rw [hw]
      exact z
end
end Br

/-! BrX: an exception that is caught and kept. -/
namespace Br
open PySem PySem.Spec PyProof.Rows L2
theorem exk_ok {P : Program} {w : World} {H : Hp} {h : Heap} {C dd a : Addr} {oe : Obj} {vs : Array Value} (e : h.get? a = some oe) (z : Zc (.ref C) (some dd) oe) (d : oe.data = .fields vs) : ObjOk P w H h a (Exk C dd a) :=
  ⟨⟨oe, vs, e, z, d⟩, ⟨oe, e⟩, fun _ _ ⟨o, v, q, r⟩ k => ⟨o, v, k o q, r⟩⟩
section
variable {X : Cx} {pins : List (Addr × Obj)} {σ : L2.St} {H : Hp} {s : Shared}
/-- what is pinned and new is tracked -/
theorem inv_keep {a : Addr} {oe : Obj} {o : HO} (I : Inv X ((a, oe) :: pins) σ H s) (n0 : X.s_0.heap.get? a = none) (hp : ∀ p ∈ X.pn ++ pins, p.1 ≠ a) (new : ObjOk X.prog X.w (upd H a o) s.heap a o) : Inv X pins σ (upd H a o) s := by
  obtain ⟨he, na, nL, nF, nc⟩ := I.pin (a, oe) (List.mem_append_right _ List.mem_cons_self)
  refine ⟨I.ok, I.os, I.bare, ⟨I.base.keep, I.base.slot, fun b u e n hx => ?_, I.base.there, fun b xs e => ?_, fun b u xs e => ?_, fun b ps e => ?_⟩, I.loc, I.cell, ?_, fun x c e => ?_, fun p hq => ?_, ?_, I.len⟩
  · rw [upd_ne (fun z => by rw [z, n0] at e; cases e)]
    exact I.base.free b u e n hx
  · have z := I.base.tups b xs e
    rw [upd_ne (ne_of_none z na)]
    exact z
  · have z := I.base.frzs b u xs e
    rw [upd_ne (ne_of_none z na)]
    exact z
  · obtain ⟨more, z⟩ := I.base.tbls b ps e
    refine ⟨more, ?_⟩
    rw [upd_ne (ne_of_none z na)]
    exact z
  · rw [upd_ne (Ne.symm nL)]
    exact I.free
  · have hc := I.freeC x c e
    rw [upd_ne (fun z => ?_)]
    · exact hc
    · obtain ⟨v, q⟩ := I.cell x c e
      rw [z] at q
      obtain ⟨o', h1, h2⟩ := id q
      rw [he] at h1
      cases h1
      exact nc v h2
  · have hq' : p ∈ X.pn ++ (a, oe) :: pins := by
      rcases List.mem_append.mp hq with z | z
      · exact List.mem_append_left _ z
      · exact List.mem_append_right _ (List.mem_cons_of_mem _ z)
    obtain ⟨h1, h2, h3, h4, h5⟩ := I.pin p hq'
    refine ⟨h1, ?_, h3, h4, h5⟩
    rw [upd_ne (hp p hq)]
    exact h2
  · exact HOk.laidN I.hok (fun _ _ e => e) na new
end
/-- except x as n: y = n -/
def wKeep (K : PySem.W.Frag) (c : Value) (i j : Nat) (D : Ends) : WX := fun cls d σ H =>
  PySem.W.exmOne K cls c = some true ∧ ∃ C dd, cls = .ref C ∧ d = some dd ∧ i < σ.length ∧ ∀ a, H a = none → D.nx (((σ.set i (some (.ref a))).set j (some (.ref a))).set i none) (upd H a (Exk C dd a))
section
variable {X : Cx} {x n y : Str} {c : Value} {i j : Nat} {body : List Stmt} {np p1 p2 p3 pos pos' : Pos} {tb : WX → TS}
theorem ps_try_keep (hs : X.stack = X.env :: X.outer) (hf : X.env.frame = some X.env.locals) (hN : X.N.Nodup) (hi : X.N[i]? = some n) (hln : X.env.kindOf n = some .local) (hlv : X.env.scope.names.lookup n = some .local) (hj : X.N[j]? = some y) (hjl : X.env.scope.names.lookup y = some .local) (hc : Names X x c) (hex : X.ex = [])
    (hb : ∀ (W : WX) (pn : List (Addr × Obj)) (xe : Value → Shared → Prop), Takes (X.tr pn xe) W → PassesOwn (model X.prog X.w) X.A X.env xe → PSs (X.tr pn xe) body (tb W))
    (hsw : swapsWith (.Name n p1) (some (.Name y p2)) p3.line X.env = pure false := by rfl) (hd1 : (n == ("__debug__" : Str)) = false := by decide) (hd2 : (n == ("__classdict__" : Str)) = false := by decide) :
    PS X (.Try body [.ExceptHandler (some (.Name x np)) (some n) [.Assign [.Name y p2] (.Name n p1) p3] pos'] [] [] pos) (fun D σ H => tb (wKeep X.K c i j D) D σ H) := by
  refine ⟨fun pins s σ H D I h => ?_⟩
  have ok := I.ok
  have hfr : X.A.frames = some (X.env :: X.outer) := by rw [ok.frames, hs]
  have hloc : Loc X.env.scope n := .inl hln
  refine wpAny_Try_except ?_
  refine wpAny_mono ((hb (wKeep X.K c i j D) (X.pn ++ pins) (fun e s₁ => wpAny (model X.prog X.w) X.A (noteFrame e X.env) (fun _ s₂ => wpAny (model X.prog X.w) X.A (setFlight e none) (fun _ s₃ =>
    wpAny (model X.prog X.w) X.A (handleBy e X.env [.ExceptHandler (some (.Name x np)) (some n) [.Assign [.Name y p2] (.Name n p1) p3] pos']) (SP X pins D) X.xe s₃) X.xe s₂) X.xe s₁) (fun u s' xx => ?_) PassesOwn.looking).run [] s σ H D (I.toTry _) h) (fun f s1 hsp => ?_) (fun e s1 he => he)
  · obtain ⟨a, B, sI, pins', σ', H', cls, d, rfl, J', nb, up, sky, na, os, ag, hb1, C, dd, rfl, rfl, hil, hyes⟩ := xx
    have J : Inv X pins σ' H' sI := J'.ofTry ok
    have sky' : Sky B (X.env :: X.outer) a (Zc (.ref C) (some dd)) X.env.locals s'.heap := by rw [← hs]; exact sky
    show wpAny (model X.prog X.w) X.A (noteFrame (.ref a) X.env) _ _ _
    refine Sky.land Zc.steady hfr hf sky' fun h3 fl3 up3 => ?_
    have J3 : Inv X pins σ' H' { s' with heap := h3 } := J.landed nb fl3.1 (up.trans up3) os ag
    obtain ⟨oe3, vs3, he3, hz3, hd3⟩ := fl3.there
    have notFr : ∀ {h : Heap} {o : Obj} {vs : Array Value}, h.FunFrames B (X.env :: X.outer) → h.get? a = some o → o.data = .fields vs → a ∉ frs (X.env :: X.outer) := fun {h o vs} ff e dd hm => by
      obtain ⟨_, o', e', hnf⟩ := ff.mem hm
      rw [e] at e'; cases e'
      exact hnf _ dd
    have nfr := notFr fl3.2.2.1 he3 hd3
    have nL : a ≠ X.env.locals := fun z => nfr (List.mem_filterMap.mpr ⟨X.env, List.mem_cons_self, by rw [hf, z]⟩)
    have nF : a ∉ X.fs := fun hm => by
      obtain ⟨e, he, q⟩ := List.mem_filterMap.mp hm
      exact nfr (List.mem_filterMap.mpr ⟨e, List.mem_cons_of_mem _ he, q⟩)
    have nI : sI.heap.get? a = none := by
      cases e : sI.heap.get? a with
      | none => rfl
      | some o =>
        have z := nb a o e (by rw [hs]; exact nfr)
        rw [fl3.2.1] at z
        cases z
    have n0 : X.s_0.heap.get? a = none := by
      cases e : X.s_0.heap.get? a with
      | none => rfl
      | some o =>
        obtain ⟨o', z⟩ := J.base.there a o e (by rw [hex]; exact fun z => nomatch z)
        rw [nI] at z
        cases z
    have np' : ∀ p ∈ X.pn ++ pins, p.1 ≠ a := fun p hp z => by
      have e := (J.pin p hp).1
      rw [z, nI] at e
      cases e
    have S3 := J3.suite he3 hd3 na nL nF
    refine wpAny_handleBy_cons (codeAny_handlers_test ?_) (by intro q; cases q)
    have LT : PySem.W.Looks (model X.prog X.w) h3 (typeOf (.ref a)) (.ref C) := fun A Q E s k q => wpAny_typeOf_ref (k _ _ he3) (by rw [hz3.1]; exact q)
    have LM := PySem.W.exm_one (M := model X.prog X.w) (J3.kIn) LT hb1
    have test : ∀ {Q : Value → Shared → Prop} {E : Value → Shared → Prop}, Q c { s' with heap := h3 } → wpAny (model X.prog X.w) (X.A.mark (some (.ref a))) (eval (.Name x np) X.env) Q E { s' with heap := h3 } := fun {Q E} q => by
      obtain ⟨hg, hdbg, hm | ⟨hm, hv, hnn⟩⟩ := hc
      · exact ld_glob (X := X.suite a ((a, oe3) :: (X.pn ++ pins))) S3 hg hm q hdbg
      · exact ld_blt (X := X.suite a ((a, oe3) :: (X.pn ++ pins))) S3 hg hm hv q hnn hdbg
    refine test (LM.here ?_)
    refine codeAny_handlers_suite_as ?_
    refine HandSPX.lands_againZ fl3 fun h4 fl4 up4 => ?_
    have J4 : Inv X pins σ' H' { s' with heap := h4 } := J.landed nb fl4.1 ((up.trans up3).trans up4) os ag
    obtain ⟨oe4, vs4, he4, hz4, hd4⟩ := fl4.there
    have S4 := J4.suite he4 hd4 na nL nF
    refine store_ok (X := X.suite a ((a, oe4) :: (X.pn ++ pins))) (v := .ref a) S4 hN hi hloc rfl (fun s5 S5 => ?_) (.inr hln)
    have suite : PSs (X.suite a ((a, oe4) :: (X.pn ++ pins))) [.Assign [.Name y p2] (.Name n p1) p3] (tAsg (tVar i) (gName j)) :=
      pss_one (ps_set (X := X.suite a ((a, oe4) :: (X.pn ++ pins))) hN hj (.inl hjl) (pe_var (X := X.suite a ((a, oe4) :: (X.pn ++ pins))) hi (.inl hlv) hd1 hd2) hsw (.inr hjl))
    refine wpAny_mono (suite.run [] s5 _ H' { nx := fun σ6 H6 => H6 = H' ∧ σ6 = (σ'.set i (some (.ref a))).set j (some (.ref a)), rt := fun _ _ => False, bk := fun _ _ => False, ct := fun _ _ => False } S5 ⟨.ref a, by rw [List.getElem?_set_self hil], rfl, rfl⟩) (fun f s6 hsp => ?_) (fun _ _ z => False.elim z)
    cases f with
    | next =>
      obtain ⟨σ6, H6, S6, q6, q7⟩ := hsp
      subst q6
      have pinA := S6.pin (a, oe4) (List.mem_append_left _ List.mem_cons_self)
      have S7 : Inv X ((a, oe4) :: pins) σ6 H6 s6 := (Inv.unsuite S6 ok).pins_of fun p hp => by
        rcases List.mem_cons.mp hp with e | z
        · rw [e]
          exact pinA
        · exact S6.pin p (List.mem_append_left _ (List.mem_cons_of_mem _ (List.mem_append_right _ z)))
      refine gone_ok S7 hN hi hln fun s7 J7 => ?_
      have e7 := (J7.pin (a, oe4) (List.mem_append_right _ List.mem_cons_self)).1
      refine ⟨_, _, inv_keep J7 n0 np' (exk_ok e7 hz4 hd4), ?_⟩
      rw [q7]
      exact hyes a na
    | brk =>
      obtain ⟨σ6, H6, S6, q6⟩ := hsp
      exact q6.elim
    | cont =>
      obtain ⟨σ6, H6, S6, q6⟩ := hsp
      exact q6.elim
    | ret u =>
      obtain ⟨v6, σ6, H6, S6, r6, q6⟩ := hsp
      exact q6.elim
  · cases f with
    | next =>
      obtain ⟨σ', H', J', q⟩ := hsp
      exact wpAny_execs_nil ⟨σ', H', J'.ofTry ok, q⟩
    | brk =>
      obtain ⟨σ', H', J', q⟩ := hsp
      exact ⟨σ', H', J'.ofTry ok, q⟩
    | cont =>
      obtain ⟨σ', H', J', q⟩ := hsp
      exact ⟨σ', H', J'.ofTry ok, q⟩
    | ret u =>
      obtain ⟨v, σ', H', J', r, q⟩ := hsp
      exact ⟨v, σ', H', J'.ofTry ok, r, q⟩
end
/-! ### what is asked of a kept exception -/
/-- kept.f -/
def tXk (C : Addr) (f : Str) (te : TE) : TE := fun σ H Q => te σ H fun x H1 => ∃ (a dd : Addr) (fs : List (Str × V)) (v : V), x = .ref a ∧ H1 a = some (Exk C dd a) ∧ H1 dd = some (.xd fs) ∧ fs.lookup f = some v ∧ Q v H1
theorem inst_exk {X : Cx} {pins : List (Addr × Obj)} {σ : L2.St} {H : Hp} {s : Shared} {C dd a : Addr} {fs : List (Str × V)} (I : Inv X pins σ H s) (ea : H a = some (Exk C dd a)) (ed : H dd = some (.xd fs)) :
    ∃ (oe : Obj) (od : Obj) (mA : Str → Option Value), PySem.W.InstAt s.heap a oe C (some od) ∧ (∀ f, RelO (fs.lookup f) (mA f)) ∧ ∀ n, PySem.W.lookIn n od = some (mA n) := by
  obtain ⟨⟨oe, vs, he, hz, hd⟩, _⟩ := (show ObjOk X.prog X.w H s.heap a (Exk C dd a) from I.hok a _ ea)
  have hx : ObjOk X.prog X.w H s.heap dd (.xd fs) := I.hok dd _ ed
  obtain ⟨mA, hns, hr⟩ := hx
  obtain ⟨od, ho, hl⟩ := lookIn_ns hns
  exact ⟨oe, od, mA, ⟨he, hz.1, by unfold PySem.W.notCls; rw [hd] <;> rfl, by rw [hz.2]; exact ho⟩, hr, hl⟩
theorem pe_xk {X : Cx} {C : Addr} {e : Expr} {te : TE} {pos : Pos} {n : Str} (T : XfC X.K C) (hno : PySem.W.findIn X.K (.ref C) n = some none) (he : PE X e te) (hb : attributeBase e n X.env (eval e X.env) = eval e X.env := by rfl) :
    PE X (.Attribute e n pos) (tXk C n te) := by
  refine ⟨fun pins s σ H Q I h => ?_⟩
  refine attr_of hb (thn (he.run pins s σ H _ I h) fun u s1 hh => ?_)
  obtain ⟨x, H1, I1, rx, a, dd, fs, v, ex, ea, ed, l, q⟩ := hh
  subst ex
  obtain rfl : u = Value.ref a := rx
  obtain ⟨oe, od, mA, J, hr, hl⟩ := inst_exk I1 ea ed
  obtain ⟨u, hu, ru⟩ := RelO.some_of (v := v) (o := mA n) (by rw [← l]; exact hr n)
  exact HandSPX.exc_get I1.kIn J T.ga T.gg T.exC (PySem.W.findObj_own T.hdC hno rfl (by rw [hl, hu])) (handed_of ru) ⟨v, H1, I1.tok _, ru, q⟩
/-- isinstance(kept, c) -/
def rIsK (K : PySem.W.Frag) (C : Addr) : List V → Hp → VK → Prop := fun xs H Q => ∃ (a dd : Addr) (fs : List (Str × V)) (c : V) (cv : Value) (b : Bool), xs = [.ref a, c] ∧ H a = some (Exk C dd a) ∧ H dd = some (.xd fs) ∧ ClsV c cv ∧ PySem.W.kitOne K (.ref C) cv = some b ∧ Q (.bl b) H
theorem call_isK {X : Cx} {D : Addr} (C : ExcC X.K D) (hcl : (PySem.W.clsIn X.K D).isSome = true) : CallR X (.builtin "isinstance") (rIsK X.K D) := by
  intro pins s σ H xs us Q I r h
  obtain ⟨a, dd, fs, c, cv, b, rfl, ea, ed, hcv, e, q⟩ := h
  obtain ⟨u1, u2, rfl, r1, r2⟩ := vals2 r
  cases (show u1 = Value.ref a from r1)
  have ec := hcv.eq r2
  subst ec
  obtain ⟨oe, od, mA, J, hr, hl⟩ := inst_exk I ea ed
  exact PySem.W.kia_one (PySem.W.kitx_exc hcl C.hg C.hk C.hs C.ha C.hn C.ht C.hm) I.kIn J e (fun z => nomatch z) fun tk => ⟨.bl b, H, I.tok tk, rfl, q⟩
section
variable {K : PySem.W.Frag} {X : Xc} {S : Sa} {Q : Sv → Os → Prop} {te : TE} {E : Ea}
def lookF (fds : List (Str × D)) (f : Str) : Option D := (fds.find? fun kv => kv.1 = f).map (·.2)
theorem dxf_look {as : List Addr} {H : Hp} {f : Str} : ∀ {vs : List (Str × V)} {ds : List (Str × D)} {z : D}, DxF K as H vs ds → lookF ds f = some z → ∃ v, vs.lookup f = some v ∧ Dx K as H v z
  | _, _, _, .nil, e => by simp [lookF] at e
  | _, _, z, .cons (k := k) (v := v) (d := d) (ds := ds) (vs := vs) h r, e => by
    by_cases hk : k = f
    · have e2 : some d = some z := by rw [← e]; simp [lookF, List.find?_cons, hk]
      cases e2
      refine ⟨v, ?_, h⟩
      rw [List.lookup_cons, hk]
      simp
    · have e2 : lookF ds f = some z := by rw [← e]; simp [lookF, List.find?_cons, hk]
      obtain ⟨u, h1, h2⟩ := dxf_look r e2
      refine ⟨u, ?_, h2⟩
      rw [List.lookup_cons, show (f == k) = false by simpa using fun z => hk z.symm]
      exact h1
theorem ew_xk {C : Addr} {f : Str} (h : EW K X te S fun x os => ∃ fds d, x = .d (.xo C fds) ∧ lookF fds f = some d ∧ Q (.d d) os) : EW K X (tXk C f te) S Q := fun as H σ Q' R x k =>
  h as H σ _ R x fun v H1 d os1 g1 R1 r1 ⟨fds, z, ed, el, q⟩ => by
    subst ed
    cases r1 with
    | xo n1 n2 h1 h2 hr =>
      obtain ⟨u, e1, e2⟩ := dxf_look hr el
      exact ⟨_, _, _, u, rfl, h1, h2, e1, k u H1 (.d z) os1 g1 R1 e2 q⟩
theorem ew_isK {C : Addr} {n : String} (h : EW K X te S fun x os => ∃ fds r, x = .d (.xo C fds) ∧ PySem.W.kitOne K (.ref C) (.type n) = some r ∧ Q (.d (.bl r)) os) : EW K X (tCB (rIsK K C) (tCons te (tCons (tC (.ty n)) tNil))) S Q := fun as H σ Q' R x k =>
  h as H σ _ R x fun v H1 d os1 g1 R1 r1 ⟨fds, r, ed, er, q⟩ => by
    subst ed
    cases r1 with
    | xo n1 n2 h1 h2 hr => exact ⟨_, _, _, .ty n, .type n, r, rfl, h1, h2, .ty n, er, k (.bl r) H1 (.d (.bl r)) os1 g1 R1 (Dx.bl r) q⟩
theorem bw_isN0 {os : Os} (q : Q (.d (.bl true)) os) : BW K rIsN (.d .non) (.d .non) os Q :=
  bw_pure (fun as H v u Q' R rx ry k => by
    cases rx
    cases ry
    exact ⟨rfl, k _ (.bl true)⟩) q
theorem bw_isN1 {os : Os} {C : Addr} {fds : List (Str × D)} (q : Q (.d (.bl false)) os) : BW K rIsN (.d (.xo C fds)) (.d .non) os Q :=
  bw_pure (fun as H v u Q' R rx ry k => by
    cases rx
    cases ry
    exact ⟨rfl, k _ (.bl false)⟩) q
/-- try: .. except c as n: y = n -/
theorem w_try_keep {c : Value} {i j : Nat} {tb : WX → TS} {xe : Addr → List (Str × D) → Sa → Prop} (hi : i < S.s.length) (h : ∀ wx, W K ⟨wx, xe⟩ (tb wx) { nx := E.nx, rt := E.rt, bk := E.bk, ct := E.ct } S)
    (hx : ∀ C fds S', xe C fds S' → PySem.W.exmOne K (.ref C) c = some true ∧ i < S'.s.length ∧ E.nx ⟨((S'.s.set i (some (.d (.xo C fds)))).set j (some (.d (.xo C fds)))).set i none, S'.os⟩) :
    W K X (fun D σ H => tb (wKeep K c i j D) D σ H) E S := fun as H σ D R x n r b ct => by
  refine h (wKeep K c i j D) as H σ D R ?_ n r b ct
  intro bs H' σ' S' C dd fs fds s R' hdd e rf z
  obtain ⟨h1, h2, h3⟩ := hx C fds S' z
  refine ⟨h1, C, dd, rfl, rfl, by rw [R'.slen]; exact h2, fun a ha => ?_⟩
  have g : Go bs H' (upd H' a (Exk C dd a)) := Go.new ha
  have R2 : Re K bs (upd H' a (Exk C dd a)) σ' S' := R'.go g (R'.o.new ha)
  have hdn : dd ∉ bs := fun hm => by
    obtain ⟨k, hk, ek⟩ := List.mem_iff_getElem.mp hm
    have h1 : bs[k]? = some dd := by rw [List.getElem?_eq_getElem hk, ek]
    have h2 : k < S'.os.length := R'.o.len ▸ hk
    have z := R'.o.own k dd S'.os[k] h1 (List.getElem?_eq_getElem h2)
    cases eo : S'.os[k] with
    | ml xs =>
      rw [eo] at z
      obtain ⟨vs, q, _⟩ := z
      rw [e] at q
      cases q
    | md xs =>
      rw [eo] at z
      obtain ⟨vs, q, _⟩ := z
      rw [e] at q
      cases q
    | mi C fs =>
      rw [eo] at z
      obtain ⟨dx, vs, q, _⟩ := z
      rw [e] at q
      cases q
    | tb P q =>
      rw [eo] at z
      obtain ⟨ps, q, _⟩ := z
      rw [e] at q
      cases q
    | mp p xs =>
      rw [eo] at z
      obtain ⟨vs, q, _⟩ := z
      rw [e] at q
      cases q
    | lp p od vs xs =>
      rw [eo] at z
      obtain ⟨q, _⟩ := z
      rw [e] at q
      cases q
    | mr C fs =>
      rw [eo] at z
      obtain ⟨dx, q, _⟩ := z
      rw [e] at q
      cases q
  have had : dd ≠ a := ne_of_none e ha
  have rx : Dx K bs (upd H' a (Exk C dd a)) (.ref a) (.xo C fds) := .xo (R'.o.notin ha) hdn upd_same (by rw [upd_ne had]; exact e) (DxF.way (Way.of_go g) rf)
  have R3 := (R2.set i (v := .ref a) (d := .d (.xo C fds)) rx).set j (v := .ref a) (d := .d (.xo C fds)) rx
  have R4 : Re K bs (upd H' a (Exk C dd a)) (((σ'.set i (some (.ref a))).set j (some (.ref a))).set i none) ⟨((S'.s.set i (some (.d (.xo C fds)))).set j (some (.d (.xo C fds)))).set i none, S'.os⟩ := by
    refine ⟨R3.o, by simpa using R3.slen, fun k d hd => ?_⟩
    have hd' : ((((S'.s.set i (some (Sv.d (.xo C fds)))).set j (some (Sv.d (.xo C fds)))).set i none)[k]? = some (some d)) := hd
    by_cases hk : i = k
    · subst hk
      rw [List.getElem?_set] at hd'
      split at hd'
      · split at hd' <;> cases hd'
      · exact absurd rfl ‹_›
    · rw [List.getElem?_set_ne hk] at hd'
      obtain ⟨u, e1, e2⟩ := R3.slot k d hd'
      exact ⟨u, by rw [List.getElem?_set_ne hk]; exact e1, e2⟩
  exact n bs _ _ _ (s.trans (Stp.of_go g R2.o)) R4 h3
end
end Br

/-! BrH: the store's lists: made, grown, read. -/
namespace Br
open PySem L2
section
variable {K : PySem.W.Frag} {X : Xc} {S : Sa} {Q : Sv → Os → Prop} {E : Ea} {te to : TE} {ta : TA}
theorem stp_new {as : List Addr} {H : Hp} {os : Os} {p : Addr} (R : Ro K as H os) (hp : H p = none) : Stp as H (as ++ [p]) (upd H p (.lst [])) := stp_add hp
/-- x = [], a list that changes -/
theorem w_newL {i : Nat} (q : E.nx ⟨S.s.set i (some (.o S.os.length)), S.os ++ [.ml []]⟩) : W K X (tAsg (tLst tNil) (gName i)) E S := fun as H σ D R x n r b c => by
  refine ⟨Nat.zero_le _, fun p hp => ?_⟩
  have R2 : Re K (as ++ [p]) (upd H p (.lst [])) σ ⟨S.s, S.os ++ [.ml []]⟩ := ⟨ro_add R.o hp, R.slen, fun j d hd => by
    obtain ⟨u, e, z⟩ := R.slot j d hd
    exact ⟨u, e, z.stp (stp_new R.o hp)⟩⟩
  exact n _ _ _ _ (stp_new R.o hp) (R2.set i (v := .ref p) (d := .o S.os.length) ⟨p, by rw [← R.o.len]; simp, rfl⟩) q
/-- x.append(e) -/
theorem ew_app (h : EW K X to S fun x os1 => ∃ k xs1, x = .o k ∧ os1[k]? = some (.ml xs1) ∧ EW K X te ⟨S.s, os1⟩ fun y os2 => ∃ z xs, y = .d z ∧ os2[k]? = some (.ml xs) ∧ xs.length < sizeLine ∧ Q (.d .non) (os2.set k (.ml (xs ++ [z])))) :
    EW K X (tBM K "list" rAppend to (tCons te tNil)) S Q := fun as H σ Q' R x k =>
  h as H σ _ R x fun v H1 d os1 g1 R1 r1 ⟨j, xs1, ed, eo1, h2⟩ => by
    subst ed
    obtain ⟨a, ea, rfl⟩ := r1
    refine ⟨?_, h2 as H1 σ _ (R.go g1 R1) (x.go g1 R1) fun u H2 e os2 g2 R2 r2 ⟨z, xs, ey, eo, hl, q⟩ => ?_⟩
    · obtain ⟨ws, q1, _⟩ := R1.own j a _ ea eo1
      exact .inl ⟨rfl, ws, .inl (.inl q1)⟩
    · subst ey
      obtain ⟨vs, h1, h3⟩ := R2.own j a _ ea eo
      have hm : a ∈ as := List.mem_of_getElem? ea
      have g3 : Go as H2 (upd H2 a (.lst (vs ++ [u]))) := Go.at hm
      have rz : Dx K as H2 u z := r2
      have R3 : Ro K as (upd H2 a (.lst (vs ++ [u]))) (os2.set j (.ml (xs ++ [z]))) := ro_set R2 ea ⟨_, upd_same, DxA.way (Way.of_go g3) (DxA.app h3 (.cons rz .nil))⟩
      exact ⟨a, vs, u, rfl, rfl, h1, by rw [h3.length]; exact hl, k .non _ (.d .non) _ ((g1.trans g2).trans g3) R3 Dx.non q⟩
/-- a list of the store, as it is read -/
theorem o_list {as : List Addr} {H : Hp} {os : Os} {v : V} {j : Nat} {xs : List D} (R : Ro K as H os) (r : SvR K as H v (.o j)) (e : os[j]? = some (.ml xs)) : ∃ a vs, v = .ref a ∧ SqL K H a vs ∧ DxA K as H vs xs := by
  obtain ⟨a, ea, rfl⟩ := r
  obtain ⟨vs, h1, h2⟩ := R.own j a _ ea e
  exact ⟨a, vs, rfl, .inl (.inl h1), h2⟩
theorem cw_lenO {os : Os} {j : Nat} {xs : List D} (e : os[j]? = some (.ml xs)) (q : Q (.d (.int (xs.length : Int))) os) : CW K (rLen K) [.o j] os Q :=
  cw_pure (fun as H vs Q' R r k => by
    cases r with
    | cons h t =>
      cases t
      obtain ⟨a, ws, rfl, hs, hr⟩ := o_list R h e
      refine ⟨a, ws, rfl, .inl hs, ?_⟩
      rw [hr.length]
      exact k _ (.int _)) q
theorem bw_ixO {os : Os} {j : Nat} {xs : List D} {i : Int} {z : D} (e : os[j]? = some (.ml xs)) (h : L2.atI xs i = some z) (q : Q (.d z) os) : BW K (rIxL K) (.o j) (.d (.int i)) os Q :=
  bw_pure (fun as H v u Q' R rx ry k => by
    cases ry
    obtain ⟨a, ws, rfl, hs, hr⟩ := o_list R rx e
    obtain ⟨u, e1, r⟩ := hr.atI h
    exact ⟨a, ws, i, u, rfl, rfl, hs, e1, k _ r⟩) q
theorem cw_tupO {os : Os} {j : Nat} {xs : List D} (e : os[j]? = some (.ml xs)) (q : Q (.d (.tup xs)) os) : CW K (rTupOf K) [.o j] os Q :=
  cw_new (fun as H vs Q' R r k1 k2 => by
    cases r with
    | cons h t =>
      cases t
      obtain ⟨a, ws, rfl, hs, hr⟩ := o_list R h e
      exact ⟨a, ws, rfl, .inl ⟨hs, fun l hl => k1 l _ hl (dx_newT R hl hr)⟩⟩) q
theorem cw_lstO {os : Os} {j : Nat} {xs : List D} (e : os[j]? = some (.ml xs)) (q : Q (.d (.lst xs)) os) : CW K (rListOf K) [.o j] os Q :=
  cw_new (fun as H vs Q' R r k1 k2 => by
    cases r with
    | cons h t =>
      cases t
      obtain ⟨a, ws, rfl, hs, hr⟩ := o_list R h e
      exact ⟨a, ws, rfl, .inl hs, fun l hl => k1 l _ hl (dx_newL R hl hr)⟩) q
end
end Br

/-! BrW: written constants: tuples, lists, dicts with text keys, looked over at once. -/
namespace Br
open PySem L2
mutual
def dOk (K : PySem.W.Frag) : D → Value → Bool
  | .non, u => decide (u = .none)
  | .bl b, u => decide (u = .bool b)
  | .int i, u => match u with
    | .int j _ => decide (i = j)
    | _ => false
  | .str x, u => match u with
    | .str y _ => decide (x = y)
    | _ => false
  | .tup ds, u => match u with
    | .ref a => match K.lookup a with
      | some o => decide (o.cls = .type "tuple") && match o.data with
        | .seq its _ => decide (its.size ≤ sizeLine) && dsOk K ds its.toList
        | _ => false
      | none => false
    | _ => false
  | .lst ds, u => match u with
    | .ref a => match K.lookup a with
      | some o => decide (o.cls = .type "list") && (decide (o.dict = none) && match o.data with
        | .seq its _ => decide (its.size ≤ sizeLine) && dsOk K ds its.toList
        | _ => false)
      | none => false
    | _ => false
  | .dk _, _ => false
  | .ob _ _, _ => false
  | .xo _ _, _ => false
def dsOk (K : PySem.W.Frag) : List D → List Value → Bool
  | [], us => us.isEmpty
  | d :: ds, us => match us with
    | u :: us => dOk K d u && dsOk K ds us
    | [] => false
end
variable {K : PySem.W.Frag}
mutual
theorem dOk_is : ∀ (d : D) (u : Value), dOk K d u = true → ∃ v, RelV v u ∧ ∀ as H, Dx K as H v d
  | .non, u, h => by
    have h2 : decide (u = .none) = true := h
    have e : u = .none := of_decide_eq_true h2
    exact ⟨.non, e, fun _ _ => .non⟩
  | .bl b, u, h => by
    have h2 : decide (u = .bool b) = true := h
    have e : u = .bool b := of_decide_eq_true h2
    exact ⟨.bl b, e, fun _ _ => .bl b⟩
  | .int i, .int j t, h => by
    have h2 : decide (i = j) = true := h
    have e : i = j := of_decide_eq_true h2
    subst e
    exact ⟨.int i, ⟨t, rfl⟩, fun _ _ => .int i⟩
  | .str x, .str y t, h => by
    have h2 : decide (x = y) = true := h
    have e : x = y := of_decide_eq_true h2
    subst e
    exact ⟨.str x, ⟨t, rfl⟩, fun _ _ => .str x⟩
  | .tup ds, .ref a, h => by
    have h0 : (match K.lookup a with
      | some o => decide (o.cls = .type "tuple") && match o.data with
        | .seq its _ => decide (its.size ≤ sizeLine) && dsOk K ds its.toList
        | _ => false
      | none => false) = true := h
    cases eo : K.lookup a with
    | none => rw [eo] at h0; cases h0
    | some o =>
      rw [eo] at h0
      obtain ⟨h1, h2⟩ := Bool.and_eq_true_iff.mp h0
      have h3 : o.cls = .type "tuple" := of_decide_eq_true h1
      cases ed : o.data with
      | seq its n =>
        rw [ed] at h2
        obtain ⟨h4, h5⟩ := Bool.and_eq_true_iff.mp h2
        obtain ⟨vs, r1, r2⟩ := dsOk_is ds _ h5
        exact ⟨.ref a, rfl, fun as H => .tup (.inr ⟨o, its, n, eo, h3, ed, of_decide_eq_true h4, r1⟩) (r2 as H)⟩
      | _ => rw [ed] at h2; cases h2
  | .lst ds, .ref a, h => by
    have h0 : (match K.lookup a with
      | some o => decide (o.cls = .type "list") && (decide (o.dict = none) && match o.data with
        | .seq its _ => decide (its.size ≤ sizeLine) && dsOk K ds its.toList
        | _ => false)
      | none => false) = true := h
    cases eo : K.lookup a with
    | none => rw [eo] at h0; cases h0
    | some o =>
      rw [eo] at h0
      obtain ⟨h1, h2⟩ := Bool.and_eq_true_iff.mp h0
      obtain ⟨h6, h2⟩ := Bool.and_eq_true_iff.mp h2
      have h3 : o.cls = .type "list" := of_decide_eq_true h1
      cases ed : o.data with
      | seq its n =>
        rw [ed] at h2
        obtain ⟨h4, h5⟩ := Bool.and_eq_true_iff.mp h2
        obtain ⟨vs, r1, r2⟩ := dsOk_is ds _ h5
        exact ⟨.ref a, rfl, fun as H => .lst (.inr ⟨o, its, n, eo, h3, of_decide_eq_true h6, ed, of_decide_eq_true h4, r1⟩) (r2 as H)⟩
      | _ => rw [ed] at h2; cases h2
theorem dsOk_is : ∀ (ds : List D) (us : List Value), dsOk K ds us = true → ∃ vs, Vals vs us ∧ ∀ as H, DxA K as H vs ds
  | [], [], _ => ⟨[], .nil, fun _ _ => .nil⟩
  | [], _ :: _, h => by cases h
  | _ :: _, [], h => by cases h
  | d :: ds, u :: us, h => by
    have h0 : (dOk K d u && dsOk K ds us) = true := h
    obtain ⟨h1, h2⟩ := Bool.and_eq_true_iff.mp h0
    obtain ⟨v, r1, r2⟩ := dOk_is d u h1
    obtain ⟨vs, r3, r4⟩ := dsOk_is ds us h2
    exact ⟨v :: vs, .cons r1 r3, fun as H => .cons (r2 as H) (r4 as H)⟩
end
/-- a written dict with text keys, looked over: just these, in this order -/
def tbOk (K : PySem.W.Frag) (a : Addr) (tb : List (Str × D)) : Bool := tb.all fun kd => match PySem.W.nsIn K a kd.1 with
  | some (some u) => dOk K kd.2 u
  | _ => false
theorem tbOk_at {a : Addr} {tb : List (Str × D)} {k : Str} {d : D} (h : tbOk K a tb = true) (m : (k, d) ∈ tb) : ∃ u v, PySem.W.nsIn K a k = some (some u) ∧ RelV v u ∧ ∀ as H, Dx K as H v d := by
  have z := List.all_eq_true.mp h (k, d) m
  dsimp only at z
  cases e : PySem.W.nsIn K a k with
  | none => rw [e] at z; cases z
  | some o =>
    cases o with
    | none => rw [e] at z; cases z
    | some u =>
      rw [e] at z
      obtain ⟨v, r1, r2⟩ := dOk_is d u z
      exact ⟨u, v, rfl, r1, r2⟩
/-- a written dict, looked over: just these text keys, in this order -/
def keysOk (K : PySem.W.Frag) : List DictEntry → List (Str × D) → Bool
  | [], tb => tb.isEmpty
  | e :: es, tb => match tb with
    | kd :: tb => (match e.key with
      | .str x _ => decide (x = kd.1)
      | _ => false) && (dOk K kd.2 e.val && keysOk K es tb)
    | [] => false
def kdOk (K : PySem.W.Frag) (a : Addr) (tb : List (Str × D)) : Bool := match K.lookup a with
  | some ⟨_, _, .dict es _, _⟩ => keysOk K es.toList tb
  | _ => false
def lookT (tb : List (Str × D)) (z : Str) : Option D := (tb.find? fun kd => decide (kd.1 = z)).map (·.2)
theorem keys_find {z : Str} : ∀ {es : List DictEntry} {tb : List (Str × D)}, keysOk K es tb = true → (∃ d e, lookT tb z = some d ∧ es.find? (·.key.isStr z) = some e ∧ dOk K d e.val = true) ∨ (lookT tb z = none ∧ es.find? (·.key.isStr z) = none)
  | [], [], _ => .inr ⟨rfl, rfl⟩
  | [], _ :: _, h => by cases h
  | _ :: _, [], h => by cases h
  | e :: es, kd :: tb, h => by
    have h0 : ((match e.key with
      | .str x _ => decide (x = kd.1)
      | _ => false) && (dOk K kd.2 e.val && keysOk K es tb)) = true := h
    obtain ⟨h1, h2⟩ := Bool.and_eq_true_iff.mp h0
    obtain ⟨h3, h4⟩ := Bool.and_eq_true_iff.mp h2
    cases ek : e.key with
    | str x t =>
      rw [ek] at h1
      have ex : x = kd.1 := of_decide_eq_true h1
      by_cases hz : kd.1 = z
      · refine .inl ⟨kd.2, e, ?_, ?_, h3⟩
        · unfold lookT
          rw [List.find?_cons_of_pos (by simpa using hz)]
          rfl
        · rw [List.find?_cons_of_pos]
          rw [ek, ex, hz]
          show (z == z) = true
          exact beq_self_eq_true z
      · have ih := keys_find (z := z) h4
        have a1 : lookT (kd :: tb) z = lookT tb z := by
          unfold lookT
          rw [List.find?_cons_of_neg (by simpa using hz)]
        have a2 : (e :: es).find? (·.key.isStr z) = es.find? (·.key.isStr z) := by
          rw [List.find?_cons_of_neg]
          rw [ek, ex]
          show ¬ ((kd.1 == z) = true)
          intro q
          exact hz (eq_of_beq q)
        rw [a1, a2]
        exact ih
    | _ => rw [ek] at h1; cases h1
theorem keys_plain : ∀ {es : List DictEntry} {tb : List (Str × D)}, keysOk K es tb = true → es.any (·.refKey) = false
  | [], _, _ => rfl
  | _ :: _, [], h => by cases h
  | e :: es, kd :: tb, h => by
    have h0 : ((match e.key with
      | .str x _ => decide (x = kd.1)
      | _ => false) && (dOk K kd.2 e.val && keysOk K es tb)) = true := h
    obtain ⟨h1, h2⟩ := Bool.and_eq_true_iff.mp h0
    have ih := keys_plain (Bool.and_eq_true_iff.mp h2).2
    cases ek : e.key with
    | str x t =>
      rw [List.any_cons, ih]
      unfold DictEntry.refKey
      rw [ek]
      rfl
    | _ => rw [ek] at h1; cases h1
/-- what stands at a text -/
theorem kd_at {a : Addr} {tb : List (Str × D)} (h : kdOk K a tb = true) (z : Str) :
    (∃ d u v, lookT tb z = some d ∧ PySem.W.nsIn K a z = some (some u) ∧ RelV v u ∧ ∀ as H, Dx K as H v d) ∨ (lookT tb z = none ∧ PySem.W.nsIn K a z = some none) := by
  unfold kdOk at h
  unfold PySem.W.nsIn
  split at h
  · rename_i c o es n sl e
    rw [e]
    rcases keys_find (z := z) h with ⟨d, x, h1, h2, h3⟩ | ⟨h1, h2⟩
    · obtain ⟨v, r1, r2⟩ := dOk_is d _ h3
      refine .inl ⟨d, x.val, v, h1, ?_, r1, r2⟩
      dsimp only
      rw [h2]
    · refine .inr ⟨h1, ?_⟩
      dsimp only
      rw [h2, keys_plain h]
      rfl
  · cases h
def rKd (K : PySem.W.Frag) (a : Addr) : R2 := fun x y H Q => ∃ (z : Str) (u0 : Value) (v0 : V), x = .ref a ∧ y = .str z ∧ PySem.W.nsIn K a z = some (some u0) ∧ RelV v0 u0 ∧ Q v0 H
def rInKd (K : PySem.W.Frag) (a : Addr) : R2 := fun x y H Q => ∃ (z : Str) (r : Option Value), x = .str z ∧ y = .ref a ∧ PySem.W.nsIn K a z = some r ∧ Q (.bl r.isSome) H
def rNotInKd (K : PySem.W.Frag) (a : Addr) : R2 := fun x y H Q => ∃ (z : Str) (r : Option Value), x = .str z ∧ y = .ref a ∧ PySem.W.nsIn K a z = some r ∧ Q (.bl (!r.isSome)) H
section
variable {X : Xc} {S : Sa} {Q : Sv → Os → Prop} {te : TE} {a : Addr} {tb : List (Str × D)}
/-- T[e] -/
theorem ew_kd (hk : kdOk K a tb = true) (h : EW K X te S fun y os => ∃ z d, y = .d (.str z) ∧ lookT tb z = some d ∧ Q (.d d) os) : EW K X (tOp (rKd K a) (tC (.ref a)) te) S Q := fun as H σ Q' R x k =>
  h as H σ _ R x fun v H1 d os1 g1 R1 r1 ⟨z, e, ed, el, q⟩ => by
    subst ed
    cases r1
    rcases kd_at hk z with ⟨d', u, v, h1, h2, h3, h4⟩ | ⟨h1, _⟩
    · rw [el] at h1
      cases h1
      exact ⟨z, u, v, rfl, rfl, h2, h3, k v H1 (.d _) os1 g1 R1 (h4 as H1) q⟩
    · rw [el] at h1
      cases h1
/-- e in T -/
theorem ew_inKd (hk : kdOk K a tb = true) (h : EW K X te S fun y os => ∃ z, y = .d (.str z) ∧ Q (.d (.bl (lookT tb z).isSome)) os) : EW K X (tOp (rInKd K a) te (tC (.ref a))) S Q := fun as H σ Q' R x k =>
  h as H σ _ R x fun v H1 d os1 g1 R1 r1 ⟨z, ed, q⟩ => by
    subst ed
    cases r1
    rcases kd_at hk z with ⟨d', u, v, h1, h2, h3, h4⟩ | ⟨h1, h2⟩
    · rw [h1] at q
      exact ⟨z, some u, rfl, rfl, h2, k (.bl true) H1 (.d (.bl true)) os1 g1 R1 (Dx.bl true) q⟩
    · rw [h1] at q
      exact ⟨z, none, rfl, rfl, h2, k (.bl false) H1 (.d (.bl false)) os1 g1 R1 (Dx.bl false) q⟩
theorem ew_notInKd (hk : kdOk K a tb = true) (h : EW K X te S fun y os => ∃ z, y = .d (.str z) ∧ Q (.d (.bl (!(lookT tb z).isSome))) os) : EW K X (tOp (rNotInKd K a) te (tC (.ref a))) S Q := fun as H σ Q' R x k =>
  h as H σ _ R x fun v H1 d os1 g1 R1 r1 ⟨z, ed, q⟩ => by
    subst ed
    cases r1
    rcases kd_at hk z with ⟨d', u, v, h1, h2, h3, h4⟩ | ⟨h1, h2⟩
    · rw [h1] at q
      exact ⟨z, some u, rfl, rfl, h2, k (.bl false) H1 (.d (.bl false)) os1 g1 R1 (Dx.bl false) q⟩
    · rw [h1] at q
      exact ⟨z, none, rfl, rfl, h2, k (.bl true) H1 (.d (.bl true)) os1 g1 R1 (Dx.bl true) q⟩
end
section
variable {X : Cx} {a : Addr} {es : Array DictEntry} {n : Nat}
theorem op_kd (D : KDict X.K X.w a es n) : OpR X getItem (rKd X.K a) := op_item_kd D
theorem op_inKd (D : KDict X.K X.w a es n) : OpR X (compareOp .In) (rInKd X.K a) := op_in_kd D
theorem op_notInKd (D : KDict X.K X.w a es n) : OpR X (compareOp .NotIn) (rNotInKd X.K a) := op_notIn_kd D
end
end Br

/-! BrY: all, any, sum of data; tuples put together. -/
namespace Br
open PySem L2
section
variable {K : PySem.W.Frag} {X : Xc} {S : Sa} {os : Os} {Q : Sv → Os → Prop} {te : TE}
theorem cw_all {bs : List Bool} (q : Q (.d (.bl (bs.all id))) os) : CW K (rAll K) [.d (.lst (bs.map D.bl))] os Q :=
  cw_pure (fun as H vs Q' R r k => by
    cases r with
    | cons h t =>
      cases t
      cases h with
      | @lst a ws _ hl hr =>
        have e := DxA.of_bls hr
        subst e
        exact ⟨a, bs, rfl, hl.sq, k _ (.bl _)⟩) q
theorem cw_any {bs : List Bool} (q : Q (.d (.bl (bs.any id))) os) : CW K (rAny K) [.d (.lst (bs.map D.bl))] os Q :=
  cw_pure (fun as H vs Q' R r k => by
    cases r with
    | cons h t =>
      cases t
      cases h with
      | @lst a ws _ hl hr =>
        have e := DxA.of_bls hr
        subst e
        exact ⟨a, bs, rfl, hl.sq, k _ (.bl _)⟩) q
theorem cw_sum {ns : List Int} (q : Q (.d (.int ns.sum)) os) : CW K (rSum K) [.d (.lst (ns.map D.int))] os Q :=
  cw_pure (fun as H vs Q' R r k => by
    cases r with
    | cons h t =>
      cases t
      cases h with
      | @lst a ws _ hl hr =>
        have e := DxA.of_ints hr
        subst e
        exact ⟨a, ns, rfl, hl.sq, k _ (.int _)⟩) q
/-- t + u of tuples -/
theorem bw_catT {xs ys : List D} (hl : xs.length + ys.length ≤ sizeLine) (q : Q (.d (.tup (xs ++ ys))) os) : BW K (rCatA K) (.d (.tup xs)) (.d (.tup ys)) os Q :=
  bw_new (fun as H v u Q' R rx ry k1 k2 => by
    cases rx with
    | @tup a vs _ h1 h2 =>
      cases ry with
      | @tup b us _ h3 h4 =>
        refine ⟨a, b, vs, us, rfl, rfl, h1.sq, h3.sq, by rw [h2.length, h4.length]; exact hl, fun e => ?_, fun e1 e2 => ?_, fun _ _ p hp => k1 p _ hp (dx_newT R hp (h2.app h4))⟩
        · subst e
          have z : xs = [] := by
            have := h2.length
            exact List.length_eq_zero_iff.mp this.symm
          subst z
          exact k2 _ (.tup h3 h4)
        · subst e2
          have z : ys = [] := by
            have := h4.length
            exact List.length_eq_zero_iff.mp this.symm
          subst z
          rw [List.append_nil] at k2
          exact k2 _ (.tup h1 h2)) q
end
end Br

/-! BrZ: zip of a text and a tuple. -/
namespace BrZip
open PySem PySem.Spec PyProof.Rows Builtin Builtin.SmallTypes
abbrev mz1 (h : Heap) (x : Str) (t : Tok) : Heap := h.push { cls := .type (strIterType x), data := .fields #[.str x t, .int 0 0] }
abbrev mz2 (h : Heap) (x : Str) (t : Tok) (b : Addr) : Heap := (mz1 h x t).push { cls := .type "tuple_iterator", data := .fields #[.ref b, .int 0 0] }
abbrev mz3 (h : Heap) (x : Str) (t : Tok) (b : Addr) : Heap := (mz2 h x t b).push { cls := .type "tuple", data := .seq #[.ref h.objs.size, .ref (mz1 h x t).objs.size] }
abbrev mz4 (h : Heap) (x : Str) (t : Tok) (b : Addr) : Heap := (mz3 h x t b).push { cls := .type "tuple", data := .seq #[.none, .none] }
abbrev mz5 (h : Heap) (x : Str) (t : Tok) (b : Addr) : Heap := (mz4 h x t b).push { cls := .type "zip", data := .fields #[.none, .bool false, .bool false, .ref (mz2 h x t b).objs.size, .ref (mz3 h x t b).objs.size] }
theorem meets_new (x : Str) (t : Tok) (b : Addr) (ys : Array Value) :
    Meets (Builtin.«zip.__new__» ⟨[.type "zip", .str x t, .ref b], []⟩) (fun _ R s => s.heap.IsTuple b ys ∧ R (.ok (.ret (.ref (mz4 s.heap x t b).objs.size))) { s with heap := mz5 s.heap x t b }) :=
  .of_wp fun prog w A R s h => by
    obtain ⟨hp, g, d, tk, os⟩ := s
    obtain ⟨hl2, h⟩ := h
    have hsub := sub_zip
    have hL2 : Heap.IsTuple (Shared.heap ⟨mz1 hp x t, g, d, tk, os⟩) b ys := Heap.IsTuple.push hl2 _
    wp_walk using wpAny_pyIter_strU, wpAny_pyIter_tuple hL2
    exact ⟨_, rfl, h⟩
section
variable {prog : Program} {w : World} {A : Around} {E : Value → Shared → Prop} {s : Shared}
theorem call_mz {x : Str} {t : Tok} {b : Addr} {ys : Array Value} {Q : Value → Shared → Prop} (hb : s.heap.IsTuple b ys)
    (h : ∀ h', IsZip h' (s.heap.objs.size + 4) (s.heap.objs.size + 2) (s.heap.objs.size + 3) .none → IsPair h' (s.heap.objs.size + 2) (.ref s.heap.objs.size) (.ref (s.heap.objs.size + 1)) →
      IsPair h' (s.heap.objs.size + 3) .none .none → h'.IsStrIter s.heap.objs.size (strIterType x) x t 0 → h'.IsTupleIter (s.heap.objs.size + 1) b 0 →
      (∀ c o, s.heap.get? c = some o → h'.get? c = some o) → Q (.ref (s.heap.objs.size + 4)) { s with heap := h' }) :
    wpAny (model prog w) A (call (.type "zip") [.str x t, .ref b]) Q E s := by
  refine callType_new F.called_zip (by decide) (F.typeCall_zip_2 _ _) (F.newCall_zip_2 _ _) (fun obj => F.args_object_init_3 obj _ _) F.entry_zip_new (meets_new x t b ys) ⟨hb, ?_⟩
  have n1 : (mz1 s.heap x t).objs.size = s.heap.objs.size + 1 := Heap.size_push ..
  have n2 : (mz2 s.heap x t b).objs.size = s.heap.objs.size + 2 := by rw [Heap.size_push, n1]
  have n3 : (mz3 s.heap x t b).objs.size = s.heap.objs.size + 3 := by rw [Heap.size_push, n2]
  have n4 : (mz4 s.heap x t b).objs.size = s.heap.objs.size + 4 := by rw [Heap.size_push, n3]
  have q5 : (mz5 s.heap x t b).get? (mz4 s.heap x t b).objs.size = some _ := Heap.get?_push_size _ rfl
  have q4 : (mz5 s.heap x t b).get? (mz3 s.heap x t b).objs.size = some _ := Heap.get?_push_of_some _ (Heap.get?_push_size _ rfl)
  have q3 : (mz5 s.heap x t b).get? (mz2 s.heap x t b).objs.size = some _ := Heap.get?_push_of_some _ (Heap.get?_push_of_some _ (Heap.get?_push_size _ rfl))
  have q2 : (mz5 s.heap x t b).get? (mz1 s.heap x t).objs.size = some _ := Heap.get?_push_of_some _ (Heap.get?_push_of_some _ (Heap.get?_push_of_some _ (Heap.get?_push_size _ rfl)))
  have q1 : (mz5 s.heap x t b).get? s.heap.objs.size = some _ := Heap.get?_push_of_some _ (Heap.get?_push_of_some _ (Heap.get?_push_of_some _ (Heap.get?_push_of_some _ (Heap.get?_push_size _ rfl))))
  show _ ∧ _
  rw [n2, n3, n4] at q5
  rw [n1, n2] at q3
  rw [n3] at q4
  rw [n1] at q2
  rw [n4]
  exact ⟨⟨_, q5, rfl⟩, h _ q5 q3 q4 ⟨_, q1, rfl, rfl⟩ ⟨_, q2, rfl, rfl⟩ fun c o e =>
    Heap.get?_push_of_some _ (Heap.get?_push_of_some _ (Heap.get?_push_of_some _ (Heap.get?_push_of_some _ (Heap.get?_push_of_some _ e))))⟩
end
end BrZip
namespace Br
open PySem PySem.Spec PyProof.Rows L2 BrZip
/-- the signs of x beside the tuple at b -/
def Itm (K : PySem.W.Frag) (x : Str) (b : Addr) (m : Nat) : It :=
  ⟨fun i H => i < x.cps.size ∧ ∃ (ys : List V) (y : V), SqT K H b ys ∧ ys.length = m ∧ ys[i]? = some y,
    fun i H v H' => ∃ T c y, v = .ref T ∧ H T = none ∧ x.cps[i]? = some c ∧ H' = upd H T (.tup [.str ⟨#[c]⟩, y]) ∧ ∀ ys, SqT K H b ys → ys[i]? = some y,
    fun i H => (x.cps.size ≤ i ∨ m ≤ i) ∧ ∃ ys : List V, SqT K H b ys ∧ ys.length = m⟩
theorem turn_mz {P : Program} {w : World} {K : PySem.W.Frag} {elts : List Expr} {kk : Nat} {tpos : Pos} {x : Str} {t : Tok} {m : Nat} {b z TI TO i1 i2 : Addr} (S : PySem.ZipSep2 z TI TO i1 i2 [i1] [i2, b]) (hb2 : b ≠ i2) :
    Turn P w K (.Tuple elts kk tpos) (Itm K x b m) [z, TI, TO, i1, i2] z (fun i h => (i ≤ x.cps.size ∧ i ≤ m) ∧ IsZip h z TI TO .none ∧ IsPair h TI (.ref i1) (.ref i2) ∧ (∃ x y, IsPair h TO x y) ∧ h.IsStrIter i1 (strIterType x) x t i ∧ h.IsTupleIter i2 b i) where
  mem := by simp
  obj := fun i h st c hc => by
    obtain ⟨_, hz, hTI, ⟨x, y, hTO⟩, ⟨o1, e1, _, d1⟩, ⟨o2, e2, _, d2⟩⟩ := st
    simp only [List.mem_cons, List.not_mem_nil, or_false] at hc
    rcases hc with q | q | q | q | q <;> subst q
    · exact ⟨_, hz, fun v q => nomatch q⟩
    · exact ⟨_, hTI, fun v q => nomatch q⟩
    · exact ⟨_, hTO, fun v q => nomatch q⟩
    · exact ⟨o1, e1, fun v q => by rw [d1] at q; cases q⟩
    · exact ⟨o2, e2, fun v q => by rw [d2] at q; cases q⟩
  keep := fun i h h' st k => by
    obtain ⟨hi, hz, hTI, ⟨x, y, hTO⟩, ⟨o1, e1, r1⟩, h2⟩ := st
    exact ⟨hi, k z (by simp) _ hz, k TI (by simp) _ hTI, ⟨x, y, k TO (by simp) _ hTO⟩, ⟨o1, k i1 (by simp) _ e1, r1⟩, h2.at fun o q => k i2 (by simp) o q⟩
  item := by
    intro X hP hw hK hc i pins s σ H E I hf st hg
    subst hP hw hK
    obtain ⟨hi, hz, hTI, ⟨x0, y0, hTO⟩, h1, h2⟩ := st
    obtain ⟨hlt, ys, y, hqy, hm, hy⟩ := hg
    obtain ⟨its, rv, p, _⟩ := I.tuple hqy
    obtain ⟨u2, hu2, ru2⟩ := rv.get hy
    have hzl : z < s.heap.objs.size := Heap.lt_size hz
    have D1 := Draws.text (prog := X.prog) (w := X.w) (A := X.A.in1) (I.ok.hd hc) i1 x t
    have D2 := Draws.tuple (prog := X.prog) (w := X.w) (A := X.A.in1) (I.ok.hd hc) i2 b hb2 its.toArray
    have hl2 : i < its.toArray.size := by
      rw [List.size_toArray]
      exact (List.getElem?_eq_some_iff.mp hu2).1
    refine wpAny_pyNext_zipD2_item S D1 D2 hz hTI hTO h1 ⟨h2, p⟩ hlt hl2 fun v1 v2 h' tk y1 y2 hz' hTO' st1 st2 hT hsz hk => ?_
    obtain ⟨c, u1, hcx, rfl⟩ := y1
    have ev : v2 = u2 := by
      have y3 : its[i]? = some v2 := by simpa using y2
      rw [hu2] at y3
      exact (Option.some.inj y3).symm
    subst ev
    refine ⟨_, rfl, wpAny_letOwnedTupleGo_zip (s := { s with heap := h', toks := tk }) hz' fun h'' hz'' sb => ?_⟩
    have hT2 : h''.get? s.heap.objs.size = some { cls := .type "tuple", data := .seq #[.str ⟨#[c]⟩ u1, v2] } := (sb.2 _ (Nat.ne_of_gt hzl)).trans hT
    have new : ObjOk X.prog X.w (upd H s.heap.objs.size (.tup [.str ⟨#[c]⟩, y])) h'' s.heap.objs.size (.tup [.str ⟨#[c]⟩, y]) :=
      ⟨by show 2 ≤ sizeLine; decide, [.str ⟨#[c]⟩ u1, v2], .cons ⟨u1, rfl⟩ (.cons ru2 .nil), ⟨_, hT2, rfl, _, rfl⟩⟩
    have I1 : Inv X pins σ (upd H s.heap.objs.size (.tup [.str ⟨#[c]⟩, y])) { s with heap := h'', toks := tk } :=
      I.turnedNew (t' := tk) (ch := [z, TI, TO, i1, i2]) (fun c o hb q => (sb.2 c (fun q' => hb (by simp [q']))).trans (hk c o (fun q' => hb (by simp [q'])) (fun q' => hb (by simp [q'])) (fun q' => hb (by simp [q'])) (fun q' => hb (by simp [q'])) q)) hf (Nat.le_refl _) new
    have i1z : i1 ≠ z := fun q => S.zf1 (by rw [q]; simp)
    have i2z : i2 ≠ z := fun q => S.zf2 (by rw [q]; simp)
    refine ⟨.ref s.heap.objs.size, _, I1, rfl, ⟨_, c, y, rfl, I.hok.fresh (Nat.le_refl _), hcx, rfl, fun l hl => by rw [I.tuple_inj hl hqy]; exact hy⟩, ⟨⟨hlt, by rw [← hm]; exact (List.getElem?_eq_some_iff.mp hy).1⟩, hz'', ?_, ⟨.str ⟨#[c]⟩ u1, v2, ?_⟩, ?_, ?_⟩, fun c hcm => ?_⟩
    · exact (sb.2 _ S.TIz).trans (hk _ _ S.TIz S.TITO S.TIi1 S.TIi2 hTI)
    · exact (sb.2 _ S.TOz).trans hTO'
    · obtain ⟨o1, e1, r1⟩ := st1
      exact ⟨o1, (sb.2 _ i1z).trans e1, r1⟩
    · exact st2.1.at fun o q => (sb.2 _ i2z).trans q
    · have hlt : c < s.heap.objs.size := by
        simp only [List.mem_cons, List.not_mem_nil, or_false] at hcm
        rcases hcm with q | q | q | q | q
        · rw [q]; exact hzl
        · rw [q]; exact Heap.lt_size hTI
        · rw [q]; exact Heap.lt_size hTO
        · rw [q]; obtain ⟨_, e1, _⟩ := h1; exact Heap.lt_size e1
        · rw [q]; obtain ⟨_, e2, _⟩ := h2; exact Heap.lt_size e2
      rw [upd_ne (Nat.ne_of_lt hlt)]
      exact (hf c hcm).1
  done := by
    intro X hP hw hK hc i pins s σ H E I hf st hg
    subst hP hw hK
    obtain ⟨hi, hz, hTI, ⟨x0, y0, hTO⟩, h1, h2⟩ := st
    obtain ⟨hend, ys, hqy, hm⟩ := hg
    obtain ⟨its, rv, p, _⟩ := I.tuple hqy
    have l2 := rv.length
    have D1 := Draws.text (prog := X.prog) (w := X.w) (A := X.A.in1) (I.ok.hd hc) i1 x t
    have D2 := Draws.tuple (prog := X.prog) (w := X.w) (A := X.A.in1) (I.ok.hd hc) i2 b hb2 its.toArray
    have hle := hi.1
    have he : i = x.cps.size ∨ i = its.toArray.size := by
      have e2 : its.toArray.size = its.length := List.size_toArray ..
      rw [e2]
      rcases hend with z | z
      · exact .inl (Nat.le_antisymm hle z)
      · exact .inr (by omega)
    exact wpAny_pyNext_zipD2_end S D1 D2 hz hTI hTO h1 ⟨h2, p⟩ hle (by rw [List.size_toArray]; omega) he fun h' tk hk => ⟨rfl, I.turnedL (t' := tk) (ch := [z, TI, TO, i1, i2]) (fun c o hb q =>
      hk c o (fun q' => hb (by simp [q'])) (fun q' => hb (by simp [q'])) (fun q' => hb (by simp [q'])) (fun q' => hb (by simp [q'])) q) hf⟩
  self := fun A i s Q E st h => wpAny_pyIter_zip st.2.1 h
def iZipM (K : PySem.W.Frag) (ta : TA) : TI := fun σ H R => ta σ H fun vs H1 => ∃ x b ys, vs = [.str x, .ref b] ∧ SqT K H1 b ys ∧ R (Itm K x b ys.length) H1
theorem pi_zipM {X : Cx} {e e2 : Expr} {ta : TA} {p pos tpos : Pos} {elts : List Expr} {kk : Nat} (hg : Gl X "zip") (hm : X.mg "zip" = none) (ha : PA X [e, e2] ta)
    (hs : starEach [e, e2] X.env = (false, eval e X.env) :: starEach [e2] X.env := by rfl) (hpl : (backTo pos (starEach [e2] X.env)).any (·.1) = false := by rfl) :
    PI X (.Tuple elts kk tpos) (.Call (.Name "zip" p) [e, e2] [] pos) (iZipM X.K ta) := by
  refine ⟨fun pins s σ H R I h => ?_⟩
  refine Call_ (ld_blt I hg hm PyProof.Rows.boot_zip (PyProof.Rows.callWith_type1 (thn (ha.run pos pins s σ H _ I h) fun us s1 ⟨vs, H1, I1, r1, q1⟩ => ?_) hs hpl))
  obtain ⟨x, b, ys, ev, hq, q⟩ := q1
  subst ev
  obtain ⟨u1, u2, rfl, ru1, ru2⟩ := vals2 r1
  obtain ⟨t, rfl⟩ := ru1
  cases (show u2 = Value.ref b from ru2)
  obtain ⟨its, rv, pt, _⟩ := I1.tuple hq
  obtain ⟨ob, hob, _⟩ := id pt
  have hlt : b < s1.heap.objs.size := Heap.lt_size hob
  have fresh : ∀ c, c ∈ [s1.heap.objs.size + 4, s1.heap.objs.size + 2, s1.heap.objs.size + 3, s1.heap.objs.size, s1.heap.objs.size + 1] → FpOk X pins H1 c := fun c hc => by
    have hle : s1.heap.objs.size ≤ c := by
      simp only [List.mem_cons, List.not_mem_nil, or_false] at hc
      rcases hc with z | z | z | z | z <;> (rw [z]; first | exact Nat.le_add_right _ _ | exact Nat.le_refl _)
    exact I1.fpOk hle (I1.hok.fresh hle)
  refine call_mz (show s1.heap.IsTuple b its.toArray from pt) fun h' hz hTI hTO h1 h2 hk => wpAny_pyIter_zip hz ?_
  have I2 : Inv X pins σ H1 { s1 with heap := h' } := I1.kept (t' := s1.toks) hk
  refine ⟨s1.heap.objs.size + 4, _, _, _, H1, rfl, I2, turn_mz (TI := s1.heap.objs.size + 2) (TO := s1.heap.objs.size + 3) (i1 := s1.heap.objs.size) (i2 := s1.heap.objs.size + 1) (t := t) ?_ ?_, ⟨⟨Nat.zero_le _, Nat.zero_le _⟩, hz, hTI, ⟨_, _, hTO⟩, h1, h2⟩, fresh, q⟩
  · have q0 : b ≠ s1.heap.objs.size + 4 := Nat.ne_of_lt (Nat.lt_of_lt_of_le hlt (Nat.le_add_right _ _))
    have q1 : b ≠ s1.heap.objs.size + 3 := Nat.ne_of_lt (Nat.lt_of_lt_of_le hlt (Nat.le_add_right _ _))
    have q2 : b ≠ s1.heap.objs.size := Nat.ne_of_lt hlt
    have aux : ∀ (n k m : Nat), k ≠ m → n + k ≠ n + m := fun n k m h => by omega
    constructor <;> first
      | exact aux _ _ _ (by decide)
      | exact aux _ _ 0 (by decide)
      | (simp; done)
      | (simp only [List.mem_cons, List.not_mem_nil, or_false]; exact aux _ _ 0 (by decide))
      | (simp only [List.mem_cons, List.not_mem_nil, or_false]; rintro (z | z); exact absurd z (aux _ _ _ (by decide)); exact absurd z.symm (by assumption))
      | (simp only [List.mem_cons, List.not_mem_nil, or_false]; rintro (z | z); exact absurd z.symm (aux _ _ 0 (by decide)); exact absurd z.symm (by assumption))
      | (simp only [List.mem_cons, List.not_mem_nil, or_false]; exact aux _ _ 0 (by decide))
  · exact Nat.ne_of_lt (Nat.lt_succ_of_lt hlt)
/-- signs beside data -/
def zipM (z : Str) (ys : List D) : List D := (z.cps.toList.zip ys).map fun p => D.tup [.str ⟨#[p.1]⟩, p.2]
section
variable {K : PySem.W.Frag} {X : Xc} {S : Sa} {Q : List D → Os → Prop} {ta : TA}
theorem iw_zipM (h : AW K X ta S fun xs os => ∃ (z : Str) (ys : List D), xs = [.d (.str z), .d (.tup ys)] ∧ Q (zipM z ys) os) : IW K X (iZipM K ta) S Q := fun as H σ R' R x k =>
  h as H σ _ R x fun vs H1 ds os1 g1 R1 r1 ⟨z, ys, e, q⟩ => by
    subst e
    cases r1 with
    | cons r1 rn =>
      cases rn with
      | cons r2 rn =>
        cases rn
        cases r1
        cases r2 with
        | @tup b ws _ hl hr =>
          refine ⟨z, b, ws, rfl, hl.sq, k _ H1 (zipM z ys) os1 g1 R1 (fun bs H2 os s R2 i => ?_) q⟩
          have hl2 := s.way.t _ _ hl
          have hr2 := hr.way s.way
          have hlen : (zipM z ys).length = min z.cps.size ys.length := by
            unfold zipM
            rw [List.length_map, List.length_zip, Array.length_toList]
          refine ⟨fun d hd => ?_, fun hn => ⟨?_, ws, hl2.sq, rfl⟩⟩
          · have hi := (List.getElem?_eq_some_iff.mp hd).1
            rw [hlen] at hi
            have hi1 : i < z.cps.size := by omega
            have hi2 : i < ys.length := by omega
            obtain ⟨w, e1, e2⟩ := hr2.get (List.getElem?_eq_getElem hi2)
            refine ⟨⟨hi1, ws, w, hl2.sq, rfl, e1⟩, ?_⟩
            rintro y H3 ⟨T, c, y2, rfl, hT, hc, rfl, hy⟩
            have ey := hy ws hl2.sq
            rw [e1] at ey
            cases ey
            refine ⟨Go.new hT, R2.new hT, ?_⟩
            have ed : d = D.tup [.str ⟨#[c]⟩, ys[i]] := by
              unfold zipM at hd
              rw [List.getElem?_map] at hd
              obtain ⟨p, h1, h2⟩ := Option.map_eq_some_iff.mp hd
              rw [List.getElem?_zip_eq_some] at h1
              obtain ⟨h3, h4⟩ := h1
              have h5 : z.cps[i]? = some p.1 := by rw [← Array.getElem?_toList]; exact h3
              rw [hc] at h5
              rw [List.getElem?_eq_getElem hi2] at h4
              rw [← h2, ← Option.some.inj h5, ← Option.some.inj h4]
            rw [ed]
            exact dx_newT R2 hT (.cons (.str _) (.cons e2 .nil))
          · rw [hlen] at hn
            rw [hr.length]
            omega
end
end Br

/-! BrN: a written dict whose keys are None and texts. -/
namespace Br
open PySem PySem.Spec PyProof.Rows L2
def KeysN (P : Params) : List DictEntry → Prop
  | [] => True
  | e :: r => ((e.key = .none ∧ e.hash = reduceHash 0xFCA86420) ∨ ∃ x t, e.key = .str x t ∧ e.hash = PyData.keyHash P x) ∧ KeysN P r
theorem KeysN.all {P : Params} : ∀ {l : List DictEntry}, KeysN P l → ∀ e ∈ l, (e.key = .none ∧ e.hash = reduceHash 0xFCA86420) ∨ ∃ x t, e.key = .str x t ∧ e.hash = PyData.keyHash P x
  | _ :: _, ⟨h, _⟩, _, .head _ => h
  | _ :: _, ⟨_, r⟩, _, .tail _ m => r.all _ m
def keyN : Option Str → Option Key := fun k => k.map .inr
theorem mapN {K : PySem.W.Frag} {h : Heap} {prog : Program} {w : World} {a : Addr} {es : Array DictEntry} {n : Nat} (X : K.In h) (hl : K.lookup a = some ⟨.type "dict", none, .dict es n, #[]⟩) (hk : KeysN w.params es.toList) :
    h.MapOf (noneKind prog w) a (fun k => findBy nkIs es k) :=
  ⟨_, es, n, X _ _ hl, ⟨rfl, rfl, rfl⟩, rfl, fun e he => by
    rcases hk.all e (Array.mem_toList_iff.mpr he) with ⟨e1, e2⟩ | ⟨x, t, e1, e2⟩
    · exact ⟨none, by rw [e1]; rfl, e2⟩
    · exact ⟨some (.inr x), by rw [e1]; exact keyIs_str x t, e2⟩, fun _ => rfl⟩
/-- looked over: just these keys, in this order -/
def keysOkN (K : PySem.W.Frag) : List DictEntry → List (Option Str × D) → Bool
  | [], tb => tb.isEmpty
  | e :: es, tb => match tb with
    | kd :: tb => (match e.key with
      | .none => decide (kd.1 = none)
      | .str x _ => decide (kd.1 = some x)
      | _ => false) && (dOk K kd.2 e.val && keysOkN K es tb)
    | [] => false
def lookN (tb : List (Option Str × D)) (z : Option Str) : Option D := (tb.find? fun kd => decide (kd.1 = z)).map (·.2)
variable {K : PySem.W.Frag}
theorem key_is {e : DictEntry} {k z : Option Str} (h : (match e.key with
      | .none => decide (k = none)
      | .str x _ => decide (k = some x)
      | _ => false) = true) : nkIs (keyN z) e.key = decide (k = z) := by
  cases ek : e.key with
  | none =>
    rw [ek] at h
    have e1 : k = none := of_decide_eq_true h
    subst e1
    cases z with
    | none => rfl
    | some z =>
      rw [decide_eq_false (fun q => nomatch q)]
      rfl
  | str x t =>
    rw [ek] at h
    have e1 : k = some x := of_decide_eq_true h
    subst e1
    cases z with
    | none =>
      rw [decide_eq_false (fun q => nomatch q)]
      rfl
    | some z =>
      show (x == z) = _
      by_cases c : x = z
      · subst c
        simp
      · rw [decide_eq_false (fun q => c (Option.some.inj q))]
        exact beq_eq_false_iff_ne.mpr c
  | _ => rw [ek] at h; cases h
theorem keysN_find {z : Option Str} : ∀ {es : List DictEntry} {tb : List (Option Str × D)} {d : D}, keysOkN K es tb = true → lookN tb z = some d → ∃ e, es.find? (fun e => nkIs (keyN z) e.key) = some e ∧ dOk K d e.val = true
  | [], [], _, _, h => by cases h
  | [], _ :: _, _, h, _ => by cases h
  | _ :: _, [], _, h, _ => by cases h
  | e :: es, kd :: tb, d, h, hl => by
    have h0 : ((match e.key with
      | .none => decide (kd.1 = none)
      | .str x _ => decide (kd.1 = some x)
      | _ => false) && (dOk K kd.2 e.val && keysOkN K es tb)) = true := h
    obtain ⟨h1, h2⟩ := Bool.and_eq_true_iff.mp h0
    obtain ⟨h3, h4⟩ := Bool.and_eq_true_iff.mp h2
    have ki := key_is (z := z) h1
    by_cases hz : kd.1 = z
    · have a1 : lookN (kd :: tb) z = some kd.2 := by
        unfold lookN
        rw [List.find?_cons_of_pos (by simpa using hz)]
        rfl
      rw [a1] at hl
      cases hl
      exact ⟨e, List.find?_cons_of_pos (by rw [ki]; exact decide_eq_true hz), h3⟩
    · have a1 : lookN (kd :: tb) z = lookN tb z := by
        unfold lookN
        rw [List.find?_cons_of_neg (by simpa using hz)]
      rw [a1] at hl
      obtain ⟨e2, q1, q2⟩ := keysN_find h4 hl
      exact ⟨e2, by rw [List.find?_cons_of_neg (by rw [ki, decide_eq_false hz]; exact Bool.false_ne_true)]; exact q1, q2⟩
/-- such a dict at a -/
structure NDict (K : PySem.W.Frag) (w : World) (a : Addr) (tb : List (Option Str × D)) : Prop where
  ex : ∃ es n, K.lookup a = some ⟨.type "dict", none, .dict es n, #[]⟩ ∧ KeysN w.params es.toList ∧ keysOkN K es.toList tb = true
def keyD2 : Option Str → D
  | none => .non
  | some x => .str x
def rNd (K : PySem.W.Frag) (w : World) (a : Addr) (tb : List (Option Str × D)) : R2 := fun x y H Q => ∃ (k : Option Str) (d : D), x = .ref a ∧ (k = none → y = .non) ∧ (∀ z, k = some z → y = .str z) ∧ lookN tb k = some d ∧ ∀ v, (∀ as H', Dx K as H' v d) → Q v H
theorem op_nd {X : Cx} {a : Addr} {tb : List (Option Str × D)} (N : NDict X.K X.w a tb) : OpR X getItem (rNd X.K X.w a tb) := by
  intro pins s σ H x y v u Q I rx ry h
  obtain ⟨es, n, hl, hk, ho⟩ := N.ex
  obtain ⟨k, d, rfl, y0, y1, el, q⟩ := h
  cases (show v = Value.ref a from rx)
  obtain ⟨e, f1, f2⟩ := keysN_find ho el
  obtain ⟨v0, r1, r2⟩ := dOk_is d _ f2
  have hm := mapN (prog := X.prog) (w := X.w) I.kIn hl hk
  have hf : findBy nkIs es (keyN k) = some e.val := by
    obtain ⟨l⟩ := es
    unfold findBy
    rw [List.find?_toArray, f1]
    rfl
  have hkey : (noneKind X.prog X.w).is (keyN k) u = true := by
    cases k with
    | none =>
      have ey := y0 rfl
      subst ey
      cases (show u = Value.none from ry)
      rfl
    | some z =>
      have ey := y1 z rfl
      subst ey
      obtain ⟨t, rfl⟩ := (show ∃ t, u = Value.str z t from ry)
      exact keyIs_str z t
  exact wpAny_getItem_of hkey hm hf ⟨v0, H, I.tok _, r1, q v0 r2⟩
section
variable {X : Xc} {S : Sa} {Q : Sv → Os → Prop} {te : TE} {w : World} {a : Addr} {tb : List (Option Str × D)}
/-- T[e], T with None and texts as keys -/
theorem ew_nd (h : EW K X te S fun y os => ∃ k d, y = .d (keyD2 k) ∧ lookN tb k = some d ∧ Q (.d d) os) : EW K X (tOp (rNd K w a tb) (tC (.ref a)) te) S Q := fun as H σ Q' R x k =>
  h as H σ _ R x fun v H1 d os1 g1 R1 r1 ⟨z, e, ed, el, q⟩ => by
    subst ed
    refine ⟨z, e, rfl, fun e0 => ?_, fun y e0 => ?_, el, fun u hu => k u H1 (.d e) os1 g1 R1 (hu as H1) q⟩
    · subst e0
      cases r1
      rfl
    · subst e0
      cases r1
      rfl
end
end Br

/-! BrG: a law's own def, called with nothing being shown: repr of data. -/
namespace Br
open PySem PySem.Spec PyProof.Rows L2
/-- a def's promise where no repr is under way -/
structure FnG (P : Program) (w : World) (K : PySem.W.Frag) (mg : Str → Option Value) (base : Heap) (k : Nat) (f : Addr) (fd : FuncData) (ps : List Str) (sp : Sp) : Prop where
  len : ∀ vs H Q E, sp vs H Q E → vs.length = ps.length
  run : ∀ (A : Around) (outer : List Env) (s : Shared) (H : Hp) (args : Args) (us : List Value) (vs : List V) (Q : VK) (E : XK), A.guards = some [] → Room k A → Env0 P w K mg base A outer s H → BindsTo s fd args (ps.zip us) → Vals vs us → sp vs H Q E →
    codeAny (model P w) A (.call (.ref f) args) (CR CX0 outer P w H s Q E) s
theorem fn_ofG {P : Program} {w : World} {K : PySem.W.Frag} {mg : Str → Option Value} {base : Heap} {k : Nat} {f : Addr} {name qual : Str} {params : Arguments} {body : List Stmt} {scope : Scope} {dV kV doc pm cdv ct oc : Value} {an od : Option Addr}
    {osl : Array (Option Value)} {N ps : List Str} {sp : Sp} (lk : K.lookup f = some ⟨oc, od, .func (PySem.W.fnOf name qual params body scope dV kV doc pm an cdv ct), osl⟩) (hcd : PySem.W.codeIn K cdv qual = true) (S : FnScope N ps scope)
    (len : ∀ vs H Q E, sp vs H Q E → vs.length = ps.length)
    (hbody : ∀ (A : Around) (outer : List Env) (s : Shared) (H : Hp) (vs : List V) (Q : VK) (E : XK), (A.deeper (envOfC qual scope s.heap.objs.size f cdv)).guards = some [] → Room k (A.deeper (envOfC qual scope s.heap.objs.size f cdv)) → sp vs H Q E →
      ∃ t, PSs (cxOf CX0 P w K mg base N qual scope f cdv A outer s H E) body t ∧ t { nx := fun _ H' => Q .non H', rt := Q } (L2.start N vs) H) :
    FnG P w K mg base (k + 1) f (PySem.W.fnOf name qual params body scope dV kV doc pm an cdv ct) ps sp where
  len := len
  run A outer s H args us vs Q E hg hr e0 hb r hsp := by
    have inK : K.In s.heap := e0.mod.kin.keeps fun p u q => (e0.bs p u q).1
    have free : s.heap.NoLimit := e0.mod.nolimit.keeps fun p u q => (e0.bs p u q).1
    have kinds : ∀ z ∈ ps.zip us, scope.names.lookup z.1 = some .local ∨ (scope.names.lookup z.1 = some .cell ∧ ((cellsFrom (s.heap.objs.size + 1) scope.names []).lookup z.1).isSome = true) := by
      rintro ⟨m, u⟩ hz
      cases S.par m (List.of_mem_zip hz).1 with
      | inl z => exact .inl z
      | inr z => exact .inr ⟨z, PySem.W.cellsFrom_some _ _ _ (.inl z)⟩
    apply codeAny_call_function hr.depth (inK _ _ lk) rfl S.co S.gen rfl (PySem.W.codeRec_of inK hcd)
    apply hb
    apply wpAny_newFunctionEnv_cells S.kind kinds
    intro env henv s1 hin
    cases henv
    refine ⟨free.keeps hin.toInCall.keep, codeAny_func ?_⟩
    have hg2 : (A.deeper (envOfC qual scope s.heap.objs.size f cdv)).guards = some [] := hg
    obtain ⟨t, rules, reading⟩ := hbody A outer s H vs Q E hg2 (hr.deeper _) hsp
    have J : Inv (cxOf CX0 P w K mg base N qual scope f cdv A outer s H E) [] (L2.start N vs) H s1 := inv_start S hr.hd e0 (len _ _ _ _ hsp) r hin
    have run := rules.run [] s1 (L2.start N vs) H _ J reading
    refine wpAny_mono run ?_ fun _ _ z => z
    intro fl s' ends
    cases fl with
    | brk => exact ends.elim fun _ z => z.elim fun _ z => z.2.elim
    | cont => exact ends.elim fun _ z => z.elim fun _ z => z.2.elim
    | ret u =>
      obtain ⟨v, _, H2, J2, rv, q⟩ := ends
      exact ⟨v, H2, J2.os, J2.bare, J2.base, J2.hok, rv, q⟩
    | next =>
      obtain ⟨_, H2, J2, q⟩ := ends
      exact ⟨V.non, H2, J2.os, J2.bare, J2.base, J2.hok, rfl, q⟩
/-- the call of a law's def, behind the top -/
theorem called {P : Program} {w : World} {K : PySem.W.Frag} {mg mb : Str → Option Value} {k : Nat} {fa a : Addr} {fd : FuncData} {x : Str} {sp : Sp} {s : Shared} {vs : List Value} {ns : List Int}
    (inK : K.In s.heap) (gl : s.heap.Ns mainGlobals mg) (bl : s.heap.Ns builtinsNs mb) (blb : ∀ y : Str, y ≠ "__name__" → mb y = bootBuiltins y) (lim : s.heap.NoLimit) (gens : s.gens = #[])
    (at_a : s.heap.get? a = some { cls := .type "list", data := .seq vs.toArray }) (nums : IntsAre vs ns) (short : ns.length ≤ sizeLine) (room : Room k callerA)
    (F : ∀ base : Heap, K.In base → base.Ns mainGlobals mg → (∀ b o, s.heap.get? b = some o → o.cls ≠ .type "list" → base.get? b = some o) → FnG P w K mg base k fa fd [x] sp) (binds : ∀ (s : Shared) (u : Value), BindsTo s fd ⟨[u], []⟩ [(x, u)])
    (promise : ∀ H : Hp, SqL K H a (ns.map V.int) → sp [.ref a] H (fun v _ => v = .bl true) fun _ _ _ => False) :
    codeAny (model P w) callerA (.call (.ref fa) ⟨[.ref a], []⟩) (fun r s' => r = .ok (.ret (.bool true)) ∧ OldK s.heap s'.heap ∧ s'.os = s.os ∧ AllBare s'.gens) s := by
  have lenV := nums.length
  have vals := vals_ints nums
  -- what is tracked: the script, unless it is written
  obtain ⟨H, only, seq, ok, fresh⟩ : ∃ H : Hp, (∀ b, H b = none ∨ (b = a ∧ H b = some (.frz { cls := .type "list", data := .seq vs.toArray } (.lst (ns.map V.int))))) ∧ SqL K H a (ns.map V.int) ∧ HOk P w H s.heap ∧ (H a ≠ none → K.lookup a = none) := by
    cases hk : K.lookup a with
    | some o =>
      have e := inK a o hk
      rw [at_a] at e
      cases e
      exact ⟨fun _ => none, fun _ => .inl rfl, .inr ⟨_, vs.toArray, _, hk, rfl, rfl, rfl, by rw [List.size_toArray, lenV]; exact short, by simpa using vals⟩, fun _ _ z => (nomatch z), fun z => absurd rfl z⟩
    | none =>
      have tracked : ∀ b, (if b = a then some (HO.frz { cls := .type "list", data := .seq vs.toArray } (.lst (ns.map V.int))) else none) = none ∨ (b = a ∧ (if b = a then some (HO.frz { cls := .type "list", data := .seq vs.toArray } (.lst (ns.map V.int))) else none) = some (.frz { cls := .type "list", data := .seq vs.toArray } (.lst (ns.map V.int)))) := fun b => by
        by_cases e : b = a
        · exact .inr ⟨e, if_pos e⟩
        · exact .inl (if_neg e)
      refine ⟨fun b => if b = a then some (.frz { cls := .type "list", data := .seq vs.toArray } (.lst (ns.map V.int))) else none, tracked, .inl (.inr ⟨_, if_pos rfl⟩), fun b u z => ?_, fun _ => rfl⟩
      rcases tracked b with q | ⟨e, q⟩
      · have y := q.symm.trans z
        cases y
      · have y := q.symm.trans z
        cases y
        subst e
        exact ⟨at_a, by rw [List.length_map]; exact short, vs, _, vals, at_a⟩
  have dicts : ∀ {b : Addr} {o : Obj} {es : Array DictEntry} {ep : Nat}, s.heap.get? b = some o → o.data = .dict es ep → H b = none := fun {b o es ep} e d => by
    rcases only b with z | ⟨rfl, _⟩
    · exact z
    · rw [at_a] at e
      cases e
      exact absurd d (by intro z; cases z)
  have low : ∀ {b : Addr} {m : Str → Option Value}, s.heap.Ns b m → (hidT s.heap H).Ns b m := by
    rintro b m ⟨o, es, ep, e, d, r⟩
    exact ⟨o, es, ep, hidT_get e (dicts e d), d, r⟩
  have lowK : K.In (hidT s.heap H) := fun b o e => hidT_get (inK b o e) (by
    rcases only b with z | ⟨rfl, z⟩
    · exact z
    · have y := fresh (by rw [z]; intro q; cases q)
      rw [e] at y
      cases y)
  have others : ∀ b o, s.heap.get? b = some o → o.cls ≠ .type "list" → (hidT s.heap H).get? b = some o := fun b o e n => hidT_get e (by
    rcases only b with z | ⟨rfl, z⟩
    · exact z
    · rw [at_a] at e
      cases e
      exact absurd rfl n)
  have limL : (hidT s.heap H).NoLimit := by
    obtain ⟨mc, h1, h2⟩ := lim
    exact ⟨mc, low h1, h2⟩
  have e0 : Env0 P w K mg (hidT s.heap H) callerA [] s H :=
    ⟨rfl, ⟨lowK, low gl, ⟨mb, low bl, blb⟩, limL⟩, fun b o e => of_hidT e, Nat.le_of_eq (hidT_size _ _), trivial, fun b hb => (by cases hb), ok, .of_eq gens⟩
  have run := (F _ lowK (low gl) others).run callerA [] s H ⟨[.ref a], []⟩ [.ref a] [.ref a] (fun v _ => v = .bl true) (fun _ _ _ => False) rfl room e0 (binds s (.ref a)) (.cons rfl .nil) (promise H seq)
  refine codeAny_mono run fun r s' q => ?_
  cases r with
  | error e => exact q.elim
  | ok fl =>
    cases fl with
    | next => exact q.elim
    | brk => exact q.elim
    | cont => exact q.elim
    | ret u =>
      obtain ⟨v, H2, os, bare, un, ok2, rv, ev⟩ := q
      have ev' : v = .bl true := ev
      subst ev'
      have eu : u = Value.bool true := rv
      subst eu
      refine ⟨rfl, OldK.of_keep fun b o e => ?_, os, bare⟩
      rcases only b with z | ⟨rfl, z⟩
      · exact un.keep b o e z (by intro q; cases q) (by intro q; cases q)
      · have z2 := un.frzs _ _ _ z
        have y1 := (ok _ _ z).1
        have y2 := (ok2 _ _ z2).1
        rw [e] at y1
        cases y1
        exact y2
/-- the goal that the head leaves -/
theorem walkG {l : PySem.W.OpenLaw} {n k : Nat} {q : Program} {loose : List Str} {XP : (Str → Option Value) → Heap → Prop} {YP : World → Heap → Prop} {d : DefRec} {K : Params → PySem.W.Frag} {sp : World → Sp} {x : Str}
    (hn : l.most = some n) (hn2 : n ≤ sizeLine) (hdf : d.params.defaults = []) (room : Room k callerA) (hY : ∀ (w : World) (h : Heap), YP w h → (K w.params).In h)
    (F : ∀ (w : World) (mg : Str → Option Value) (fa : Addr) (h : Heap), (K w.params).In h → h.Ns mainGlobals mg → mg d.name = some (.ref fa) →
      ∃ fd : FuncData, (∀ (s : Shared) (u : Value), BindsTo s fd ⟨[u], []⟩ [(x, u)]) ∧ ∀ base : Heap, (K w.params).In base → base.Ns mainGlobals mg → FnG l.prog w (K w.params) mg base k fa fd [x] (sp w))
    (promise : ∀ (w : World) (H : Hp) (a : Addr) (ns : List Int), ns.length ≤ n → SqL (K w.params) H a (ns.map V.int) → sp w [.ref a] H (fun v _ => v = .bl true) fun _ _ _ => False) :
    PySem.W.WalkO q loose XP YP l.row.toRowW d [] (fun f vs => PySem.call f vs) := by
  refine Att.attach_call hn hdf ?_
  intro w s₀ s₁ mg mb fa o pm cd doc a vs ns G Y _ _ _ named obj nums len gens
  have inK := hY w _ Y
  obtain ⟨fd, binds, hF⟩ := F w mg fa _ inK G.T.g named
  exact called inK G.T.g G.T.b G.T.builtins G.T.nolimit gens obj nums (Nat.le_trans len hn2) room (fun base kb nb _ => hF base kb nb) binds fun H seq => promise w H a ns len seq
/-! ### repr -/
def rRepr (K : PySem.W.Frag) : List V → Hp → VK → Prop := fun xs H Q => ∃ (a : Addr) (p : PyData), xs = [.ref a] ∧ Dp K H (.ref a) p ∧ p.showable = true ∧ p.hasDict = false ∧ p.depth ≤ 10 ∧ p.shown.length ≤ sizeLine ∧ Q (.str p.shown) H
theorem call_repr {X : Cx} (hg : X.A.guards = some []) (hu : X.A.units + 64 < cLine) : CallR X (.builtin "repr") (rRepr X.K) := by
  intro pins s σ H xs us Q I r h
  obtain ⟨a, p, rfl, hd, h1, h2, h3, h4, q⟩ := h
  obtain ⟨u, rfl, rx⟩ := vals1 r
  obtain ⟨as, rd⟩ := Dp.reads I p _ _ hd rx
  cases (show u = Value.ref a from rx)
  refine repr_of_reads' rd h1 (fun z => by rw [h2] at z; cases z) hg (by omega) (fun _ _ e => e) (fun h' t tk keep => ?_) h4
  exact ⟨.str p.shown, H, I.kept (t' := tk) keep, ⟨t, rfl⟩, q⟩
section
variable {K : PySem.W.Frag} {os : Os} {Q : Sv → Os → Prop}
theorem cw_reprL {xs : List D} {ps : List PyData} (e : D.pys xs = some ps) (h1 : (PyData.list ps).showable = true) (h2 : (PyData.list ps).hasDict = false) (h3 : (PyData.list ps).depth ≤ 10) (h4 : (PyData.list ps).shown.length ≤ sizeLine) (q : Q (.d (.str (PyData.list ps).shown)) os) : CW K (rRepr K) [.d (.lst xs)] os Q :=
  cw_pure (fun as H vs Q' R r k => by
    cases r with
    | cons h t =>
      cases t
      have dp := Dx.dp (p := .list ps) h (by show (D.pys xs).map PyData.list = _; rw [e]; rfl)
      cases h with
      | @lst a vs _ hl hr => exact ⟨a, _, rfl, dp, h1, h2, h3, h4, k _ (.str _)⟩) q
theorem cw_reprU {xs : List D} {ps : List PyData} (e : D.pys xs = some ps) (h1 : (PyData.tuple ps).showable = true) (h2 : (PyData.tuple ps).hasDict = false) (h3 : (PyData.tuple ps).depth ≤ 10) (h4 : (PyData.tuple ps).shown.length ≤ sizeLine) (q : Q (.d (.str (PyData.tuple ps).shown)) os) : CW K (rRepr K) [.d (.tup xs)] os Q :=
  cw_pure (fun as H vs Q' R r k => by
    cases r with
    | cons h t =>
      cases t
      have dp := Dx.dp (p := .tuple ps) h (by show (D.pys xs).map PyData.tuple = _; rw [e]; rfl)
      cases h with
      | @tup a vs _ hl hr => exact ⟨a, _, rfl, dp, h1, h2, h3, h4, k _ (.str _)⟩) q
end
end Br

/-! BrF: a byte in two signs; a tuple's slices. -/
namespace PySem.W
open Lean Elab Tactic Meta PySem PySem.Calls PyProof.Rows
open Builtin Builtin.Str Builtin.Int Builtin.Float
def br_two (n : Nat) : PySem.Str := ⟨#[("0123456789abcdef" : PySem.Str).cps.getD (n / 16) 0, ("0123456789abcdef" : PySem.Str).cps.getD (n % 16) 0]⟩
theorem br_fmt02 {a : Int} {t : Tok} {n : Nat} (ha : a = (n : Int)) (hn : n < 256) : ∀ u, Meets («int.__format__» ⟨[.int a t, .str ⟨#[48, 50, 120]⟩ u], []⟩) (fun _ R s => ∀ t' k, R (.ok (.ret (.str (br_two n) t'))) { s with toks := k }) := by
  intro _
  apply KPc.meets_of
  intro _ _ _ _ _ _ _
  unfold Builtin.«int.__format__»
  refine wpAny_bind (wpAny_of_eq (a := (_, _)) rfl ?_)
  refine wpAny_bind (wpAny_of_eq (a := _) rfl ?_)
  kxf_if
  refine wpAny_bind (wpAny_typeNameOf (T := "str") (typeIs_str _ _ _) (by decide) fun _ => ?_)
  refine wpAny_bind (wpAny_of_eq (a := some _) rfl ?_)
  kxf_if
  kxf_if
  refine wpAny_bind (wpAny_typeNameOfCut_int ?_)
  (repeat kxf_if)
  subst ha
  refine KXf.ret_text (T := br_two n) ?_ ?_ (by assumption)
  · rename_i h _
    clear h
    revert hn
    revert n
    decide +kernel
  · rename_i h _
    clear h
    refine Nat.le_trans (m := 100) ?_ (by rw [sizeLine_eq]; decide)
    revert hn
    revert n
    decide +kernel
end PySem.W

namespace Br
open PySem PySem.Spec PyProof.Rows L2
/-- f'{x:02x}' of a byte -/
def tFmt2 (te : TE) : TE := fun σ H Q => te σ H fun x H1 => ∃ n : Nat, x = .int (n : Int) ∧ n < 256 ∧ Q (.str (PySem.W.br_two n)) H1
theorem pe_fmt02x {X : Cx} {e : Expr} {te : TE} {pos p1 p2 : Pos} {k : Nat} (he : PE X e te) : PE X (.FormattedValue e (-1) (some (.JoinedStr [.Constant (.str "02x") k p1] p2)) pos) (tFmt2 te) := by
  refine ⟨fun pins s σ H Q I h => ?_⟩
  have hs : PE X (.JoinedStr [.Constant (.str "02x") k p1] p2) (tC (.str "02x")) := pe_joined1 pe_str
  refine wpAny_FormattedValue_spec (thn (he.run pins s σ H _ I h) fun v s1 ⟨x, H1, I1, r1, n, ex, hn, q⟩ => ?_)
  subst ex
  obtain ⟨t, rfl⟩ := r1
  refine thn (hs.run pins s1 σ H1 (fun y H2 => y = .str "02x" ∧ H2 = H1) I1 ⟨rfl, rfl⟩) fun r s2 ⟨y, H2, I2, r2, ey, e2⟩ => ?_
  subst ey e2
  obtain ⟨t2, rfl⟩ := r2
  refine ⟨_, t2, rfl, PySem.W.KXf.field_int (spec' := ⟨#[48, 50, 120]⟩) (by decide +kernel) (by decide) (by rw [sizeLine_eq]; decide) (PySem.W.br_fmt02 rfl hn) fun t' k => ?_⟩
  exact ⟨.str _, _, I2.tok _, ⟨t', rfl⟩, q⟩
section
variable {K : PySem.W.Frag} {X : Xc} {S : Sa} {Q : Sv → Os → Prop} {te : TE}
theorem ew_fmt2 (h : EW K X te S fun x os => ∃ n : Nat, x = .d (.int (n : Int)) ∧ n < 256 ∧ Q (.d (.str (PySem.W.br_two n))) os) : EW K X (tFmt2 te) S Q := fun as H σ Q' R x k =>
  h as H σ _ R x fun v H1 d os1 g1 R1 r1 ⟨n, ed, hn, q⟩ => by
    subst ed
    cases r1
    exact ⟨n, rfl, hn, k _ H1 (.d (.str _)) os1 g1 R1 (Dx.str _) q⟩
theorem cutD_all {xs : List D} {lo hi : Option Int} (h : HT.sIx xs.length 0 lo = 0 ∧ HT.sIx xs.length xs.length hi = xs.length) : cutD xs lo hi = xs := by
  unfold cutD
  rw [h.1, h.2]
  simp
theorem sw_T {xs : List D} {lo hi : Option Int} {os : Os} (q : Q (.d (.tup (cutD xs lo hi))) os) : SW K (rSlA K) (.d (.tup xs)) lo hi os Q := fun as H v Q' R r k => by
  cases r with
  | @tup a vs _ hl hr =>
    refine ⟨a, vs, rfl, hl.sq, fun h => ?_, fun h p hp => k _ _ (.d (.tup _)) os (Go.new hp) (R.new hp) (dx_newT R hp (cut_dx hr lo hi)) q⟩
    rw [hr.length] at h
    rw [cutD_all h] at q
    exact k _ H (.d (.tup xs)) os (Go.refl _ _) R (.tup hl hr) q
end
/-! within a comprehension, where the context's own K isn't to be named -/
def tJn (K : PySem.W.Frag) (to te : TE) : TE := tM1 (fun x xs H Q => ∃ a p, ∃ ys : List Str, x = .str a ∧ xs = [.ref p] ∧ (SqL K H p (ys.map V.str) ∨ SqT K H p (ys.map V.str)) ∧ (ys.map (·.length)).sum + ys.length * a.length ≤ 16777216 ∧ Q (.str (Txt.join a ys)) H) to te
theorem pe_joinK {X : Cx} {K : PySem.W.Frag} (hK : X.K = K) {o e : Expr} {to te : TE} {apos pos : Pos} (ho : PE X o to) (he : PE X e te) (hs : starEach [e] X.env = [(false, eval e X.env)] := by rfl) (hbase : attributeBase o "join" X.env (eval o X.env) = eval o X.env := by rfl) (hline : (apos.endLine == pos.line) = true := by rfl) :
    PE X (.Call (.Attribute o "join" apos) [e] [] pos) (tJn K to te) := by
  subst hK
  exact pe_join ho he hs hbase hline
theorem pi_tupK {X : Cx} {K : PySem.W.Frag} (hK : X.K = K) {tg l : Expr} {tl : TE} (hl : PE X l tl) : PI X tg l (iTup K tl) := by
  subst hK
  exact pi_tup hl
section
variable {K : PySem.W.Frag} {X : Xc} {S : Sa} {Q : Sv → Os → Prop} {te to : TE}
theorem ew_joinK (h : EW K X to S fun x os => ∃ a : Str, x = .d (.str a) ∧ EW K X te ⟨S.s, os⟩ fun y os2 => ∃ ys : List Str, y = .d (.lst (ys.map D.str)) ∧ (ys.map (·.length)).sum + ys.length * a.length ≤ 16777216 ∧ Q (.d (.str (Txt.join a ys))) os2) : EW K X (tJn K to te) S Q := ew_join h
end
end Br

/-! BrP: more of the interpreter's own: lists put together, compared with empty ones, truths reckoned with, dict.update, t[::-1], repr of any data. -/
namespace Br
open PySem PySem.Spec PyProof.Rows L2
section
variable {X : Cx}
/-! ### list + list -/
def rCatL (K : PySem.W.Frag) : R2 := fun x y H Q => ∃ l b xs zs, x = .ref l ∧ y = .ref b ∧ SqL K H l xs ∧ SqL K H b zs ∧ xs.length + zs.length ≤ sizeLine ∧ ∀ p, H p = none → Q (.ref p) (upd H p (.lst (xs ++ zs)))
theorem isl_of {h : Heap} {l : Addr} {its : Array Value} (p : h.IsList l its) : ∃ o n, h.get? l = some o ∧ o.cls = .type "list" ∧ o.data = .seq its n := by
  obtain ⟨o, e, c, n, d⟩ := p
  exact ⟨o, n, e, c, d⟩
theorem op_catL : OpR X (binaryOp .Add) (rCatL X.K) := by
  intro pins s σ H x y v u Q I rx ry h
  obtain ⟨l, b, xs, zs, rfl, rfl, hl, hb, hz, q⟩ := h
  cases rx
  cases ry
  obtain ⟨its, r, p1, z1⟩ := I.list hl
  obtain ⟨its2, r2, p2, z2⟩ := I.list hb
  have l1 := r.length
  have l2 := r2.length
  obtain ⟨⟨cls, dd, data, sl⟩, ho, hc, n, hd⟩ := id p1.isList
  obtain ⟨⟨cls2, dd2, data2, sl2⟩, ho2, hc2, n2, hd2⟩ := id p2.isList
  simp only at hc hd hc2 hd2
  subst hc hd hc2 hd2
  have e : its.toArray ++ its2.toArray = (its ++ its2).toArray := by simp
  refine concat_meets ⟨_, ho, rfl⟩ ⟨_, ho2, rfl⟩ noFill_list_add seq_list_add PySem.F.slot_list_add PySem.F.entry_list_add (PySem.F.args_list_add_2 _ _) (list_addW l b its.toArray its2.toArray n n2 dd dd2 sl sl2 (by rw [List.size_toArray, List.size_toArray]; omega)) ⟨ho, ho2, ?_⟩
  rw [e]
  exact ⟨.ref _, _, I.lnew (t' := s.toks) (r.append r2) (by rw [List.length_append]; omega), rfl, q _ I.fresh⟩
/-! ### [..] == [], (..) != () -/
def rEqNilL (K : PySem.W.Frag) : R2 := fun x y H Q => ∃ l b xs, x = .ref l ∧ y = .ref b ∧ SqL K H l xs ∧ SqL K H b [] ∧ Q (.bl xs.isEmpty) H
theorem op_eqNilL (hu : X.A.units + 64 < cLine) : OpR X (compareOp .Eq) (rEqNilL X.K) := by
  intro pins s σ H x y v u Q I rx ry h
  obtain ⟨l, b, xs, rfl, rfl, hl, hb, q⟩ := h
  cases rx
  cases ry
  obtain ⟨its, r, p1, z1⟩ := I.list hl
  obtain ⟨its2, r2, p2, z2⟩ := I.list hb
  have e2 : its2 = [] := by cases r2; rfl
  subst e2
  cases xs with
  | nil =>
    have e1 : its = [] := by cases r; rfl
    subst e1
    exact PySem.EqBoolInt.of_rc (SeqAt.RcAt.lists (e := fun _ => true) p1.isList p2.isList rfl (by omega) fun j h1 h2 => absurd h1 (by simp)) ⟨.bl true, H, I, rfl, q⟩
  | cons x xs =>
    have hl1 := r.length
    exact PySem.EqBoolInt.of_rc (SeqAt.RcAt.lists_lengths p1.isList p2.isList (by rw [List.size_toArray, ← hl1]; rfl) (by omega)) ⟨.bl false, H, I, rfl, q⟩
def rNeNilT (K : PySem.W.Frag) : R2 := fun x y H Q => ∃ l b xs, x = .ref l ∧ y = .ref b ∧ SqT K H l xs ∧ SqT K H b [] ∧ Q (.bl (!xs.isEmpty)) H
theorem op_neNilT (hu : X.A.units + 64 < cLine) : OpR X (compareOp .NotEq) (rNeNilT X.K) := by
  intro pins s σ H x y v u Q I rx ry h
  obtain ⟨l, b, xs, rfl, rfl, hl, hb, q⟩ := h
  cases rx
  cases ry
  obtain ⟨its, r, p1, z1⟩ := I.tuple hl
  obtain ⟨its2, r2, p2, z2⟩ := I.tuple hb
  have e2 : its2 = [] := by cases r2; rfl
  subst e2
  have hl1 := r.length
  refine PySem.EqBoolInt.of_rcne (k := !xs.isEmpty) ?_ ⟨.bl _, H, I, rfl, q⟩
  have z := SeqAt.RcNeAt.tuples (A := X.A) (e := fun _ => true) p1 p2 (by omega) fun j h1 h2 => absurd h2 (by simp)
  have e : (!((List.range (min its.toArray.size ([] : List Value).toArray.size)).all (fun _ => true) && its.toArray.size == ([] : List Value).toArray.size)) = !xs.isEmpty := by
    rw [List.size_toArray, ← hl1]
    cases xs <;> simp
  rw [e] at z
  exact z
/-! ### truths among numbers -/
def b2I (b : Bool) : Int := if b = true then 1 else 0
theorem op_add_bi : OpR X (binaryOp .Add) (fun x y H Q => ∃ b j, x = .bl b ∧ y = .int j ∧ Q (.int (b2I b + j)) H) := by
  intro pins s σ H x y v u Q I rx ry h
  obtain ⟨b, j, rfl, rfl, q⟩ := h
  cases rx
  obtain ⟨t, rfl⟩ := ry
  exact PySem.IntBool.add_bool_int ⟨.int _, H, I.tok _, ⟨_, rfl⟩, q⟩
theorem op_sub_bi : OpR X (binaryOp .Sub) (fun x y H Q => ∃ b j, x = .bl b ∧ y = .int j ∧ Q (.int (b2I b - j)) H) := by
  intro pins s σ H x y v u Q I rx ry h
  obtain ⟨b, j, rfl, rfl, q⟩ := h
  cases rx
  obtain ⟨t, rfl⟩ := ry
  exact PySem.IntBool.sub_bool_int ⟨.int _, H, I.tok _, ⟨_, rfl⟩, q⟩
theorem op_sub_ib : OpR X (binaryOp .Sub) (fun x y H Q => ∃ i b, x = .int i ∧ y = .bl b ∧ Q (.int (i - b2I b)) H) := by
  intro pins s σ H x y v u Q I rx ry h
  obtain ⟨i, b, rfl, rfl, q⟩ := h
  obtain ⟨t, rfl⟩ := rx
  cases ry
  exact PySem.IntBool.sub_int_bool ⟨.int _, H, I.tok _, ⟨_, rfl⟩, q⟩
theorem op_eq_bi : OpR X (compareOp .Eq) (fun x y H Q => ∃ b j, x = .bl b ∧ y = .int j ∧ Q (.bl (b2I b == j)) H) := by
  intro pins s σ H x y v u Q I rx ry h
  obtain ⟨b, j, rfl, rfl, q⟩ := h
  cases rx
  obtain ⟨t, rfl⟩ := ry
  exact PySem.EqBoolInt.eq_bool_int ⟨.bl _, H, I, rfl, q⟩
theorem call_str_bool : CallR X (.type "str") (fun xs H Q => ∃ b : Bool, xs = [.bl b] ∧ Q (.str (if b then "True" else "False")) H) := by
  intro pins s σ H xs us Q I r h
  obtain ⟨b, rfl, q⟩ := h
  obtain ⟨u, rfl, rx⟩ := vals1 r
  cases rx
  exact PySem.P.str_of_bool ⟨.str _, H, I.tok _, ⟨_, rfl⟩, q⟩
/-! ### dict.update -/
def rUpd : V → List V → Hp → VK → Prop := fun x vs H Q => ∃ (a b : Addr) (kvs more : List (Key × V)), x = .ref a ∧ vs = [.ref b] ∧ a ≠ b ∧ H a = some (.dK kvs) ∧ Rd H b (.dK more) ∧ kvs.length + more.length ≤ sizeLine ∧ Q .non (upd H a (.dK (mergeK kvs more)))
theorem mt_update : MtR X "dict.update" rUpd := by
  intro pins s σ H x vs v us Q I rx rv h
  obtain ⟨a, b, kvs, more, rfl, rfl, hne, e, eb, hl, q⟩ := h
  obtain rfl : v = Value.ref a := rx
  obtain ⟨u, rfl, ru⟩ := vals1 rv
  cases (show u = Value.ref b from ru)
  obtain ⟨z, hd, vs, rel, dd⟩ := dk_of I.hok e
  obtain ⟨z2, hd2, ws, rel2, dd2⟩ := dk_rd I.hok eb
  refine call_meetsIn PySem.F.slot_dict_update dd.typeIs PySem.F.entry_dict_update (PySem.F.args_dict_update_2 _ _) (meets_dict_update (mixKind X.prog X.w) a b hne hd2) ⟨vs, ws, dd, dd2, by rw [← rel.length, ← rel2.length]; exact hl, fun h' dd' _ hs => ?_⟩
  have he : ∃ q, h'.get? a = some q := let ⟨q, _, _, hq, _⟩ := dd'; ⟨q, hq⟩
  have hlen : (mergeK kvs more).length ≤ sizeLine := Nat.le_trans (length_mergeK more kvs) hl
  exact ⟨.non, _, d_write (t' := s.toks) I (by rw [e]; exact True.intro) hs he (dk_new hlen hd (KV.merge rel2 rel) dd'), rfl, q⟩
/-! ### T[e], T a written dict -/
theorem pe_opD {o i : Expr} {v : V} {ty : TE} {r : R2} {pos : Pos} (hr : OpR X getItem r) (hty : ∀ (pins : List (Addr × Obj)) (σ : L2.St) (H : Hp) (s : Shared) (u : Value), Inv X pins σ H s → RelV v u → s.TypeIs u "dict") (ho : PE X o (tC v)) (hi : PE X i ty) (hs : NoSl i) : PE X (.Subscript o i pos) (tOp r (tC v) ty) := by
  refine ⟨fun pins s σ H Q I h => ?_⟩
  refine subD_of PySem.F.slot_dict_getitem.lookup hs (thn (ho.run pins s σ H (fun x H1 => x = v ∧ H1 = H) I ⟨rfl, rfl⟩) fun u s1 ⟨x, H1, I1, rx, e1, e2⟩ => ?_)
  subst e1
  subst e2
  exact thn (hi.run pins s1 σ H1 _ I1 h) fun iv s2 ⟨y, H2, I2, ry, q2⟩ => ⟨hty pins σ H2 s2 u I2 rx, hr pins s2 σ H2 x y u iv Q I2 rx ry q2⟩
theorem ty_kd {d : Addr} {es : Array DictEntry} {n : Nat} (D : KDict X.K X.w d es n) : ∀ (pins : List (Addr × Obj)) (σ : L2.St) (H : Hp) (s : Shared) (u : Value), Inv X pins σ H s → RelV (.ref d) u → s.TypeIs u "dict" := fun pins σ H s u I r => by
  cases (show u = Value.ref d from r)
  exact kd_type D I
theorem ty_nd {d : Addr} {tb : List (Option Str × D)} (N : NDict X.K X.w d tb) : ∀ (pins : List (Addr × Obj)) (σ : L2.St) (H : Hp) (s : Shared) (u : Value), Inv X pins σ H s → RelV (.ref d) u → s.TypeIs u "dict" := fun pins σ H s u I r => by
  cases (show u = Value.ref d from r)
  obtain ⟨es, n, hl, hk, ho⟩ := N.ex
  exact (mapN (prog := X.prog) (w := X.w) I.kIn hl hk).typeIs
/-! ### zip, K told -/
theorem pi_zipMK {K : PySem.W.Frag} (hK : X.K = K) {e e2 : Expr} {ta : TA} {p pos tpos : Pos} {elts : List Expr} {kk : Nat} (h : PI X (.Tuple elts kk tpos) (.Call (.Name "zip" p) [e, e2] [] pos) (iZipM X.K ta)) : PI X (.Tuple elts kk tpos) (.Call (.Name "zip" p) [e, e2] [] pos) (iZipM K ta) := hK ▸ h
end
/-! ### t[::-1] of a tuple -/
section
variable {prog : Program} {w : World} {A : Around} {E : Value → Shared → Prop} {s : Shared}
theorem places_rev (n : Nat) : Builtin.Slice.slicePlaces ((n : Int) - 1) (-1) (-1) = n := by
  unfold Builtin.Slice.slicePlaces
  by_cases h : n = 0
  · subst h
    decide
  · have h1 : ¬ ((-1 : Int) > 0) := by decide
    have h2 : (n : Int) - 1 > -1 := by omega
    rw [if_neg h1, if_pos h2]
    have h3 : ((n : Int) - 1 - -1 - 1) / (- -1) + 1 = (n : Int) := by
      have : (- -1 : Int) = 1 := by decide
      rw [this, Int.ediv_one]
      omega
    rw [h3]
    rfl
theorem sliceApplied_rev {sl : Addr} {vs : Value} {n : Nat} {Q : Int × Int × Nat → Shared → Prop} (hs : s.heap.IsSliceOf sl .none .none vs) (ps : IsPart vs (some (-1)))
    (h : Q ((n : Int) - 1, -1, n) s) : wpAny (model prog w) A (Builtin.Slice.sliceApplied (.ref sl) (pure (n : Int))) Q E s := by
  obtain ⟨os, hos, hcs, hds⟩ := id hs
  unfold Builtin.Slice.sliceApplied Builtin.Slice.sliceFields
  refine wpAny_bind (wpAny_bind (wpAny_field hos hds (x := .none) rfl (wpAny_bind (wpAny_field hos hds (x := .none) rfl (wpAny_bind (wpAny_field hos hds (x := vs) rfl (wpAny_pure ?_)))))))
  refine wpAny_bind (HT.slicePart_ ps ?_)
  show wpAny _ _ (if ((-1 : Int) == 0) = true then _ else _) _ _ s
  rw [if_neg (by decide)]
  refine wpAny_bind (HT.slicePart_ .none (wpAny_bind (HT.slicePart_ .none (wpAny_bind (wpAny_pure ?_)))))
  show wpAny _ _ (match Builtin.Slice.sliceAdjust none none (-1) (n : Int) with | (lo, hi) => pure (lo, (-1 : Int), Builtin.Slice.slicePlaces lo hi (-1))) _ _ s
  show wpAny _ _ (pure ((n : Int) - 1, (-1 : Int), Builtin.Slice.slicePlaces ((n : Int) - 1) (-1) (-1))) _ _ s
  rw [places_rev]
  exact wpAny_pure h
theorem range_all {α : Type} (l : List α) : (List.range l.length).filterMap (l[·]?) = l := by
  induction l with
  | nil => rfl
  | cons x l ih =>
    rw [List.length_cons, List.range_succ_eq_map, List.filterMap_cons]
    simp only [List.getElem?_cons_zero]
    rw [List.filterMap_map]
    congr 1
theorem fm_congr {α β : Type} {f g : α → Option β} : ∀ {l : List α}, (∀ a ∈ l, f a = g a) → l.filterMap f = l.filterMap g
  | [], _ => rfl
  | a :: l, h => by
    rw [List.filterMap_cons, List.filterMap_cons, h a List.mem_cons_self, fm_congr fun b hb => h b (List.mem_cons_of_mem _ hb)]
theorem pick_rev (xs : Array Value) : ((List.range xs.size).filterMap fun (m : Nat) => xs[(((xs.size : Int) - 1) + (m : Int) * -1).toNat]?).toArray = xs.toList.reverse.toArray := by
  congr 1
  have h : ∀ m ∈ List.range xs.size, xs[(((xs.size : Int) - 1) + (m : Int) * -1).toNat]? = xs.toList.reverse[m]? := fun m hm => by
    have hm' : m < xs.size := List.mem_range.mp hm
    rw [List.getElem?_reverse (by simpa using hm'), Array.getElem?_toList]
    congr 1
    rw [Array.length_toList]
    omega
  rw [fm_congr h]
  have e : xs.size = xs.toList.reverse.length := by simp
  rw [e]
  exact range_all _
theorem getItem_tuple_rev {t sl : Addr} {items : Array Value} {vs : Value} {Q : Value → Shared → Prop} (ht : IsTup s.heap t items) (hs : s.heap.IsSliceOf sl .none .none vs) (ps : IsPart vs (some (-1)))
    (h : Q (.ref s.heap.objs.size) { s with heap := s.heap.push { cls := .type "tuple", data := .seq items.toList.reverse.toArray } })
    (hsz : items.size ≤ sizeLine) : wpAny (model prog w) A (getItem (.ref t) (.ref sl)) Q E s := by
  have htake : sizeOk (.seq items.toList.reverse.toArray) := by
    show items.toList.reverse.toArray.size ≤ sizeLine
    rw [List.size_toArray, List.length_reverse, Array.length_toList]
    exact hsz
  obtain ⟨os, hos, hcs, hds⟩ := id hs
  have hTs : s.TypeIs (.ref sl) "slice" := ⟨os, hos, hcs⟩
  unfold getItem
  try with_reducible refine wpAny_holding ?_
  first | refine wpAny_bind (wpAny_pure ?_) | skip
  refine wpAny_bind (wpAny_sequenceKey ht.typeIs (by decide) ?_)
  refine wpAny_bind (wpAny_callSpecial?_slot (name := Str.ofString "__getitem__") ht.typeIs PyProof.Rows.slot_tuple_getitem
    (wpAny_call_entry PyProof.Rows.slot_tuple_getitem ht.typeIs entry_tuple_getitem ?_ (args_tuple_getitem _ _)))
  show wpAny _ _ (Builtin.Tuple.tupleItemsOf (.ref t) >>= _) _ _ s
  refine wpAny_bind (tupleItemsOf_ ht ?_)
  refine wpAny_bind (wpAny_typeOf hTs ?_)
  rw [if_pos (by decide)]
  refine wpAny_bind (sliceApplied_rev hs ps ?_)
  have hno : ¬ ((((items.size : Int) - 1) == 0 && (-1 : Int) == 1 && items.size == items.size) = true) := by
    intro q
    rw [Bool.and_eq_true, Bool.and_eq_true] at q
    exact absurd q.1.2 (by decide)
  show wpAny _ _ (if (((items.size : Int) - 1) == 0 && (-1 : Int) == 1 && items.size == items.size) = true then _ else _) _ _ s
  rw [if_neg hno, pick_rev]
  first
    | exact wpAny_bind (m := Builtin.Tuple.tupleExact _) (wpAny_newObj_type (wpAny_pure ⟨_, rfl, wpAny_pure h⟩) htake)
    | exact wpAny_bind (m := Builtin.Tuple.tupleExact _) (wpAny_newObj_type (wpAny_bind (wpAny_pure (wpAny_pure ⟨_, rfl, wpAny_pure h⟩))) htake)
    | exact wpAny_bind (wpAny_bind (m := Builtin.Tuple.tupleExact _) (wpAny_newObj_type (wpAny_pure (wpAny_pure ⟨_, rfl, wpAny_pure h⟩)) htake))
    | exact wpAny_bind (wpAny_bind (m := Builtin.Tuple.tupleExact _) (wpAny_newObj_type (wpAny_pure ⟨_, rfl, wpAny_pure h⟩) htake))
end
def tRevT (K : PySem.W.Frag) (te : TE) : TE := fun σ H Q => te σ H fun x H1 => ∃ a xs, x = .ref a ∧ SqT K H1 a xs ∧ ∀ p, H1 p = none → Q (.ref p) (upd H1 p (.tup xs.reverse))
theorem pe_revT {X : Cx} {e : Expr} {te : TE} {k : Nat} {p1 p2 p3 pos : Pos} (he : PE X e te) : PE X (.Subscript e (.Slice none none (some (.UnaryOp .USub (.Constant (.int 1) k p1) p2)) p3) pos) (tRevT X.K te) := by
  refine ⟨fun pins s σ H Q I h => ?_⟩
  refine Subscript_ (thn (he.run pins s σ H _ I h) fun v s1 ⟨x, H1, I1, r1, q1⟩ => ?_)
  obtain ⟨a, xs, ex, hx, q⟩ := q1
  subst ex
  cases r1
  have hst : PO X (some (.UnaryOp .USub (.Constant (.int 1) k p1) p2)) (tPart (tUn (rU fun i => .int (-i)) (tC (.int 1)))) := po_some (pe_un un_neg pe_int)
  refine wpAny_Slice (thn (po_none.run pins s1 σ H1 (fun o H2 => o = none ∧ H2 = H1) I1 ⟨rfl, rfl⟩) fun vl s2 ⟨l, H2, I2, pl, el, e2⟩ => ?_)
  subst el e2
  refine thn (po_none.run pins s2 σ H2 (fun o H3 => o = none ∧ H3 = H2) I2 ⟨rfl, rfl⟩) fun vu s3 ⟨u, H3, I3, pu, eu, e3⟩ => ?_
  subst eu e3
  refine thn (hst.run pins s3 σ H3 (fun o H4 => o = some (-1) ∧ H4 = H3) I3 ⟨1, rfl, -1, rfl, rfl, rfl⟩) fun vs s4 ⟨o, H4, I4, ps, eo, e4⟩ => ?_
  subst eo e4
  cases pl
  cases pu
  have I5 : Inv X pins σ H4 { s4 with heap := s4.heap.push { cls := .type "slice", data := .fields #[.none, .none, vs] } } := I4.kept (t' := s4.toks) fun b ob q => Heap.get?_push_of_some _ q
  obtain ⟨its, r, ht, hz⟩ := I5.tuple hx
  have hlen := r.length
  show wpAny (model X.prog X.w) X.A (subscriptTail e (.Slice none none (some (.UnaryOp .USub (.Constant (.int 1) k p1) p2)) p3) (.ref a) (.ref s4.heap.objs.size)) (EP X pins σ Q) X.xe { s4 with heap := s4.heap.push { cls := .type "slice", data := .fields #[.none, .none, vs] } }
  refine tail_any (ops := [.ref a, .ref s4.heap.objs.size]) ht.typeIs (PyProof.Rows.slot_tuple_getitem.lookup) ?_ (by with_unfolding_all rfl)
  refine getItem_tuple_rev ht (Heap.IsSliceOf.new _ _ _ vs) ps ?_ (by rw [List.size_toArray]; omega)
  refine ⟨.ref _, _, I5.laid (t' := s4.toks) (o := .tup xs.reverse) (fun b ob q => Heap.get?_push_of_some _ q) (Nat.le_refl _) ?_, rfl, q _ (I5.hok.fresh (Nat.le_refl _))⟩
  exact ⟨by rw [List.length_reverse]; exact hz, _, r.reverse, IsTup.new _ _⟩
/-! ### a text turned about: its signs are its own -/
def tRevS2 (te : TE) : TE := fun σ H Q => te σ H fun x H1 => ∃ z : Str, x = .str z ∧ z.length ≤ sizeLine ∧ ∀ y : Str, y.length ≤ z.length → (∀ c ∈ y.cps.toList, c ∈ z.cps.toList) → Q (.str y) H1
theorem pe_revs2 {X : Cx} {e : Expr} {te : TE} {k : Nat} {p1 p2 p3 pos : Pos} (he : PE X e te) : PE X (.Subscript e (.Slice none none (some (.UnaryOp .USub (.Constant (.int 1) k p1) p2)) p3) pos) (tRevS2 te) := by
  refine ⟨fun pins s σ H Q I h => ?_⟩
  refine Subscript_ (thn (he.run pins s σ H _ I h) fun v s1 ⟨x, H1, I1, r1, q1⟩ => ?_)
  obtain ⟨z, ex, hz, q⟩ := q1
  subst ex
  obtain ⟨t, rfl⟩ := r1
  have hst : PO X (some (.UnaryOp .USub (.Constant (.int 1) k p1) p2)) (tPart (tUn (rU fun i => .int (-i)) (tC (.int 1)))) := po_some (pe_un un_neg pe_int)
  refine wpAny_Slice (thn (po_none.run pins s1 σ H1 (fun o H2 => o = none ∧ H2 = H1) I1 ⟨rfl, rfl⟩) fun vl s2 ⟨l, H2, I2, pl, el, e2⟩ => ?_)
  subst el e2
  refine thn (po_none.run pins s2 σ H2 (fun o H3 => o = none ∧ H3 = H2) I2 ⟨rfl, rfl⟩) fun vu s3 ⟨u, H3, I3, pu, eu, e3⟩ => ?_
  subst eu e3
  refine thn (hst.run pins s3 σ H3 (fun o H4 => o = some (-1) ∧ H4 = H3) I3 ⟨1, rfl, -1, rfl, rfl, rfl⟩) fun vs s4 ⟨o, H4, I4, ps, eo, e4⟩ => ?_
  subst eo e4
  obtain ⟨l, rfl, el⟩ := IsPart.raw pl
  obtain ⟨u, rfl, eu⟩ := IsPart.raw pu
  obtain ⟨st, rfl, es⟩ := IsPart.raw ps
  have I5 : Inv X pins σ H4 { s4 with heap := s4.heap.push { cls := .type "slice", data := .fields #[partValue l, partValue u, partValue st] } } := I4.kept (t' := s4.toks) fun b ob q => Heap.get?_push_of_some _ q
  show wpAny (model X.prog X.w) X.A (subscriptTail e (.Slice none none (some (.UnaryOp .USub (.Constant (.int 1) k p1) p2)) p3) (.str z t) (.ref s4.heap.objs.size)) (EP X pins σ Q) X.xe { s4 with heap := s4.heap.push { cls := .type "slice", data := .fields #[partValue l, partValue u, partValue st] } }
  refine tail_any (ops := [.ref s4.heap.objs.size, .str z t]) (typeIs_str _ _ _) PySem.F.slot_str_getitem.lookup ?_ (by with_unfolding_all rfl)
  refine wpAny_getItem_str_slice (l := l) (u := u) (st := st) (Heap.IsSliceOf.new _ _ _ _) (by rw [es]; rfl) ?_
  cases l with
  | some l => cases el
  | none =>
    cases u with
    | some u => cases eu
    | none =>
      cases st with
      | none => cases es
      | some st =>
        obtain ⟨n, tk⟩ := st
        have en : n = -1 := by
          have e : some n = some (-1) := es
          injection e
        subst en
        have hlen := step_rev_len z tk
        have hn : ¬ (((((some ((-1 : Int), tk)).map (·.1)).getD 1 == 1) && ((slicePicked z none none (some ((-1 : Int), tk))).length == z.length)) = true) := by
          have : ((((some ((-1 : Int), tk)).map (·.1)).getD 1 == 1)) = false := rfl
          rw [this]
          simp
        have e1 : Txt.sliceBy z none none (-1, tk) = ⟨((slicePicked z none none (some (-1, tk))).filterMap (z.cps[·]?)).toArray⟩ := by
          unfold Txt.sliceBy
          rw [if_neg hn]
        have e2 : sliceMade z t none none (some (-1, tk)) = Made.str (Txt.sliceBy z none none (-1, tk)) := by
          rw [e1]
          unfold sliceMade
          rw [if_neg hn]
        rw [e2]
        refine ⟨by rw [hlen]; exact hz, .str _, _, I5.tok _, ⟨_, rfl⟩, q _ (Nat.le_of_eq hlen) fun c hc => ?_⟩
        rw [e1] at hc
        obtain ⟨i, _, h2⟩ := List.mem_filterMap.mp (by simpa using hc)
        exact Array.mem_toList_iff.mpr (Array.mem_of_getElem? h2)
/-! ### repr of any data, {} within it too -/
mutual
def D.pyE : D → Option PyData
  | .non => some .none
  | .bl b => some (.bool b)
  | .int i => some (.int i)
  | .str x => some (.str x)
  | .lst xs => (D.pysE xs).map .list
  | .tup xs => (D.pysE xs).map .tuple
  | .dk kvs => match kvs with
    | [] => some (.dict [])
    | _ :: _ => none
  | .ob _ _ => none
  | .xo _ _ => none
def D.pysE : List D → Option (List PyData)
  | [] => some []
  | x :: r => (D.pyE x).bind fun p => (D.pysE r).map fun ps => p :: ps
end
section
variable {X : Cx} {pins : List (Addr × Obj)} {σ : L2.St} {H : Hp} {s : Shared} {as : List Addr}
/-- the module table is written, and no list -/
def SysOk (K : PySem.W.Frag) : Prop := ∃ o, K.lookup sysModules = some o ∧ o.cls ≠ .type "list"
/-- the same of a heap -/
def SysOn (h : Heap) : Prop := ∃ o, h.get? sysModules = some o ∧ o.cls ≠ .type "list"
theorem SysOk.on {K : PySem.W.Frag} {h : Heap} (hS : SysOk K) (k : K.In h) : SysOn h := let ⟨o, e, n⟩ := hS; ⟨o, k _ _ e, n⟩
theorem sys_ne {a : Addr} {o : Obj} (hS : SysOn X.base) (I : Inv X pins σ H s) (h : s.heap.get? a = some o) (c : o.cls = .type "list") : sysModules ≠ a := fun e => by
  obtain ⟨u, h1, h2⟩ := hS
  have z := I.bk _ _ h1
  rw [e, h] at z
  cases z
  exact h2 c
mutual
theorem Dx.reads (hS : SysOn X.base) (I : Inv X pins σ H s) : ∀ (d : D) (v : V) (u : Value) (p : PyData), Dx X.K as H v d → RelV v u → d.pyE = some p → ∃ bs, Reads s.heap u p bs ∧ sysModules ∉ bs
  | .non, _, _, p, h, r, e => by
    cases h
    cases r
    cases (show some PyData.none = some p from e)
    exact ⟨_, Reads.none, fun z => nomatch z⟩
  | .bl b, _, _, p, h, r, e => by
    cases h
    cases r
    cases (show some (PyData.bool b) = some p from e)
    exact ⟨_, Reads.bool b, fun z => nomatch z⟩
  | .int i, _, _, p, h, r, e => by
    cases h
    obtain ⟨t, rfl⟩ := r
    cases (show some (PyData.int i) = some p from e)
    exact ⟨_, Reads.int i t, fun z => nomatch z⟩
  | .str x, _, _, p, h, r, e => by
    cases h
    obtain ⟨t, rfl⟩ := r
    cases (show some (PyData.str x) = some p from e)
    exact ⟨_, Reads.str x t, fun z => nomatch z⟩
  | .lst ds, _, _, p, h, r, e => by
    cases h with
    | lst hs ha =>
      cases r
      obtain ⟨ps, e1, rfl⟩ := Option.map_eq_some_iff.mp (show (D.pysE ds).map PyData.list = some p from e)
      obtain ⟨its, rv, ⟨o, n, ho, hc, _, hd⟩, _⟩ := I.list hs.sq
      obtain ⟨bs, hr, hn⟩ := Dx.readsAll hS I ds _ its ps ha rv e1
      refine ⟨_, Reads.list ho hc hd hr, fun z => ?_⟩
      rcases List.mem_cons.mp z with z | z
      · exact sys_ne hS I ho hc z
      · exact hn z
  | .tup ds, _, _, p, h, r, e => by
    cases h with
    | tup hs ha =>
      cases r
      obtain ⟨ps, e1, rfl⟩ := Option.map_eq_some_iff.mp (show (D.pysE ds).map PyData.tuple = some p from e)
      obtain ⟨its, rv, ⟨o, ho, hc, n, hd⟩, _⟩ := I.tuple hs.sq
      obtain ⟨bs, hr, hn⟩ := Dx.readsAll hS I ds _ its ps ha rv e1
      exact ⟨_, Reads.tuple ho hc hd hr, hn⟩
  | .dk [], _, _, p, h, r, e => by
    cases (show some (PyData.dict []) = some p from e)
    cases h with
    | @dk a _ _ na hrd hp =>
      cases hp
      cases r
      obtain ⟨z, lo, vs, rel, o, es, ep, h1, h2, h3, h4, h5, h6⟩ := dk_rd I.hok hrd
      cases rel
      have h0 : es.toList = [] := by
        cases q : es.toList with
        | nil => rfl
        | cons a l => rw [q] at h5; cases h5
      have he : es = #[] := Array.toList_inj.mp h0
      subst he
      refine ⟨_, Reads.dict (kvs := []) h1 h2.1 h3 .nil .nil, fun z => ?_⟩
      have e : sysModules = a := by simpa using z
      rw [← e] at lo
      exact absurd lo (by decide)
  | .dk (_ :: _), _, _, p, _, _, e => by cases (show (none : Option PyData) = some p from e)
  | .ob _ _, _, _, p, _, _, e => by cases (show (none : Option PyData) = some p from e)
  | .xo _ _, _, _, p, _, _, e => by cases (show (none : Option PyData) = some p from e)
theorem Dx.readsAll (hS : SysOn X.base) (I : Inv X pins σ H s) : ∀ (ds : List D) (vs : List V) (us : List Value) (ps : List PyData), DxA X.K as H vs ds → Vals vs us → D.pysE ds = some ps → ∃ bs, ReadsAll s.heap us ps bs ∧ sysModules ∉ bs
  | [], _, _, ps, h, r, e => by
    cases h
    cases r
    cases (show some [] = some ps from e)
    exact ⟨_, ReadsAll.nil, fun z => nomatch z⟩
  | d :: ds, _, _, ps, h, r, e => by
    cases h with
    | cons h1 h2 =>
      cases r with
      | cons r1 r2 =>
        obtain ⟨p, e1, e2⟩ := Option.bind_eq_some_iff.mp (show ((D.pyE d).bind fun p => (D.pysE ds).map fun ps => p :: ps) = some ps from e)
        obtain ⟨qs, e3, rfl⟩ := Option.map_eq_some_iff.mp e2
        obtain ⟨as1, q1, n1⟩ := Dx.reads hS I d _ _ p h1 r1 e1
        obtain ⟨bs1, q2, n2⟩ := Dx.readsAll hS I ds _ _ qs h2 r2 e3
        exact ⟨_, ReadsAll.cons q1 q2, fun z => (List.mem_append.mp z).elim n1 n2⟩
end
end
def rReprA (K : PySem.W.Frag) : List V → Hp → VK → Prop := fun xs H Q => ∃ (as : List Addr) (v : V) (d : D) (p : PyData), xs = [v] ∧ Dx K as H v d ∧ d.pyE = some p ∧ p.showable = true ∧ p.depth ≤ 60 ∧ p.shown.length ≤ sizeLine ∧ Q (.str p.shown) H
theorem call_reprA {X : Cx} (hS : SysOn X.base) (hg : X.A.guards = some []) (hu : X.A.units + 64 < cLine) : CallR X (.builtin "repr") (rReprA X.K) := by
  intro pins s σ H xs us Q I r h
  obtain ⟨as, v, d, p, rfl, hd, e, h1, h3, h4, q⟩ := h
  obtain ⟨u, rfl, rx⟩ := vals1 r
  obtain ⟨bs, rd, nin⟩ := Dx.reads hS I d v u p hd rx e
  cases d with
  | non =>
    cases hd
    cases rx
    cases (show some PyData.none = some p from e)
    exact PySem.P.repr_of_none ⟨.str _, H, I.tok _, ⟨_, rfl⟩, q⟩
  | bl b =>
    cases hd
    cases rx
    cases (show some (PyData.bool b) = some p from e)
    exact PySem.P.repr_of_bool ⟨.str _, H, I.tok _, ⟨_, rfl⟩, q⟩
  | int i =>
    cases hd
    obtain ⟨t, rfl⟩ := rx
    cases (show some (PyData.int i) = some p from e)
    exact PySem.P.repr_of_int (of_decide_eq_true h1) ⟨.str _, H, I.tok _, ⟨_, rfl⟩, q⟩
  | str x =>
    cases hd
    obtain ⟨t, rfl⟩ := rx
    cases (show some (PyData.str x) = some p from e)
    exact PySem.P.repr_of_str ⟨.str _, H, I.tok _, ⟨_, rfl⟩, q⟩ h4
  | lst ds =>
    cases hd
    cases rx
    exact repr_of_reads' rd h1 (fun _ => nin) hg (by omega) (fun _ _ e => e) (fun h' t tk keep => ⟨.str p.shown, H, I.kept (t' := tk) keep, ⟨t, rfl⟩, q⟩) h4
  | tup ds =>
    cases hd
    cases rx
    exact repr_of_reads' rd h1 (fun _ => nin) hg (by omega) (fun _ _ e => e) (fun h' t tk keep => ⟨.str p.shown, H, I.kept (t' := tk) keep, ⟨t, rfl⟩, q⟩) h4
  | dk kvs =>
    cases hd
    cases rx
    exact repr_of_reads' rd h1 (fun _ => nin) hg (by omega) (fun _ _ e => e) (fun h' t tk keep => ⟨.str p.shown, H, I.kept (t' := tk) keep, ⟨t, rfl⟩, q⟩) h4
  | ob C fs => cases (show (none : Option PyData) = some p from e)
  | xo C fs => cases (show (none : Option PyData) = some p from e)
end Br

/-! BrQ: more rules over data. -/
namespace Br
open PySem PySem.Spec PyProof.Rows L2
section
variable {K : PySem.W.Frag} {X : Xc} {S : Sa} {os : Os} {Q : Sv → Os → Prop} {ta tb tc te to : TE}
/-- a < b < c -/
theorem ew_chain {r r' : R2} (h : EW K X ta S fun x os1 => EW K X tb ⟨S.s, os1⟩ fun y os2 => BW K r x y os2 fun z os3 => ∃ b, z = .d (.bl b) ∧ if b = true then EW K X tc ⟨S.s, os3⟩ fun u os4 => BW K r' y u os4 Q else Q (.d (.bl false)) os3) : EW K X (tChain r r' ta tb tc) S Q := fun as H σ Q' R x k =>
  h as H σ _ R x fun v H1 d os1 g1 R1 r1 q1 => q1 as H1 σ _ (R.go g1 R1) (x.go g1 R1) fun u H2 e os2 g2 R2 r2 q2 => q2 as H2 v u _ R2 (r1.go g2) r2 fun z H3 f os3 g3 R3 r3 ⟨b, eb, q3⟩ => by
    subst eb
    cases r3
    refine ⟨b, rfl, ?_⟩
    have g := (g1.trans g2).trans g3
    cases b with
    | true =>
      show tc σ H3 _
      exact (show EW K X tc ⟨S.s, os3⟩ (fun u os4 => BW K r' e u os4 Q) from q3) as H3 σ _ (R.go g R3) (x.go g R3) fun w H4 e4 os4 g4 R4 r4 q4 => q4 as H4 u w Q' R4 ((r2.go g3).go g4) r4 fun z H5 d5 os5 g5 R5 r5 q5 => k z H5 d5 os5 ((g.trans g4).trans g5) R5 r5 q5
    | false =>
      show Q' (.bl false) H3
      exact k _ H3 (.d (.bl false)) os3 g R3 (Dx.bl false) q3
theorem bw_catL {xs ys : List D} (hl : xs.length + ys.length ≤ sizeLine) (q : Q (.d (.lst (xs ++ ys))) os) : BW K (rCatL K) (.d (.lst xs)) (.d (.lst ys)) os Q :=
  bw_new (fun as H v u Q' R rx ry k1 k2 => by
    cases rx with
    | lst h1 h2 =>
      cases ry with
      | lst h3 h4 => exact ⟨_, _, _, _, rfl, rfl, h1.sq, h3.sq, by rw [h2.length, h4.length]; exact hl, fun p hp => k1 p _ hp (dx_newL R hp (h2.app h4))⟩) q
theorem bw_eqNilL {xs : List D} (q : Q (.d (.bl xs.isEmpty)) os) : BW K (rEqNilL K) (.d (.lst xs)) (.d (.lst [])) os Q :=
  bw_pure (fun as H v u Q' R rx ry k => by
    cases rx with
    | @lst a ws _ h1 h2 =>
      cases ry with
      | lst h3 h4 =>
        cases h4
        refine ⟨_, _, _, rfl, rfl, h1.sq, h3.sq, ?_⟩
        have e : ws.isEmpty = xs.isEmpty := by cases h2 <;> rfl
        rw [e]
        exact k _ (.bl _)) q
theorem bw_neNilT {xs : List D} (q : Q (.d (.bl (!xs.isEmpty))) os) : BW K (rNeNilT K) (.d (.tup xs)) (.d (.tup [])) os Q :=
  bw_pure (fun as H v u Q' R rx ry k => by
    cases rx with
    | @tup a ws _ h1 h2 =>
      cases ry with
      | tup h3 h4 =>
        cases h4
        refine ⟨_, _, _, rfl, rfl, h1.sq, h3.sq, ?_⟩
        have e : ws.isEmpty = xs.isEmpty := by cases h2 <;> rfl
        rw [e]
        exact k _ (.bl _)) q
theorem bw_addBI {b : Bool} {j : Int} (q : Q (.d (.int (b2I b + j))) os) : BW K (fun x y H Q => ∃ b j, x = .bl b ∧ y = .int j ∧ Q (.int (b2I b + j)) H) (.d (.bl b)) (.d (.int j)) os Q :=
  bw_pure (fun as H v u Q' R rx ry k => by
    cases rx
    cases ry
    exact ⟨b, j, rfl, rfl, k _ (.int _)⟩) q
theorem bw_subBI {b : Bool} {j : Int} (q : Q (.d (.int (b2I b - j))) os) : BW K (fun x y H Q => ∃ b j, x = .bl b ∧ y = .int j ∧ Q (.int (b2I b - j)) H) (.d (.bl b)) (.d (.int j)) os Q :=
  bw_pure (fun as H v u Q' R rx ry k => by
    cases rx
    cases ry
    exact ⟨b, j, rfl, rfl, k _ (.int _)⟩) q
theorem bw_subIB {b : Bool} {i : Int} (q : Q (.d (.int (i - b2I b))) os) : BW K (fun x y H Q => ∃ i b, x = .int i ∧ y = .bl b ∧ Q (.int (i - b2I b)) H) (.d (.int i)) (.d (.bl b)) os Q :=
  bw_pure (fun as H v u Q' R rx ry k => by
    cases rx
    cases ry
    exact ⟨i, b, rfl, rfl, k _ (.int _)⟩) q
theorem bw_eqBI {b : Bool} {j : Int} (q : Q (.d (.bl (b2I b == j))) os) : BW K (fun x y H Q => ∃ b j, x = .bl b ∧ y = .int j ∧ Q (.bl (b2I b == j)) H) (.d (.bl b)) (.d (.int j)) os Q :=
  bw_pure (fun as H v u Q' R rx ry k => by
    cases rx
    cases ry
    exact ⟨b, j, rfl, rfl, k _ (.bl _)⟩) q
theorem cw_strB {b : Bool} (q : Q (.d (.str (if b then "True" else "False"))) os) : CW K (fun xs H Q => ∃ b : Bool, xs = [.bl b] ∧ Q (.str (if b then "True" else "False")) H) [.d (.bl b)] os Q :=
  cw_pure (fun as H vs Q' R r k => by
    cases r with
    | cons h t =>
      cases t
      cases h
      exact ⟨b, rfl, k _ (.str _)⟩) q
theorem cw_strI {i : Int} (hi : i.natAbs.log2 < 1920) (q : Q (.d (.str (toString i))) os) : CW K (fun xs H Q => ∃ i, xs = [.int i] ∧ i.natAbs.log2 < 1920 ∧ Q (.str (toString i)) H) [.d (.int i)] os Q :=
  cw_pure (fun as H vs Q' R r k => by
    cases r with
    | cons h t =>
      cases t
      cases h
      exact ⟨i, rfl, hi, k _ (.str _)⟩) q
theorem bw_isB {a b : Bool} (q : Q (.d (.bl (decide (a = b)))) os) : BW K rIsB (.d (.bl a)) (.d (.bl b)) os Q :=
  bw_pure (fun as H v u Q' R rx ry k => by
    cases rx
    cases ry
    exact ⟨a, b, rfl, rfl, k _ (.bl _)⟩) q
theorem bw_notB {a b : Bool} (q : Q (.d (.bl (!decide (a = b)))) os) : BW K rNotB (.d (.bl a)) (.d (.bl b)) os Q :=
  bw_pure (fun as H v u Q' R rx ry k => by
    cases rx
    cases ry
    exact ⟨a, b, rfl, rfl, k _ (.bl _)⟩) q
theorem bw_eqB {a b : Bool} (q : Q (.d (.bl (decide (a = b)))) os) : BW K rEq (.d (.bl a)) (.d (.bl b)) os Q :=
  bw_pure (fun as H v u Q' R rx ry k => by
    cases rx
    cases ry
    have e : decide (V.bl a = V.bl b) = decide (a = b) := by simp
    exact ⟨rfl, by rw [e]; exact k _ (.bl _)⟩) q
/-- a text among written texts -/
theorem inV_strs {z : Str} : ∀ {ns : List Str}, inV (.str z) (ns.map V.str) = decide (z ∈ ns)
  | [] => rfl
  | n :: ns => by
    have ih := inV_strs (z := z) (ns := ns)
    unfold inV at ih ⊢
    rw [List.map_cons, List.any_cons, ih]
    have e : eqV (.str n) (.str z) = decide (z = n) := by
      show decide (n = z) = decide (z = n)
      by_cases h : n = z
      · simp [h]
      · rw [decide_eq_false h, decide_eq_false fun q : z = n => h q.symm]
    rw [e]
    by_cases h : z = n <;> simp [h]
theorem bw_inT {z : Str} {ns : List Str} (q : Q (.d (.bl (decide (z ∈ ns)))) os) : BW K (rIn K false) (.d (.str z)) (.d (.tup (ns.map D.str))) os Q :=
  bw_pure (fun as H v u Q' R rx ry k => by
    cases rx
    cases ry with
    | tup h1 h2 =>
      have ev := DxA.of_strs h2
      subst ev
      refine ⟨_, _, rfl, .inr h1.sq, rfl, by rw [List.all_map]; exact List.all_eq_true.mpr fun _ _ => rfl, ?_⟩
      show Q' (.bl (inV (.str z) (ns.map V.str))) H
      rw [inV_strs]
      exact k _ (.bl _)) q
/-- t.upper() -/
theorem ew_upper (h : EW K X to S fun x os => ∃ z : Str, x = .d (.str z) ∧ z.length ≤ 5592405 ∧ Q (.d (.str (Txt.upper z))) os) : EW K X (tM0 (fun x xs H Q => ∃ a, x = .str a ∧ xs = [] ∧ a.length ≤ 5592405 ∧ Q (.str (Txt.upper a)) H) to) S Q := fun as H σ Q' R x k =>
  h as H σ _ R x fun v H1 d os1 g1 R1 r1 ⟨z, ed, hz, q⟩ => by
    subst ed
    cases r1
    exact ⟨⟨z, rfl⟩, z, rfl, rfl, hz, k _ H1 (.d (.str _)) os1 g1 R1 (Dx.str _) q⟩
end

/-! ### dicts that stay -/
section
variable {K : PySem.W.Frag} {X : Xc} {S : Sa} {os : Os} {Q : Sv → Os → Prop} {ta tb td ty te to : TE} {E : Ea}
theorem DxP.isSome {as : List Addr} {H : Hp} {k : Key} : ∀ {vs : List (Key × V)} {ds : List (Key × D)}, DxP K as H vs ds → (valV vs k).isSome = (lookD ds k).isSome
  | _, _, .nil => rfl
  | _, _, .cons (k := k2) (v := v) (d := d) (vs := vs) (ds := ds) h r => by
    have ih := DxP.isSome (k := k) r
    unfold valV lookD at ih ⊢
    by_cases e : k2 = k
    · simp [List.find?_cons, e]
    · simpa [List.find?_cons, e] using ih
theorem DxP.keys {as : List Addr} {H : Hp} : ∀ {vs : List (Key × V)} {ds : List (Key × D)}, DxP K as H vs ds → vs.map (·.1) = ds.map (·.1)
  | _, _, .nil => rfl
  | _, _, .cons h r => by rw [List.map_cons, List.map_cons, DxP.keys r]
theorem DxA.strs {as : List Addr} {H : Hp} : ∀ (ns : List Str), DxA K as H (ns.map V.str) (ns.map D.str)
  | [] => .nil
  | n :: r => .cons (.str n) (DxA.strs r)
theorem ew_dgetD (h : EW K X td S fun x os1 => EW K X ty ⟨S.s, os1⟩ fun y os2 => ∃ kds key z, x = .d (.dk kds) ∧ y = .d (keyD key) ∧ lookD kds key = some z ∧ Q (.d z) os2) : EW K X (tDGet td ty) S Q := fun as H σ Q' R x k =>
  h as H σ _ R x fun v H1 d os1 g1 R1 r1 q1 => q1 as H1 σ _ (R.go g1 R1) (x.go g1 R1) fun u H2 e os2 g2 R2 r2 ⟨kds, key, z, ex, ey, el, q2⟩ => by
    subst ex
    subst ey
    have r1' : Dx K as H2 v (.dk kds) := r1.go g2
    cases r1' with
    | dk na hrd hp =>
      obtain ⟨w, h3, h4⟩ := hp.look el
      have hk := key_v (show Dx K as H2 u (keyD key) from r2)
      subst hk
      exact ⟨_, w, rfl, .inl ⟨_, key, hrd, rfl, h3.symm⟩, k w H2 (.d z) os2 (g1.trans g2) R2 h4 q2⟩
theorem ew_notInD (h : EW K X ty S fun y os1 => EW K X td ⟨S.s, os1⟩ fun x os2 => ∃ kds key, x = .d (.dk kds) ∧ y = .d (keyD key) ∧ Q (.d (.bl (!(lookD kds key).isSome))) os2) : EW K X (tDNotIn ty td) S Q := fun as H σ Q' R x k =>
  h as H σ _ R x fun u H1 d os1 g1 R1 r1 q1 => q1 as H1 σ _ (R.go g1 R1) (x.go g1 R1) fun v H2 e os2 g2 R2 r2 ⟨kds, key, ex, ey, q2⟩ => by
    subst ex
    subst ey
    have r1' : Dx K as H2 u (keyD key) := r1.go g2
    have hk := key_v r1'
    subst hk
    cases (show Dx K as H2 v (.dk kds) from r2) with
    | dk na hrd hp =>
      refine ⟨_, _, rfl, .inl ⟨_, key, hrd, rfl, rfl⟩, ?_⟩
      rw [hp.isSome]
      exact k _ H2 (.d (.bl _)) os2 (g1.trans g2) R2 (Dx.bl _) q2
theorem cw_sortedD {kds : List (Key × D)} {ks : List Str} (hk : kds.map (·.1) = ks.map Sum.inr) (h64 : ks.length < 64) (q : ∀ ys : List Str, ys.Perm ks → Q (.d (.lst (ys.map D.str))) os) :
    CW K (fun xs H Q => ∃ (a : Addr) (kvs : List (Key × V)) (ks : List Str), xs = [.ref a] ∧ Rd H a (.dK kvs) ∧ kvs.map (·.1) = ks.map Sum.inr ∧ ks.length < 64 ∧ ∀ ys p, ys.Perm ks → sortedS ys = true → H p = none → Q (.ref p) (upd H p (.lst (ys.map V.str)))) [.d (.dk kds)] os Q := fun as H vs Q' R r k => by
  cases r with
  | cons h t =>
    cases t
    cases (show Dx K as H _ (.dk kds) from h) with
    | dk na hrd hp => exact ⟨_, _, ks, rfl, hrd, hp.keys.trans hk, h64, fun ys p hperm _ hp0 => k (.ref p) _ (.d (.lst (ys.map D.str))) os (Go.new hp0) (R.new hp0) (dx_newL R hp0 (DxA.strs ys)) (q ys hperm)⟩
theorem disp_in {as : List Addr} {H2 : Hp} {p : Addr} {os4 : Os} {kvs : List (Key × V)} {kds : List (Key × D)} (R2 : Ro K (as ++ [p]) H2 (os4 ++ [.md []])) (rk : DxP K (as ++ [p]) H2 kvs kds) :
    H2 p = some (.dK []) ∧ Ro K (as ++ [p]) (upd H2 p (.dK (mergeK [] kvs))) (os4 ++ [.md (mergeD [] kds)]) := by
  have hlen : as.length = os4.length := by
    have := R2.len
    simpa using this
  have hpos : (as ++ [p])[as.length]? = some p := by simp
  obtain ⟨ws, e1, e2⟩ := R2.own as.length p (.md []) hpos (by rw [hlen]; simp)
  cases e2
  have g3 : Go (as ++ [p]) H2 (upd H2 p (.dK (mergeK [] kvs))) := Go.at (by simp)
  have z := ro_set (ob := .md (mergeD [] kds)) R2 hpos ⟨mergeK [] kvs, upd_same, DxP.way (Way.of_go g3) (merge_dx rk .nil)⟩
  rw [hlen, List.set_append_right _ _ (Nat.le_refl _)] at z
  exact ⟨e1, by simpa using z⟩
theorem re_disp {as : List Addr} {H : Hp} {σ : L2.St} {p : Addr} (R : Re K as H σ S) (hp : H p = none) : Re K (as ++ [p]) (upd H p (.dK [])) σ ⟨S.s, S.os ++ [.md []]⟩ :=
  ⟨ro_addD R.o hp, R.slen, fun j d hd => by
    obtain ⟨u, e, z⟩ := R.slot j d hd
    exact ⟨u, e, z.stp (stp_add hp)⟩⟩
/-- {k: v, ..}, data -/
theorem ew_disp {trs : List (TE × TE)} (h : DW K X0 trs ⟨S.s, S.os ++ [.md []]⟩ fun ds os3 => ∃ os4 kds, os3 = os4 ++ [.md []] ∧ ds = kds.map (fun kv => (keyD kv.1, kv.2)) ∧ kds.length ≤ 15 ∧ Q (.d (.dk (mergeD [] kds))) os4) : EW K X (tDisp trs) S Q := fun as H σ Q' R x k p hp => by
  refine h _ _ σ _ (re_disp R hp) XH.x0 fun ps H2 ds os3 g2 R2 r2 ⟨os4, kds, e3, ed, hl, q⟩ => ?_
  subst e3
  subst ed
  obtain ⟨kvs, ek, rk⟩ := pr_keys r2
  obtain ⟨e1, R3⟩ := disp_in R2 rk
  obtain ⟨Rf, ⟨ws, e5, e6⟩, nin⟩ := ro_drop R3
  have sN : Stp as H (as ++ [p]) (upd H2 p (.dK (mergeK [] kvs))) := ((stp_add hp).trans (Stp.of_go g2 R2)).trans (Stp.of_go (Go.at (by simp)) R3)
  exact ⟨e1, kvs, ek, by rw [rk.length]; exact hl, k (.ref p) _ (.d (.dk (mergeD [] kds))) os4 sN.go Rf (Dx.dk nin (.inl e5) e6) q⟩
/-- x = {k: v, ..}, a dict that changes -/
theorem w_asgDisp {trs : List (TE × TE)} {i : Nat} (h : DW K X0 trs ⟨S.s, S.os ++ [.md []]⟩ fun ds os3 => ∃ os4 kds, os3 = os4 ++ [.md []] ∧ ds = kds.map (fun kv => (keyD kv.1, kv.2)) ∧ kds.length ≤ 15 ∧ E.nx ⟨S.s.set i (some (.o S.os.length)), os4 ++ [.md (mergeD [] kds)]⟩) :
    W K X (tAsg (tDisp trs) (gName i)) E S := fun as H σ D R x n r b c p hp => by
  refine h _ _ σ _ (re_disp R hp) XH.x0 fun ps H2 ds os3 g2 R2 r2 ⟨os4, kds, e3, ed, hl, q⟩ => ?_
  subst e3
  subst ed
  obtain ⟨kvs, ek, rk⟩ := pr_keys r2
  obtain ⟨e1, R3⟩ := disp_in R2 rk
  have sN : Stp as H (as ++ [p]) (upd H2 p (.dK (mergeK [] kvs))) := ((stp_add hp).trans (Stp.of_go g2 R2)).trans (Stp.of_go (Go.at (by simp)) R3)
  have RR : Re K (as ++ [p]) (upd H2 p (.dK (mergeK [] kvs))) σ ⟨S.s, os4 ++ [.md (mergeD [] kds)]⟩ := ⟨R3, R.slen, fun j d hd => by
    obtain ⟨u, e, z⟩ := R.slot j d hd
    exact ⟨u, e, z.stp sN⟩⟩
  exact ⟨e1, kvs, ek, by rw [rk.length]; exact hl, n _ _ _ _ sN (RR.set i (v := .ref p) (d := .o S.os.length) ⟨p, by rw [← R.o.len]; simp, rfl⟩) q⟩
/-- d.update(e) -/
theorem ew_upd (h : EW K X to S fun x os1 => ∃ j k1, x = .o j ∧ os1[j]? = some (.md k1) ∧ EW K X te ⟨S.s, os1⟩ fun y os2 => ∃ k2 more, y = .d (.dk more) ∧ os2[j]? = some (.md k2) ∧ k2.length + more.length ≤ sizeLine ∧ Q (.d .non) (os2.set j (.md (mergeD k2 more)))) :
    EW K X (tBM K "dict" rUpd to (tCons te tNil)) S Q := fun as H σ Q' R x k =>
  h as H σ _ R x fun v H1 d os1 g1 R1 r1 ⟨j, k1, ed, eo1, h2⟩ => by
    subst ed
    obtain ⟨a, ea, rfl⟩ := r1
    refine ⟨?_, h2 as H1 σ _ (R.go g1 R1) (x.go g1 R1) fun u H2 e os2 g2 R2 r2 ⟨k2, more, ey, eo, hl, q⟩ => ?_⟩
    · obtain ⟨ws, q1, _⟩ := R1.own j a _ ea eo1
      exact .inr (.inr (.inl ⟨rfl, .inl ⟨ws, q1⟩⟩))
    · subst ey
      obtain ⟨ws, h1, h3⟩ := R2.own j a _ ea eo
      have hm : a ∈ as := List.mem_of_getElem? ea
      cases (show Dx K as H2 u (.dk more) from r2) with
      | @dk b kvs _ na hrd hp =>
        have g3 : Go as H2 (upd H2 a (.dK (mergeK ws kvs))) := Go.at hm
        have R3 : Ro K as (upd H2 a (.dK (mergeK ws kvs))) (os2.set j (.md (mergeD k2 more))) := ro_set R2 ea ⟨_, upd_same, DxP.way (Way.of_go g3) (merge_dx hp h3)⟩
        exact ⟨a, b, ws, kvs, rfl, rfl, fun z => na (z ▸ hm), h1, hrd, by rw [h3.length, hp.length]; exact hl, k .non _ (.d .non) _ ((g1.trans g2).trans g3) R3 Dx.non q⟩
/-- a new list of the store -/
theorem ro_addL {as : List Addr} {H : Hp} {p : Addr} {vs : List V} {xs : List D} (R : Ro K as H os) (hp : H p = none) (r : DxA K as H vs xs) : Ro K (as ++ [p]) (upd H p (.lst vs)) (os ++ [.ml xs]) := by
  have R0 := ro_add R hp
  have hpos : (as ++ [p])[as.length]? = some p := by simp
  have w1 : Way K as (as ++ [p]) H H := Way.of_add hp
  have w2 : Way K (as ++ [p]) (as ++ [p]) H (upd H p (.lst vs)) := Way.of_go (Go.at (by simp))
  have z := ro_set (o := .lst vs) (ob := .ml xs) R0 hpos ⟨vs, by rw [upd_upd]; exact upd_same, by rw [upd_upd]; exact (r.way w1).way w2⟩
  rw [upd_upd, R.len, List.set_append_right _ _ (Nat.le_refl _)] at z
  simpa using z
/-- x = xs + ys, a list that changes -/
theorem w_asgCat {i : Nat} (h : EW K X ta S fun x os1 => EW K X tb ⟨S.s, os1⟩ fun y os2 => ∃ xs ys, x = .d (.lst xs) ∧ y = .d (.lst ys) ∧ xs.length + ys.length ≤ sizeLine ∧ E.nx ⟨S.s.set i (some (.o os2.length)), os2 ++ [.ml (xs ++ ys)]⟩) :
    W K X (tAsg (tOp (rCatL K) ta tb) (gName i)) E S := fun as H σ D R x n r b c =>
  h as H σ _ R (x.h R) fun v H1 d os1 g1 R1 r1 q1 => q1 as H1 σ _ (R.go g1 R1) ((x.h R).go g1 R1) fun u H2 e os2 g2 R2 r2 ⟨xs, ys, ex, ey, hl, q⟩ => by
    subst ex
    subst ey
    have r1' : Dx K as H2 v (.lst xs) := r1.go g2
    cases r1' with
    | @lst a1 us _ h1 h2 =>
      cases (show Dx K as H2 u (.lst ys) from r2) with
      | @lst a2 ws _ h3 h4 =>
        refine ⟨_, _, _, _, rfl, rfl, h1.sq, h3.sq, by rw [h2.length, h4.length]; exact hl, fun p hp => ?_⟩
        have R3 := ro_addL R2 hp (h2.app h4)
        have s3 : Stp as H2 (as ++ [p]) (upd H2 p (.lst (us ++ ws))) := stp_add hp
        have sN := (Stp.of_go (g1.trans g2) R2).trans s3
        have RR : Re K (as ++ [p]) _ σ ⟨S.s, os2 ++ [.ml (xs ++ ys)]⟩ := ⟨R3, R.slen, fun j d hd => by
          obtain ⟨u, e, z⟩ := R.slot j d hd
          exact ⟨u, e, z.stp sN⟩⟩
        exact n _ _ _ _ sN (RR.set i (v := .ref p) (d := .o os2.length) ⟨p, by rw [← R2.len]; simp, rfl⟩) q
/-- a return that hands out a dict of the store -/
def RetM (n : Nat) (QA : D → Os → Prop) : Sv → Os → Prop := fun x os' => match x with
  | .d d => QA d (os'.take n)
  | .o k => n ≤ k ∧ ∃ kvs, os'[k]? = some (.md kvs) ∧ QA (.dk kvs) (os'.take n)
  | .fn _ _ => False
theorem retM_back {as bs : List Addr} {H H' : Hp} {os' : Os} {QA : D → Os → Prop} {v : V} {x : Sv} {Q : VK} (s : Stp as H bs H') (n : as.length = os.length) (R : Ro K bs H' os') (r : SvR K bs H' v x) (q : RetM os.length QA x os')
    (k : ∀ v H' d os', Go as H H' → Ro K as H' os' → Dx K as H' v d → QA d os' → Q v H') : Q v H' := by
  cases x with
  | d d => exact k v H' d _ s.go (R.back s n) (Dx.way (Way.of_sub s.sub) r) q
  | o j =>
    obtain ⟨hj, xs, e, q⟩ := q
    obtain ⟨a, ea, rfl⟩ := r
    obtain ⟨vs, h1, h2⟩ := R.own j a _ ea e
    obtain ⟨nw, eb, hf⟩ := s.pre
    have ha : a ∉ as := fun z => by
      obtain ⟨i, hi, ei⟩ := List.mem_iff_getElem.mp z
      have h3 : bs[i]? = some a := by rw [eb, List.getElem?_append_left hi, List.getElem?_eq_getElem hi, ei]
      have h4 : i = j := by
        obtain ⟨l1, m1⟩ := List.getElem?_eq_some_iff.mp h3
        obtain ⟨l2, m2⟩ := List.getElem?_eq_some_iff.mp ea
        exact (List.getElem_inj R.nd).mp (m1.trans m2.symm)
      omega
    exact k _ H' _ _ s.go (R.back s n) (.dk ha (.inl h1) (h2.way (Way.of_sub s.sub))) q
  | fn f r => exact q.elim
theorem readM_of {N : List Str} {f : FD} {t : TS} {vs : List V} {H : Hp} {Q : VK} {E : XK} (h : spD K f vs H Q E)
    (w : ∀ ds os QA EA, f ds os QA EA → W K ⟨fun cls d _ H => E cls d H, fun C fds S => EA C fds (S.os.take os.length)⟩ t { nx := fun S => RetM os.length QA (.d .non) S.os, rt := RetM os.length QA } ⟨startS N ds, os⟩) : t { nx := fun _ H' => Q .non H', rt := Q } (L2.start N vs) H := by
  obtain ⟨as, os, ds, QA, EA, R, r, hf, kq, ke⟩ := h
  refine w ds os QA EA hf as H _ _ (re_start R r) (fun bs H' σ' S' C dd fs fds s R' n e r' z => ?_) (fun bs H' σ' S' s R' q => ?_) (fun bs H' v d os' s R' r' q => ?_) (fun _ _ _ _ _ _ q => q.elim) fun _ _ _ _ _ _ q => q.elim
  · exact ke C dd H' fs fds _ s.go (R'.o.back s R.len) n e (DxF.way (Way.of_sub s.sub) r') z
  · exact retM_back s R.len R'.o (v := .non) (x := .d .non) Dx.non q kq
  · exact retM_back s R.len R' r' q kq
end
end Br

/-! BrL: lists that grow by tuples, enumerate of tuples and lists from any count, calls by names alone, (x,) * a truth. -/
namespace BrEn
open PySem PySem.Spec PyProof.Rows Builtin Builtin.SmallTypes
open AutoSeq1 (wpAny_loadPart')
theorem meets_extT (l b : Addr) (xs ys : Array Value) (n m : Nat) (dd : Option Addr) (sl : Array (Option Value)) (h0 : ¬(!xs.isEmpty && Builtin.List.listTooLong (xs.size + ys.size)) = true) (h1 : xs.size ≤ sizeLine) (h2 : xs.size + ys.size ≤ sizeLine + 1) :
    Meets (Builtin.«list.extend» ⟨[.ref l, .ref b], []⟩) (fun _ R s => s.heap.get? l = some { cls := .type "list", dict := none, data := .seq xs n, slots := #[] } ∧
      s.heap.get? b = some { cls := .type "tuple", dict := dd, data := .seq ys m, slots := sl } ∧ R (.ok (.ret Value.none)) { s with heap := s.heap.update l (Obj.mapSeq fun x => x ++ ys), toks := s.toks }) :=
  .of_wp fun prog w A R s h => by
    obtain ⟨hp, g, d, tk, os⟩ := s
    obtain ⟨hl, hb, h⟩ := h
    have k1 := AutoSeq1.idx_int
    have k2 := AutoSeq1.sub_tuple_tuple
    have k3 := AutoSeq1.sub_list_list
    have k4 := AutoSeq1.sub_tuple_list
    have k5 := AutoSeq1.sub_list_tuple
    have hz' : (xs ++ ys).size ≤ sizeLine + 1 := by rw [Array.size_append]; exact h2
    wp_walk using (wpAny_updateSeq hl rfl (hz := h1) (_hz' := hz')), wpAny_loadPart' hl, wpAny_loadPart' hb
    exact ⟨_, rfl, h⟩
theorem meets_enT (t : Addr) (ys : Array Value) :
    Meets (Builtin.«enumerate.__new__» ⟨[.type "enumerate", .ref t], []⟩) (fun _ R s => s.heap.IsTuple t ys ∧
      R (.ok (.ret (.ref (s.heap.push { cls := .type "tuple_iterator", data := .fields #[.ref t, .int 0 0] }).objs.size)))
        { s with heap := (s.heap.push { cls := .type "tuple_iterator", data := .fields #[.ref t, .int 0 0] }).push { cls := .type "enumerate", data := .fields #[.none, .bool false, .ref s.heap.objs.size, rawInt 0, .none, .none] } }) :=
  .of_wp fun prog w A R s h => by
    obtain ⟨hp, g, d, tk, os⟩ := s
    obtain ⟨hl, h⟩ := h
    have hsub := sub_enumerate
    have hL : Heap.IsTuple (Shared.heap ⟨hp, g, d, tk, os⟩) t ys := hl
    wp_walk
    refine wpAny_stack_any fun st => wpAny_pure ?_
    split
    · rename_i c _ _ _ _ _
      cases (c == Value.type "enumerate")
      · wp_walk using wpAny_pyIter_tuple hL
        exact ⟨_, rfl, h⟩
      · wp_walk using wpAny_pyIter_tuple hL
        exact ⟨_, rfl, h⟩
    · wp_walk using wpAny_pyIter_tuple hL
      exact ⟨_, rfl, h⟩
section
variable {prog : Program} {w : World} {A : Around} {E : Value → Shared → Prop} {s : Shared}
theorem call_enT {t : Addr} {ys : Array Value} {Q : Value → Shared → Prop} (hL : s.heap.IsTuple t ys)
    (h : ∀ h', IsEnum h' (s.heap.objs.size + 1) s.heap.objs.size 0 .none → h'.IsTupleIter s.heap.objs.size t 0 →
      (∀ b o, s.heap.get? b = some o → h'.get? b = some o) → Q (.ref (s.heap.objs.size + 1)) { s with heap := h' }) :
    wpAny (model prog w) A (call (.type "enumerate") [.ref t]) Q E s := by
  refine callType_new F.called_enumerate (by decide) (F.typeCall_enumerate_1 _) (F.newCall_enumerate_1 _) (fun obj => F.args_object_init_2 obj _) F.entry_enumerate_new (meets_enT t ys) ⟨hL, ?_⟩
  have hz : (s.heap.push { cls := .type "tuple_iterator", data := .fields #[.ref t, .int 0 0] }).objs.size = s.heap.objs.size + 1 := Heap.size_push ..
  show _ ∧ _
  rw [hz]
  have he := Heap.get?_push_size (s.heap.push { cls := .type "tuple_iterator", data := .fields #[.ref t, .int 0 0] }) (o := { cls := .type "enumerate", data := .fields #[.none, .bool false, .ref s.heap.objs.size, rawInt 0, .none, .none] }) rfl
  rw [hz] at he
  have hi : ((s.heap.push { cls := .type "tuple_iterator", data := .fields #[.ref t, .int 0 0] }).push { cls := .type "enumerate", data := .fields #[.none, .bool false, .ref s.heap.objs.size, rawInt 0, .none, .none] }).get? s.heap.objs.size = some { cls := .type "tuple_iterator", data := .fields #[.ref t, .int 0 0] } :=
    Heap.get?_push_of_some _ (Heap.get?_push_size _ rfl)
  exact ⟨⟨_, he, rfl⟩, h _ he ⟨_, hi, rfl, rfl⟩ fun b o x => Heap.get?_push_of_some _ (Heap.get?_push_of_some _ x)⟩
end
end BrEn
namespace Br
open PySem PySem.Spec PyProof.Rows L2 BrEn
section
variable {X : Cx}
/-- l.extend(t), t a tuple -/
def rExt (K : PySem.W.Frag) : V → List V → Hp → VK → Prop := fun x vs H Q => ∃ l b xs zs, x = .ref l ∧ vs = [.ref b] ∧ H l = some (.lst xs) ∧ SqT K H b zs ∧ xs.length + zs.length ≤ sizeLine ∧ Q .non (upd H l (.lst (xs ++ zs)))
theorem mt_extT : MtR X "list.extend" (rExt X.K) := by
  intro pins s σ H x vs v us Q I rx rv h
  obtain ⟨l, b, xs, zs, rfl, rfl, hH, hB, hz, q⟩ := h
  cases rx
  obtain ⟨u, rfl, ru⟩ := vals1 rv
  cases (show u = Value.ref b from ru)
  obtain ⟨z, its, n, r, hl, e⟩ := I.lstM hH
  obtain ⟨its2, r2, ⟨⟨cls, dd, data, sl⟩, ho, hc, m, hd⟩, hs⟩ := I.tuple hB
  simp only at hc hd
  subst hc hd
  have l1 := r.length
  have l2 := r2.length
  have hsz : its.toArray.size + its2.toArray.size ≤ sizeLine := by rw [List.size_toArray, List.size_toArray]; omega
  have hlong : ¬ (!its.toArray.isEmpty && Builtin.List.listTooLong (its.toArray.size + its2.toArray.size)) = true := by
    rw [notLongL hsz, Bool.and_false]
    exact Bool.false_ne_true
  refine call_meets PySem.F.slot_list_extend ⟨_, e, rfl⟩ PySem.F.entry_list_extend (PySem.F.args_list_extend_2 _ _)
    (meets_extT l b its.toArray its2.toArray n m dd sl hlong (by omega) (by omega)) ⟨e, ho, ?_⟩
  refine ⟨.non, _, I.lset (its' := its ++ its2) hH e (by simp) (r.append r2) ?_, rfl, q⟩
  rw [List.length_append]
  omega
/-- (x,) * 0, (x,) * 1 -/
def rMulB (K : PySem.W.Frag) : R2 := fun x y H Q => ∃ a xs b, x = .ref a ∧ y = .int (if b = true then 1 else 0) ∧ SqT K H a xs ∧ ∀ p, H p = none → Q (.ref p) (upd H p (.tup (if b = true then xs else [])))
end
end Br

/-! BrM: enumerate over tuples and lists. -/
namespace Br
open PySem PySem.Spec PyProof.Rows L2 BrEn
/-- the tuple at a, each item in a new pair with its number from k on -/
def ItE (K : PySem.W.Frag) (a : Addr) (k : Int) (m : Nat) : It :=
  ⟨fun i H => ∃ (xs : List V) (x : V), SqT K H a xs ∧ xs.length = m ∧ xs[i]? = some x, fun i H v H' => ∃ T x, v = .ref T ∧ H T = none ∧ H' = upd H T (.tup [.int (k + (i : Nat)), x]) ∧ ∀ xs, SqT K H a xs → xs[i]? = some x,
    fun i H => m ≤ i ∧ ∃ xs : List V, SqT K H a xs ∧ xs.length = m⟩
theorem turn_en {P : Program} {w : World} {K : PySem.W.Frag} {elts : List Expr} {kk m : Nat} {tpos : Pos} {a e it : Addr} {k : Int} (hne : e ≠ it) (hea : e ≠ a) (hia : a ≠ it) :
    Turn P w K (.Tuple elts kk tpos) (ItE K a k m) [e, it] e (fun i h => i ≤ m ∧ (∃ old, IsEnum h e it (k + ((i : Nat) : Int)) old) ∧ h.IsTupleIter it a i) where
  mem := by simp
  obj := fun i h st b hb => by
    obtain ⟨_, ⟨old, he⟩, ⟨o, ho, hc, hd⟩⟩ := st
    simp only [List.mem_cons, List.not_mem_nil, or_false] at hb
    rcases hb with z | z
    · rw [z]; exact ⟨_, he, fun v q => nomatch q⟩
    · rw [z]; exact ⟨o, ho, fun v q => by rw [hd] at q; cases q⟩
  keep := fun i h h' st kp => by
    obtain ⟨hm, ⟨old, he⟩, hi⟩ := st
    exact ⟨hm, ⟨old, kp e (by simp) _ he⟩, hi.at fun o q => kp it (by simp) o q⟩
  item := by
    intro X hP hw hK hc i pins s σ H E I hf st hg
    subst hP hw hK
    obtain ⟨hm, ⟨old, he⟩, hit⟩ := st
    obtain ⟨xs, x, hq, hl, hx⟩ := hg
    obtain ⟨its, rv, p, hz⟩ := I.tuple hq
    obtain ⟨u, hu, ru⟩ := rv.get hx
    have hel : e < s.heap.objs.size := Heap.lt_size he
    have hil : it < s.heap.objs.size := by obtain ⟨_, q, _⟩ := hit; exact Heap.lt_size q
    have D := Draws.tuple (prog := X.prog) (w := X.w) (A := X.A.in1) (I.ok.hd hc) it a hia its.toArray
    have hlt : i < its.toArray.size := by
      rw [List.size_toArray]
      exact (List.getElem?_eq_some_iff.mp hu).1
    have hef : e ∉ [it, a] := fun z => by
      simp only [List.mem_cons, List.not_mem_nil, or_false] at z
      rcases z with z | z
      · exact hne z
      · exact hea z
    refine wpAny_pyNext_enum_itemC D he ⟨hit, p⟩ hlt hne hef fun x2 h' tk y2 ho hs hT hsz hk => ?_
    have ev : x2 = u := by
      have y3 : its[i]? = some x2 := by simpa using y2
      rw [hu] at y3
      exact (Option.some.inj y3).symm
    subst ev
    refine ⟨_, rfl, wpAny_letOwnedTupleGo_enum (s := { s with heap := h', toks := tk + 1 }) ho fun h'' he' sb => ?_⟩
    have hT2 : h''.get? s.heap.objs.size = some { cls := .type "tuple", data := .seq #[.int (k + (i : Nat)) tk, x2] } := (sb.2 _ (Nat.ne_of_gt hel)).trans hT
    have new : ObjOk X.prog X.w (upd H s.heap.objs.size (.tup [.int (k + (i : Nat)), x])) h'' s.heap.objs.size (.tup [.int (k + (i : Nat)), x]) :=
      ⟨by show 2 ≤ sizeLine; decide, [.int (k + (i : Nat)) tk, x2], .cons ⟨_, rfl⟩ (.cons ru .nil), ⟨_, hT2, rfl, _, rfl⟩⟩
    have I1 : Inv X pins σ (upd H s.heap.objs.size (.tup [.int (k + (i : Nat)), x])) { s with heap := h'', toks := tk + 1 } :=
      I.turnedNew (t' := tk + 1) (ch := [e, it]) (fun b ob hb q => (sb.2 b (fun z => hb (by simp [z]))).trans (hk b ob (fun z => hb (by simp [z])) (fun z => hb (by simp [z])) q)) hf (Nat.le_refl _) new
    refine ⟨.ref s.heap.objs.size, _, I1, rfl, ⟨_, x, rfl, I.hok.fresh (Nat.le_refl _), rfl, fun ys hy => by rw [I.tuple_inj hy hq]; exact hx⟩, ⟨?_, ⟨x2, ?_⟩, hs.1.at fun o q => (sb.2 it (Ne.symm hne)).trans q⟩, fun b hb => ?_⟩
    · rw [← hl]
      exact (List.getElem?_eq_some_iff.mp hx).1
    · have e1 : k + ((i + 1 : Nat) : Int) = k + ((i : Nat) : Int) + 1 := by omega
      rw [e1]
      exact he'
    · have hb' : b < s.heap.objs.size := by
        simp only [List.mem_cons, List.not_mem_nil, or_false] at hb
        rcases hb with z | z
        · rw [z]; exact hel
        · rw [z]; exact hil
      rw [upd_ne (Nat.ne_of_lt hb')]
      exact (hf b hb).1
  done := by
    intro X hP hw hK hc i pins s σ H E I hf st hg
    subst hP hw hK
    obtain ⟨hm, ⟨old, he⟩, hit⟩ := st
    obtain ⟨hend, xs, hq, hl⟩ := hg
    obtain ⟨its, rv, p, hz⟩ := I.tuple hq
    have l2 := rv.length
    have D := Draws.tuple (prog := X.prog) (w := X.w) (A := X.A.in1) (I.ok.hd hc) it a hia its.toArray
    have ei : i = its.toArray.size := by rw [List.size_toArray]; omega
    subst ei
    obtain ⟨f0, f1, f2, f3, f4, f5⟩ := hf it (by simp)
    exact wpAny_pyNext_enum_endD D he ⟨hit, p⟩ fun h' eb => ⟨rfl, I.turned (t' := s.toks) (fun b o hb q => eb b o hb q) f0 f1 f3 f4 f5⟩
  self := fun A i s Q E st h => by
    obtain ⟨_, ⟨_, he⟩, _⟩ := st
    exact wpAny_pyIter_enum he h
/-- enumerate(a tuple or a list) -/
def iEn (K : PySem.W.Frag) (ta : TA) : TI := fun σ H R => ta σ H fun vs H1 => ∃ a xs, vs = [.ref a] ∧ ((SqL K H1 a xs ∧ R (Ite K a) H1) ∨ (SqT K H1 a xs ∧ R (ItE K a 0 xs.length) H1))
section
variable {X : Cx} {pins : List (Addr × Obj)} {σ : L2.St} {H : Hp} {s : Shared}
theorem pi_enA {e : Expr} {ta : TA} {p pos tpos : Pos} {elts : List Expr} {kk : Nat} (hg : Gl X "enumerate") (hm : X.mg "enumerate" = none) (ha : PA X [e] ta) (hs : starEach [e] X.env = [(false, eval e X.env)] := by rfl) :
    PI X (.Tuple elts kk tpos) (.Call (.Name "enumerate" p) [e] [] pos) (iEn X.K ta) := by
  refine ⟨fun pins s σ H R I h => ?_⟩
  refine Call_ (ld_blt I hg hm boot_enumerate (PyProof.Rows.callWith_type1 (thn (ha.run pos pins s σ H _ I h) fun us s1 ⟨vs, H1, I1, r1, q1⟩ => ?_) hs rfl))
  obtain ⟨a, xs, ex, hq⟩ := q1
  subst ex
  obtain ⟨u, rfl, ru⟩ := vals1 r1
  cases (show u = Value.ref a from ru)
  have fresh : ∀ b ∈ [s1.heap.objs.size + 1, s1.heap.objs.size], FpOk X pins H1 b := fun b hb => by
    have hle : s1.heap.objs.size ≤ b := by
      simp only [List.mem_cons, List.not_mem_nil, or_false] at hb
      rcases hb with z | z
      · rw [z]; exact Nat.le_add_right _ _
      · rw [z]; exact Nat.le_refl _
    exact I1.fpOk hle (I1.hok.fresh hle)
  rcases hq with ⟨hq, q⟩ | ⟨hq, q⟩
  · obtain ⟨its, rv, p', hz⟩ := I1.list hq
    refine call_enumerate_list p'.isList fun h' he hit hsz hk => wpAny_pyIter_enum he ?_
    have I2 : Inv X pins σ H1 { s1 with heap := h' } := I1.kept (t' := s1.toks) hk
    exact ⟨s1.heap.objs.size + 1, [s1.heap.objs.size + 1, s1.heap.objs.size], _, _, H1, rfl, I2, turn_enum a (s1.heap.objs.size + 1) s1.heap.objs.size, ⟨⟨.none, he⟩, hit, Nat.succ_ne_self _⟩, fresh, q⟩
  · obtain ⟨its, rv, p', hz⟩ := I1.tuple hq
    have hal : a < s1.heap.objs.size := by
      obtain ⟨o, ho, _⟩ := id p'
      exact Heap.lt_size ho
    refine call_enT (show s1.heap.IsTuple a its.toArray from p') fun h' he hit hk => wpAny_pyIter_enum he ?_
    have I2 : Inv X pins σ H1 { s1 with heap := h' } := I1.kept (t' := s1.toks) hk
    refine ⟨s1.heap.objs.size + 1, [s1.heap.objs.size + 1, s1.heap.objs.size], _, _, H1, rfl, I2, turn_en (Nat.succ_ne_self _) (Nat.ne_of_gt (Nat.lt_succ_of_lt hal)) (Nat.ne_of_lt hal), ⟨Nat.zero_le _, ⟨.none, he⟩, hit⟩, fresh, q⟩
end
end Br

/-! BrM2: (x, ..) * 0 and * 1; enumerate with start=; calls by names alone. -/
namespace BrEn
open PySem PySem.Spec PyProof.Rows Builtin Builtin.SmallTypes
open AutoSeq1 (wpAny_loadPart')
theorem meets_mul1 (l : Addr) (xs : Array Value) (n : Nat) (dd : Option Addr) (sl : Array (Option Value)) (u : Tok) :
    Meets (Builtin.«tuple.__mul__» ⟨[.ref l, .int 1 u], []⟩) (fun _ R s => s.heap.get? l = some { cls := .type "tuple", dict := dd, data := .seq xs n, slots := sl } ∧ R (.ok (.ret (Value.ref l))) s) :=
  .of_wp fun prog w A R s h => by
    obtain ⟨hp, g, d, tk, os⟩ := s
    obtain ⟨hl, h⟩ := h
    have k1 := AutoSeq1.idx_int
    have k2 := AutoSeq1.sub_tuple_tuple
    wp_walk using wpAny_loadPart' hl
    exact ⟨_, rfl, h⟩
theorem meets_mul0 (l : Addr) (xs : Array Value) (n : Nat) (dd : Option Addr) (sl : Array (Option Value)) (u : Tok) (hx : xs.isEmpty = false) :
    Meets (Builtin.«tuple.__mul__» ⟨[.ref l, .int 0 u], []⟩) (fun _ R s => s.heap.get? l = some { cls := .type "tuple", dict := dd, data := .seq xs n, slots := sl } ∧
      R (.ok (.ret (Value.ref s.heap.objs.size))) { s with heap := s.heap.push { cls := Value.type "tuple", data := Data.seq #[] }, toks := s.toks }) :=
  .of_wp fun prog w A R s h => by
    obtain ⟨hp, g, d, tk, os⟩ := s
    obtain ⟨hl, h⟩ := h
    have k1 := AutoSeq1.idx_int
    have k2 := AutoSeq1.sub_tuple_tuple
    wp_walk using wpAny_loadPart' hl
    exact ⟨_, rfl, h⟩
end BrEn
namespace Br
open PySem PySem.Spec PyProof.Rows L2 BrEn
/-- (x, ..) * 0, * 1 -/
def rMul01 (K : PySem.W.Frag) : R2 := fun x y H Q => ∃ (a : Addr) (xs : List V) (b : Bool), x = .ref a ∧ y = .int (if b = true then 1 else 0) ∧ SqT K H a xs ∧ xs ≠ [] ∧ (b = true → Q (.ref a) H) ∧ (b = false → ∀ p, H p = none → Q (.ref p) (upd H p (.tup [])))
section
variable {X : Cx}
theorem op_mul01 : OpR X (binaryOp .Mult) (rMul01 X.K) := by
  intro pins s σ H x y v u Q I rx ry h
  obtain ⟨l, xs, b, rfl, rfl, hT, hne, q1, q0⟩ := h
  cases (show v = Value.ref l from rx)
  obtain ⟨t, rfl⟩ := ry
  obtain ⟨its, r, ⟨⟨cls, dd, data, sl⟩, ho, hc, n, hd⟩, hs⟩ := I.tuple hT
  simp only at hc hd
  subst hc hd
  have hi : its.toArray.isEmpty = false := by
    cases r with
    | nil => exact absurd rfl hne
    | cons _ _ => rfl
  cases b with
  | true =>
    exact wpAny_binaryOp_repeat_ref (T := "tuple") (U := "int") (by decide) ⟨_, ho, rfl⟩ (fun s' => typeIs_int s' 1 t) noFill_tuple_mul F.fills_int_mul F.slot_int_rmul repeat_tuple F.slot_int_index.lookup
      (call_meets F.slot_int_rmul (typeIs_int s 1 t) F.entry_int_rmul (F.args_int_rmul_2 _ _) (int_rmul_tuple 1 t l its.toArray n dd sl)
        ⟨ho, rfl, ⟨_, ho, rfl⟩, call_meets F.slot_tuple_mul ⟨_, ho, rfl⟩ F.entry_tuple_mul (F.args_tuple_mul_2 _ _) (meets_mul1 l its.toArray n dd sl t) ⟨ho, .ref l, H, I, rfl, q1 rfl⟩⟩)
  | false =>
    refine wpAny_binaryOp_repeat_ref (T := "tuple") (U := "int") (by decide) ⟨_, ho, rfl⟩ (fun s' => typeIs_int s' 0 t) noFill_tuple_mul F.fills_int_mul F.slot_int_rmul repeat_tuple F.slot_int_index.lookup
      (call_meets F.slot_int_rmul (typeIs_int s 0 t) F.entry_int_rmul (F.args_int_rmul_2 _ _) (int_rmul_tuple 0 t l its.toArray n dd sl)
        ⟨ho, rfl, ⟨_, ho, rfl⟩, call_meets F.slot_tuple_mul ⟨_, ho, rfl⟩ F.entry_tuple_mul (F.args_tuple_mul_2 _ _) (meets_mul0 l its.toArray n dd sl t hi) ⟨ho, ?_⟩⟩)
    refine ⟨.ref s.heap.objs.size, _, I.laid (t' := s.toks) (o := .tup []) (fun b ob z => Heap.get?_push_of_some _ z) (Nat.le_refl _) ?_, rfl, q0 rfl _ (I.hok.fresh (Nat.le_refl _))⟩
    exact ⟨Nat.zero_le _, [], .nil, IsTup.new _ _⟩
/-! ### a call by names alone -/
section
variable {CX : CXT} {k : Nat} {f : Addr} {fd : FuncData} {ps ks : List Str} {sp : Sp} {E : XK} {x : Str} {p pos : Pos} {kws : List Keyword} {tk : TA} {g : List Value → List Value → List Value} {gV : List V → List V → List V}
/-- f(k = v, ..) -/
theorem pe_callN0 (F : FnOk X.prog X.w X.K X.mg X.base CX k f fd ps sp) (hr : Room k X.A) (hg : Gl X x) (hm : X.mg x = some (.ref f)) (hk : PySem.W.keepIn X.K (.ref f) = true) (hb : KBn X.K fd ps 0 ks g gV) (hx : Passes CX X E) (hkw : PK X kws tk)
    (hall : (backToKw pos (keywordEach kws X.env)).all (·.1.isSome) = true := by rfl) (hks : (backToKw pos (keywordEach kws X.env)).filterMap (·.1) = ks := by rfl) (hdb : (x == ("__debug__" : Str)) = false := by decide)
    (hpl : ((backTo pos (starEach [] X.env)).any (·.1) || (backToKw pos (keywordEach kws X.env)).any (·.1.isNone)) = false := by rfl) :
    PE X (.Call (.Name x p) [] kws pos) (tCallN 0 ks.length sp gV E tNil tk) := by
  refine ⟨fun pins s σ H Q I h => wpAny_Call_Name_kw (ld_glob I hg hm ?_ hdb)⟩
  refine PySem.W.callWith_KW0 (h₀ := X.base) I.ok.mod.kin hk hall ?_ hpl
  refine thn (hkw.run pos pins s σ H _ I h) fun ws s2 ⟨zs, H2, I2, rz, l1, l2, q2⟩ => ⟨I2.kIn, ?_⟩
  rw [hks]
  exact run_fnN (us := []) (vs := []) F hr hb hx I2 .nil rz rfl l2 q2
end
/-! ### enumerate(t, start=k) -/
/-- enumerate(a tuple, start=k) -/
def iEnS (K : PySem.W.Frag) (ta tk : TA) : TI := fun σ H R => ta σ H fun vs H1 => tk σ H1 fun zs H2 => ∃ a xs, ∃ k : Int, vs = [.ref a] ∧ zs = [.int k] ∧ (-(2 ^ 63) ≤ k ∧ k < 2 ^ 63) ∧ SqT K H2 a xs ∧ R (ItE K a k xs.length) H2
section
variable {M : Model} {A : Around} {E : Value → Shared → Prop} {s : Shared}
theorem callWith_tyK {pos : Pos} {T : String} {first : List Value} {args : List (Bool × Sem Value)} {kws : List (Option Str × Sem Value)} {Q : Value → Shared → Prop} (h1 : args.any (·.1) = false) (h2 : kws.any (·.1.isNone) = false)
    (h : wpAny M A (evalArgs (.type T) true args kws) (fun a s₁ => wpAny M A (call (.type T) (first ++ a.pos) a.kw) Q E s₁) E s) : wpAny M A (callWith pos (.type T) first args kws) Q E s := by
  unfold callWith
  refine wpAny_bind (wpAny_holding (wpAny_mono h (fun a s₁ h₁ => wpAny_bind (wpAny_standAt ?_)) fun _ _ z => z))
  simp only [h1, h2, Bool.or_false]
  refine wpAny_bind (wpAny_pure ?_)
  exact wpAny_bind (wpAny_mono h₁ (fun r s₂ z => wpAny_bind (wpAny_holding (wpAny_point (wpAny_pure z)))) fun _ _ z => z)
end
theorem pi_enS {e ek : Expr} {ta tk : TA} {p pos tpos kp : Pos} {elts : List Expr} {kk : Nat} (hg : Gl X "enumerate") (hm : X.mg "enumerate" = none) (ha : PA X [e] ta) (hkw : PK X [⟨some "start", ek, kp⟩] tk)
    (hall : (backToKw pos (keywordEach [⟨some "start", ek, kp⟩] X.env)).all (·.1.isSome) = true := by rfl) (hno : (backToKw pos (keywordEach [⟨some "start", ek, kp⟩] X.env)).any (·.1.isNone) = false := by rfl)
    (hks : (backToKw pos (keywordEach [⟨some "start", ek, kp⟩] X.env)).filterMap (·.1) = ([("start" : Str)] : List Str) := by rfl)
    (hs : starEach [e] X.env = (false, eval e X.env) :: starEach [] X.env := by rfl) (hpl : (backTo pos (starEach [e] X.env)).any (·.1) = false := by rfl) :
    PI X (.Tuple elts kk tpos) (.Call (.Name "enumerate" p) [e] [⟨some "start", ek, kp⟩] pos) (iEnS X.K ta tk) := by
  refine ⟨fun pins s σ H R I h => ?_⟩
  refine wpAny_Call_Name_kw (ld_blt I hg hm boot_enumerate (callWith_tyK hpl hno (evalArgs_kw2 hall (thn (ha.run pos pins s σ H _ I h) fun us s1 ⟨vs, H1, I1, r1, q1⟩ => ?_) hs)))
  refine thn (hkw.run pos pins s1 σ H1 _ I1 q1) fun ws s2 ⟨zs, H2, I2, rz, a, xs, k, e1, e2, hb, hq, q⟩ => ?_
  subst e1
  subst e2
  obtain ⟨u, rfl, ru⟩ := vals1 r1
  obtain ⟨z, rfl, rv⟩ := vals1 rz
  cases (show u = Value.ref a from ru)
  obtain ⟨t, rfl⟩ := rv
  rw [hks]
  obtain ⟨its, rr, p', hz⟩ := I2.tuple hq
  have hal : a < s2.heap.objs.size := by
    obtain ⟨o, ho, _⟩ := id p'
    exact Heap.lt_size ho
  refine enum_begins_start (begins_tuple a its.toArray) (show s2.heap.IsTuple a its.toArray from p') hb.1 hb.2 fun h' he hit hsz hk => wpAny_pyIter_enum he ?_
  have I3 : Inv X pins σ H2 { s2 with heap := h' } := I2.kept (t' := s2.toks) hk
  refine ⟨s2.heap.objs.size + 1, [s2.heap.objs.size + 1, s2.heap.objs.size], _, _, H2, rfl, I3, turn_en (Nat.succ_ne_self _) (Nat.ne_of_gt (Nat.lt_succ_of_lt hal)) (Nat.ne_of_lt hal), ⟨Nat.zero_le _, ⟨.none, ?_⟩, ⟨_, hit, rfl, rfl⟩⟩, fun b hm2 => ?_, q⟩
  · rw [show k + ((0 : Nat) : Int) = k by omega]
    exact he
  · have hle : s2.heap.objs.size ≤ b := by
      simp only [List.mem_cons, List.not_mem_nil, or_false] at hm2
      rcases hm2 with z | z
      · rw [z]; exact Nat.le_add_right _ _
      · rw [z]; exact Nat.le_refl _
    exact I2.fpOk hle (I2.hok.fresh hle)
end
end Br

/-! BrI: instances of the text's own classes: made, filled, read, told apart by their own ==. -/
namespace Br
open PySem PySem.Spec PyProof.Rows L2
/-! ### fields -/
def putFD (f : Str) (v : D) : List (Str × D) → List (Str × D)
  | [] => [(f, v)]
  | (g, x) :: r => if g = f then (g, v) :: r else (g, x) :: putFD f v r
section
variable {K : PySem.W.Frag} {as : List Addr} {H : Hp} {X : Xc} {S : Sa} {os : Os} {Q : Sv → Os → Prop} {te ta tv : TE} {E : Ea}
theorem DxF.put {f : Str} {u : V} {z : D} (h : Dx K as H u z) : ∀ {vs : List (Str × V)} {ds : List (Str × D)}, DxF K as H vs ds → DxF K as H (putF f u vs) (putFD f z ds)
  | _, _, .nil => .cons h .nil
  | _, _, .cons (k := k) h2 r => by
    unfold putF putFD
    by_cases e : k = f
    · rw [if_pos e, if_pos e]
      exact .cons h r
    · rw [if_neg e, if_neg e]
      exact .cons h2 (DxF.put h r)
theorem DxF.length : ∀ {vs : List (Str × V)} {ds : List (Str × D)}, DxF K as H vs ds → vs.length = ds.length
  | _, _, .nil => rfl
  | _, _, .cons _ r => by rw [List.length_cons, List.length_cons, DxF.length r]
/-- e.f -/
theorem ew_fld {f : Str} (h : EW K X te S fun x os => ∃ C fds d, x = .d (.ob C fds) ∧ Cls K C ∧ NoAttr K C f ∧ lookF fds f = some d ∧ Q (.d d) os) : EW K X (tFld K te f) S Q := fun as H σ Q' R x k =>
  h as H σ _ R x fun v H1 d os1 g1 R1 r1 ⟨C, fds, z, ed, c, n, el, q⟩ => by
    subst ed
    cases r1 with
    | ob n1 n2 h1 h2 hr =>
      obtain ⟨u, e1, e2⟩ := dxf_look hr el
      exact ⟨_, C, _, _, u, rfl, h1, c, n, e1, k u H1 (.d z) os1 g1 R1 e2 q⟩
theorem ew_fldO {f : Str} (h : EW K X te S fun x os => ∃ j C fds d, x = .o j ∧ os[j]? = some (.mi C fds) ∧ Cls K C ∧ NoAttr K C f ∧ lookF fds f = some d ∧ Q (.d d) os) : EW K X (tFld K te f) S Q := fun as H σ Q' R x k =>
  h as H σ _ R x fun v H1 d os1 g1 R1 r1 ⟨j, C, fds, z, ed, eo, c, n, el, q⟩ => by
    subst ed
    obtain ⟨a, ea, rfl⟩ := r1
    obtain ⟨dx, vs, h1, h2, h3, h4⟩ := R1.own j a _ ea eo
    obtain ⟨u, e1, e2⟩ := dxf_look h4 el
    exact ⟨a, C, dx, vs, u, rfl, h1, c, n, e1, k u H1 (.d z) os1 g1 R1 e2 q⟩
/-- self.f = e -/
theorem w_fld {f : Str} (h : EW K X tv S fun y os1 => EW K X ta ⟨S.s, os1⟩ fun x os2 => ∃ j C fds d, y = .d d ∧ x = .o j ∧ os2[j]? = some (.mi C fds) ∧ Cls K C ∧ NoAttr K C f ∧ fds.length < 1000 ∧ E.nx ⟨S.s, os2.set j (.mi C (putFD f d fds))⟩) :
    W K X (sFld K ta tv f) E S := fun as H σ D R x n r b c =>
  h as H σ _ R (x.h R) fun v H1 d os1 g1 R1 r1 q1 => q1 as H1 σ _ (R.go g1 R1) ((x.h R).go g1 R1) fun u H2 e os2 g2 R2 r2 ⟨j, C, fds, z, ed, ee, eo, hc, hn, hl, q⟩ => by
    subst ed
    subst ee
    obtain ⟨a, ea, rfl⟩ := r2
    obtain ⟨dx, vs, h1, h2, h3, h4⟩ := R2.own j a _ ea eo
    have hm : a ∈ as := List.mem_of_getElem? ea
    have rz : Dx K as H2 v z := (r1.go g2 : SvR K as H2 v (.d z))
    have g3 : Go as H2 (upd H2 a (.ins C dx (putF f v vs))) := Go.at hm
    have hd : dx ≠ a := fun z => h2 (z ▸ hm)
    have R3 : Ro K as (upd H2 a (.ins C dx (putF f v vs))) (os2.set j (.mi C (putFD f z fds))) := ro_set R2 ea ⟨dx, _, upd_same, h2, by rw [upd_ne hd]; exact h3, DxF.way (Way.of_go g3) (h4.put rz)⟩
    have g4 : Go as H (upd H2 a (.ins C dx (putF f v vs))) := (g1.trans g2).trans g3
    exact ⟨a, C, dx, vs, rfl, h1, hc, hn, by rw [h4.length]; exact hl, n as _ σ _ (Stp.of_go g4 R3) (R.go g4 R3) q⟩
/-- a new instance of the store -/
theorem ro_addI {C x dx : Addr} (R : Ro K as H os) (hx : H x = none) (hd : H dx = none) (hne : dx ≠ x) : Ro K (as ++ [x]) (upd (upd H dx (.own x)) x (.ins C dx [])) (os ++ [.mi C []]) := by
  have R1 : Ro K as (upd H dx (.own x)) os := R.new hd
  have hx1 : upd H dx (.own x) x = none := by rw [upd_ne (Ne.symm hne)]; exact hx
  have R0 := ro_add R1 hx1
  have hpos : (as ++ [x])[as.length]? = some x := by simp
  have hdn : dx ∉ as ++ [x] := fun z => by
    rcases List.mem_append.mp z with z | z
    · exact R.notin hd z
    · exact hne (List.mem_singleton.mp z)
  have z := ro_set (o := .ins C dx []) (ob := .mi C []) R0 hpos ⟨dx, [], upd_same, hdn, by rw [upd_ne hne, upd_ne hne]; exact upd_same, .nil⟩
  rw [upd_upd, R1.len, List.set_append_right _ _ (Nat.le_refl _)] at z
  simpa using z
/-- C(..): its __init__ by a promise over data -/
theorem ew_make {C : Addr} {f : FD} {dvs : List V} {dds : List Sv} {E : XK} {t : TA} (hd : ∀ as H, SvA K as H dvs dds)
    (h : AW K X t S fun ds os => f (.o os.length :: (ds ++ dds)) (os ++ [.mi C []]) (fun d os' => d = .non ∧ ∃ os2 fds, os' = os2 ++ [.mi C fds] ∧ Q (.d (.ob C fds)) os2) fun _ _ _ => False) : EW K X (tMake C (spD K f) dvs E t) S Q := fun as H σ Q' R x k =>
  h as H σ _ R x fun vs H1 ds os1 g1 R1 r1 q1 x0 dx hx hdx hne => by
    have R2 := ro_addI (C := C) R1 hx hdx hne
    have g2 : Go as H1 (upd (upd H1 dx (.own x0)) x0 (.ins C dx [])) := (Go.new hdx).trans (Go.new (by rw [upd_ne (Ne.symm hne)]; exact hx))
    have s2 : Stp as H1 (as ++ [x0]) (upd (upd H1 dx (.own x0)) x0 (.ins C dx [])) := ⟨⟨[x0], rfl, fun a ha => by rw [List.mem_singleton.mp ha]; exact hx⟩, g2, fun a ha => by
      by_cases e1 : a = x0
      · rw [e1]; exact hx
      · rw [upd_ne e1] at ha
        by_cases e2 : a = dx
        · rw [e2]; exact hdx
        · rw [upd_ne e2] at ha
          exact ha⟩
    have rs : ∀ {us : List V} {es : List Sv}, SvA K as H1 us es → SvA K (as ++ [x0]) (upd (upd H1 dx (.own x0)) x0 (.ins C dx [])) us es := fun {us es} r => by
      induction r with
      | nil => exact .nil
      | cons h _ ih => exact .cons (h.stp s2) ih
    have happ : ∀ {us ws : List V} {es fs : List Sv} {as' : List Addr} {H' : Hp}, SvA K as' H' us es → SvA K as' H' ws fs → SvA K as' H' (us ++ ws) (es ++ fs) := fun {us ws es fs as' H'} a b => by
      induction a with
      | nil => exact b
      | cons h _ ih => exact .cons h ih
    refine ⟨as ++ [x0], os1 ++ [.mi C []], .o os1.length :: (ds ++ dds), _, _, R2, .cons ⟨x0, by rw [← R1.len]; simp, rfl⟩ (happ (rs r1) (hd _ _)), q1, fun v H' d os' g3 R3 r3 ⟨ed, os2, fds, eo, q⟩ => ?_, fun _ _ _ _ _ _ _ _ _ _ _ z => z.elim⟩
    subst ed
    subst eo
    cases r3
    obtain ⟨Rf, ⟨dx', vs', h1, h2, h3, h4⟩, nin⟩ := ro_drop R3
    have g5 : Go as H1 H' := fun a o e n => g3 a o (g2 a o e n) fun z => by
      rcases List.mem_append.mp z with z | z
      · exact n z
      · rw [List.mem_singleton.mp z, hx] at e
        cases e
    exact ⟨rfl, k (.ref x0) H' (.d (.ob C fds)) os2 (g1.trans g5) Rf (Dx.ob nin h2 h1 h3 h4) q⟩
end
/-! ### != by the own == -/
def strKeysB (es : Array DictEntry) : Bool := es.toList.all fun e => match e.key with
  | .str _ _ => true
  | _ => false
theorem strKeys_of {es : Array DictEntry} (h : strKeysB es = true) : StrKeys es := fun e he => by
  have z := List.all_eq_true.mp h e (Array.mem_toList_iff.mpr he)
  obtain ⟨hs, k, v⟩ := e
  cases k <;> first | exact ⟨_, _, rfl⟩ | cases z
/-- the class at C, without a base, with an own == and no own != -/
structure EqC (K : PySem.W.Frag) (C f : Addr) : Prop where
  cls : ∃ nm q N bs hdct sn sub ab col dd k0 k1 k2 k3 k5 newId, K.lookup C = some (excClassObj nm q C N bs [.type "object"] hdct sn sub ab col dd k0 k1 k2 k3 k5 newId) ∧
    (∃ oc od es ep sl, K.lookup N = some ⟨oc, od, .dict es ep, sl⟩ ∧ strKeysB es = true) ∧ PySem.W.nsIn K N "__eq__" = some (some (.ref f)) ∧ PySem.W.nsIn K N "__ne__" = some none
def rNeIns (K : PySem.W.Frag) (C : Addr) (sp : Sp) : R2 := fun x y H Q => ∃ a b dx dy fs gs, x = .ref a ∧ y = .ref b ∧ H a = some (.ins C dx fs) ∧ H b = some (.ins C dy gs) ∧
  sp [.ref a, .ref b] H (fun v H' => ∃ r, v = .bl r ∧ Q (.bl (!r)) H') fun _ _ _ => False
theorem ns_find {K : PySem.W.Frag} {N : Addr} {n : Str} {r : Option Value} {oc : Value} {od : Option Addr} {es : Array DictEntry} {ep : Nat} {sl : Array (Option Value)} (hl : K.lookup N = some ⟨oc, od, .dict es ep, sl⟩) (h : PySem.W.nsIn K N n = some r) : nsFind es n = r := by
  unfold PySem.W.nsIn at h
  rw [hl] at h
  dsimp only at h
  unfold nsFind findBy
  rw [← Array.find?_toList]
  split at h
  · rename_i en he
    cases h
    rw [he]
    rfl
  · rename_i he
    split at h
    · cases h
    · cases h
      rw [he]
      rfl
section
variable {X : Cx} {C f : Addr} {fd : FuncData} {k : Nat} {sp : Sp}
theorem op_neIns (T : EqC X.K C f) (tf : PySem.W.typeIn X.K (.ref f) = some (.type "function")) (G : FnOk X.prog X.w X.K X.mg X.base CX0 k f fd ["self", "other"] sp) (hb : Binds X.K fd ["self", "other"] []) (hr : Room (k + 1) X.A) : OpR X (compareOp .NotEq) (rNeIns X.K C sp) := by
  intro pins s σ H x y v u Q I rx ry h
  obtain ⟨a, b, dx, dy, fs, gs, rfl, rfl, ha, hb', hs⟩ := h
  cases (show v = Value.ref a from rx)
  cases (show u = Value.ref b from ry)
  obtain ⟨mA, J, _⟩ := ins_get I.hok ha
  obtain ⟨mB, J', _⟩ := ins_get I.hok hb'
  obtain ⟨oa, Ja, _⟩ := J.look
  obtain ⟨ob, Jb, _⟩ := J'.look
  obtain ⟨nm, q, N, bs, hdct, sn, sub, ab, col, dd, k0, k1, k2, k3, k5, newId, hC, ⟨oc, od, es, ep, sl, hN, hk⟩, hq, hne⟩ := T.cls
  obtain ⟨of, hof, hft⟩ := Option.map_eq_some_iff.mp (show (X.K.lookup f).map (·.cls) = some (.type "function") from tf)
  have hn : s.heap.Ns N (nsFind es) := ⟨_, es, ep, I.kIn _ _ hN, rfl, strKeys_of hk, fun _ => rfl⟩
  obtain ⟨hp, g, d, tk, os⟩ := s
  obtain ⟨ea, ca, _, _⟩ := Ja
  obtain ⟨eb, cb, _, _⟩ := Jb
  have XX : hp.OwnEqNoNe a C f "object" [.type "object"] := by
    refine ⟨_, of, nm, q, N, bs, hdct, sn, sub, ab, col, dd, k0, k1, k2, k3, k5, newId, nsFind es, _, ea, ca, I.kIn _ _ hC, hn, ns_find hN hq, I.kIn _ _ hof, hft, F.cmp_object.mro, F.cmp_object.eq.lookup, ns_find hN hne⟩
  have hu : X.A.units + 1 < cLine := by
    have := hr.un
    omega
  have e0 : Env0 X.prog X.w X.K X.mg X.base X.A.in1 X.stack ⟨hp, g, d, tk, os⟩ H := by
    have e := I.env0
    exact ⟨e.frames, e.mod, e.bs, e.bsz, e.funs, e.frf, e.hok, e.bare⟩
  have r2 : Vals [V.ref a, V.ref b] [Value.ref a, Value.ref b] := .cons rfl (.cons rfl .nil)
  refine compareOp_ne_ownEq F.cmp_object XX eb cb hu (wpAny_call (codeAny_mono (G.run X.A.in1 X.stack ⟨hp, g, d, tk, os⟩ H ⟨[.ref a, .ref b], []⟩ [.ref a, .ref b] [.ref a, .ref b] _ _ hr.in1 e0 (by
    have z := hb ⟨hp, g, d, tk, os⟩ [.ref a, .ref b] I.kIn rfl
    simpa using z) r2 hs) fun r s' hq2 => ?_))
  cases r with
  | error e => exact hq2.elim
  | ok fl =>
    cases fl with
    | ret w =>
      obtain ⟨z, H', I', rz, c, ez, q2⟩ := I.after hq2
      subst ez
      cases rz
      exact ⟨c, rfl, .bl (!c), H', I', rfl, q2⟩
    | next => exact False.elim hq2
    | brk => exact False.elim hq2
    | cont => exact False.elim hq2
end
end Br

/-! BrJ: wishes over data for BrL to BrI. -/
namespace Br
open PySem PySem.Spec PyProof.Rows L2
section
variable {K : PySem.W.Frag} {as : List Addr} {H : Hp} {X : Xc} {S : Sa} {os : Os} {Q : Sv → Os → Prop} {te ta tb to : TE} {tl tk : TA} {E : Ea}
theorem ew_revT (h : EW K X te S fun x os => ∃ xs, x = .d (.tup xs) ∧ Q (.d (.tup xs.reverse)) os) : EW K X (tRevT K te) S Q := fun as H σ Q' R x k =>
  h as H σ _ R x fun v H1 d os1 g1 R1 r1 ⟨xs, e, q⟩ => by
    subst e
    cases r1 with
    | tup hl hr => exact ⟨_, _, rfl, hl.sq, fun p hp => k (.ref p) _ (.d (.tup xs.reverse)) os1 (g1.trans (Go.new hp)) (R1.new hp) (dx_newT R1 hp hr.rev) q⟩
/-- l.extend(t) -/
theorem ew_ext (h : EW K X to S fun x os1 => ∃ k xs1, x = .o k ∧ os1[k]? = some (.ml xs1) ∧ EW K X te ⟨S.s, os1⟩ fun y os2 => ∃ ys xs, y = .d (.tup ys) ∧ os2[k]? = some (.ml xs) ∧ xs.length + ys.length ≤ sizeLine ∧ Q (.d .non) (os2.set k (.ml (xs ++ ys)))) :
    EW K X (tBM K "list" (rExt K) to (tCons te tNil)) S Q := fun as H σ Q' R x k =>
  h as H σ _ R x fun v H1 d os1 g1 R1 r1 ⟨j, xs1, ed, eo1, h2⟩ => by
    subst ed
    obtain ⟨a, ea, rfl⟩ := r1
    refine ⟨?_, h2 as H1 σ _ (R.go g1 R1) (x.go g1 R1) fun u H2 e os2 g2 R2 r2 ⟨ys, xs, ey, eo, hl, q⟩ => ?_⟩
    · obtain ⟨ws, q1, _⟩ := R1.own j a _ ea eo1
      exact .inl ⟨rfl, ws, .inl (.inl q1)⟩
    · subst ey
      obtain ⟨vs, h1, h3⟩ := R2.own j a _ ea eo
      have hm : a ∈ as := List.mem_of_getElem? ea
      cases (show Dx K as H2 u (.tup ys) from r2) with
      | @tup b ws _ hq hr =>
        have g3 : Go as H2 (upd H2 a (.lst (vs ++ ws))) := Go.at hm
        have R3 : Ro K as (upd H2 a (.lst (vs ++ ws))) (os2.set j (.ml (xs ++ ys))) := ro_set R2 ea ⟨_, upd_same, DxA.way (Way.of_go g3) (DxA.app h3 hr)⟩
        exact ⟨a, b, vs, ws, rfl, rfl, h1, hq.sq, by rw [h3.length, hr.length]; exact hl, k .non _ (.d .non) _ ((g1.trans g2).trans g3) R3 Dx.non q⟩
/-- l.pop() -/
theorem ew_pop0 (h : EW K X to S fun x os1 => ∃ k xs z, x = .o k ∧ os1[k]? = some (.ml (xs ++ [z])) ∧ Q (.d z) (os1.set k (.ml xs))) : EW K X (tBM0 K "list" rPop to) S Q := fun as H σ Q' R x k =>
  h as H σ _ R x fun v H1 d os1 g1 R1 r1 ⟨j, xs, z, ed, eo, q⟩ => by
    subst ed
    obtain ⟨a, ea, rfl⟩ := r1
    obtain ⟨vs, h1, h3⟩ := R1.own j a _ ea eo
    have hm : a ∈ as := List.mem_of_getElem? ea
    have hlen := h3.length
    rw [List.length_append] at hlen
    have hlast : (xs ++ [z])[xs.length]? = some z := by simp
    obtain ⟨u, e1, e2⟩ := h3.get hlast
    have hl1 : vs.length = xs.length + 1 := by simpa using hlen
    have hdrop : vs.dropLast = vs.take xs.length := by rw [List.dropLast_eq_take, hl1]; rfl
    have hds : DxA K as H1 vs.dropLast xs := by
      have t := h3.take xs.length
      rw [List.take_left' rfl] at t
      rw [hdrop]
      exact t
    have g3 : Go as H1 (upd H1 a (.lst vs.dropLast)) := Go.at hm
    have R3 : Ro K as (upd H1 a (.lst vs.dropLast)) (os1.set j (.ml xs)) := ro_set R1 ea ⟨_, upd_same, DxA.way (Way.of_go g3) hds⟩
    refine ⟨.inl ⟨rfl, vs, .inl (.inl h1)⟩, a, vs, u, rfl, rfl, h1, ?_, k u _ (.d z) _ (g1.trans g3) R3 (e2.way (Way.of_go g3)) q⟩
    rw [hl1]
    exact e1
/-- (x, ..) * 0, * 1 -/
theorem bw_mul01 {xs : List D} {b : Bool} (hne : xs ≠ []) (q : Q (.d (.tup (if b = true then xs else []))) os) : BW K (rMul01 K) (.d (.tup xs)) (.d (.int (if b = true then 1 else 0))) os Q := fun as H v u Q' R rx ry k => by
  cases ry
  cases (show Dx K as H v (.tup xs) from rx) with
  | @tup a ws _ hl hr =>
    refine ⟨a, ws, b, rfl, rfl, hl.sq, fun z => hne ?_, fun hb => ?_, fun hb p hp => ?_⟩
    · subst z
      cases hr
      rfl
    · subst hb
      exact k (.ref a) H (.d (.tup xs)) os (Go.refl _ _) R (Dx.tup hl hr) q
    · subst hb
      exact k (.ref p) _ (.d (.tup [])) os (Go.new hp) (R.new hp) (dx_newT R hp .nil) q
/-- != by the own == -/
theorem bw_neIns {C : Addr} {f : FD} {fs gs : List (Str × D)} (h : f [.d (.ob C fs), .d (.ob C gs)] os (fun d os' => ∃ r, d = .bl r ∧ Q (.d (.bl (!r))) os') fun _ _ _ => False) : BW K (rNeIns K C (spD K f)) (.d (.ob C fs)) (.d (.ob C gs)) os Q := fun as H v u Q' R rx ry k => by
  have rx' : Dx K as H v (.ob C fs) := rx
  have ry' : Dx K as H u (.ob C gs) := ry
  cases rx' with
  | ob n1 n2 h1 h2 hr =>
    cases ry' with
    | ob m1 m2 h3 h4 hs =>
      refine ⟨_, _, _, _, _, _, rfl, rfl, h1, h3, as, os, _, _, _, R, .cons (show SvR K as H _ (.d _) from Dx.ob n1 n2 h1 h2 hr) (.cons (show SvR K as H _ (.d _) from Dx.ob m1 m2 h3 h4 hs) .nil), h, fun w H' d os' g R' r' ⟨c, ec, q⟩ => ?_, fun _ _ _ _ _ _ _ _ _ _ _ z => z.elim⟩
      subst ec
      cases r'
      exact ⟨c, rfl, k _ H' (.d (.bl (!c))) os' g R' (Dx.bl _) q⟩
/-- numbered from k on -/
def enumD (k : Int) (ds : List D) : List D := (List.range ds.length).map fun i => .tup [.int (k + (i : Nat)), (ds[i]?).getD .non]
theorem enumD_len {k : Int} {ds : List D} : (enumD k ds).length = ds.length := by unfold enumD; simp
theorem enumD_get {k : Int} {ds : List D} {i : Nat} {d : D} (h : (enumD k ds)[i]? = some d) : ∃ x, ds[i]? = some x ∧ d = .tup [.int (k + (i : Nat)), x] := by
  unfold enumD at h
  rw [List.getElem?_map] at h
  obtain ⟨j, h1, h2⟩ := Option.map_eq_some_iff.mp h
  obtain ⟨h3, h4⟩ := List.getElem?_eq_some_iff.mp h1
  rw [List.getElem_range] at h4
  rw [List.length_range] at h3
  subst h4
  exact ⟨ds[i], List.getElem?_eq_getElem h3, by rw [← h2, List.getElem?_eq_getElem h3]; rfl⟩
theorem itE_d {a : Addr} {k : Int} {ws : List V} {ds : List D} (hl : QT K as H a ws) (hr : DxA K as H ws ds) : ItD K (ItE K a k ws.length) as H (enumD k ds) := fun bs H2 os s R2 i => by
  have hl2 := s.way.t _ _ hl
  have hr2 := hr.way s.way
  refine ⟨fun d hd => ?_, fun hn => ⟨by rw [hr.length]; rw [enumD_len] at hn; exact hn, ws, hl2.sq, rfl⟩⟩
  obtain ⟨x, hx, rfl⟩ := enumD_get hd
  obtain ⟨u, e1, e2⟩ := hr2.get hx
  refine ⟨⟨ws, u, hl2.sq, rfl, e1⟩, ?_⟩
  rintro y H3 ⟨T, x2, rfl, hT, rfl, hy⟩
  have ey := hy ws hl2.sq
  rw [e1] at ey
  cases ey
  exact ⟨Go.new hT, R2.new hT, dx_newT R2 hT (.cons (.int _) (.cons e2 .nil))⟩
theorem ite_d {a : Addr} {ws : List V} {ds : List D} (hl : QL K as H a ws) (hr : DxA K as H ws ds) : ItD K (Ite K a) as H (enumD 0 ds) := fun bs H2 os s R2 i => by
  have hl2 := s.way.l _ _ hl
  have hr2 := hr.way s.way
  refine ⟨fun d hd => ?_, fun hn => ⟨ws, hl2.sq, by rw [hr.length]; rw [enumD_len] at hn; exact hn⟩⟩
  obtain ⟨x, hx, rfl⟩ := enumD_get hd
  obtain ⟨u, e1, e2⟩ := hr2.get hx
  refine ⟨⟨ws, u, hl2.sq, e1⟩, ?_⟩
  rintro y H3 ⟨T, x2, rfl, hT, rfl, hy⟩
  have ey := hy ws hl2.sq
  rw [e1] at ey
  cases ey
  refine ⟨Go.new hT, R2.new hT, ?_⟩
  rw [Int.zero_add]
  exact dx_newT R2 hT (.cons (.int _) (.cons e2 .nil))
theorem iw_en {Q : List D → Os → Prop} (h : AW K X tl S fun xs os => ∃ ds, (xs = [.d (.tup ds)] ∨ xs = [.d (.lst ds)]) ∧ Q (enumD 0 ds) os) : IW K X (iEn K tl) S Q := fun as H σ R' R x k =>
  h as H σ _ R x fun vs H1 xs os1 g1 R1 r1 ⟨ds, e, q⟩ => by
    rcases e with rfl | rfl
    · cases r1 with
      | cons r1 rn =>
        cases rn
        cases (show Dx K as H1 _ (.tup ds) from r1) with
        | @tup a ws _ hl hr => exact ⟨a, ws, rfl, .inr ⟨hl.sq, k _ H1 _ os1 g1 R1 (itE_d hl hr) q⟩⟩
    · cases r1 with
      | cons r1 rn =>
        cases rn
        cases (show Dx K as H1 _ (.lst ds) from r1) with
        | @lst a ws _ hl hr => exact ⟨a, ws, rfl, .inl ⟨hl.sq, k _ H1 _ os1 g1 R1 (ite_d hl hr) q⟩⟩
theorem iw_enS {Q : List D → Os → Prop} (h : AW K X tl S fun xs os => ∃ ds, xs = [.d (.tup ds)] ∧ AW K X tk ⟨S.s, os⟩ fun zs os2 => ∃ k : Int, zs = [.d (.int k)] ∧ (-(2 ^ 63) ≤ k ∧ k < 2 ^ 63) ∧ Q (enumD k ds) os2) : IW K X (iEnS K tl tk) S Q := fun as H σ R' R x k =>
  h as H σ _ R x fun vs H1 xs os1 g1 R1 r1 ⟨ds, e, h2⟩ => by
    subst e
    cases r1 with
    | cons r1 rn =>
      cases rn
      refine h2 as H1 σ _ (R.go g1 R1) (x.go g1 R1) fun ws H2 zs os2 g2 R2 r2 ⟨n, ez, hb, q⟩ => ?_
      subst ez
      cases r2 with
      | cons r2 rm =>
        cases rm
        cases r2
        have r1' : Dx K as H2 _ (.tup ds) := (r1.go g2 : SvR K as H2 _ (.d (.tup ds)))
        cases r1' with
        | @tup a us _ hl hr => exact ⟨a, us, n, rfl, rfl, hb, hl.sq, k _ H2 _ os2 (g1.trans g2) R2 (itE_d hl hr) q⟩
/-- f(e, .., k = v, ..) -/
theorem ew_callN {n m : Nat} {f : FD} {gV : List V → List V → List V} {gS : List Sv → List Sv → List Sv} (hg : ∀ as H vs zs ds es, SvA K as H vs ds → SvA K as H zs es → SvA K as H (gV vs zs) (gS ds es))
    (h : AW K X tl S fun ds os => ds.length = n ∧ AW K X tk ⟨S.s, os⟩ fun es os2 => es.length = m ∧ f (gS ds es) os2 (fun d os' => Q (.d d) os') fun _ _ _ => False) : EW K X (tCallN n m (spD K f) gV E0 tl tk) S Q := fun as H σ Q' R x k =>
  h as H σ _ R x fun vs H1 ds os1 g1 R1 r1 ⟨l1, q1⟩ => q1 as H1 σ _ (R.go g1 R1) (x.go g1 R1) fun zs H2 es os2 g2 R2 r2 ⟨l2, q2⟩ => by
    refine ⟨by rw [r1.length]; exact l1, by rw [r2.length]; exact l2, as, os2, _, _, _, R2, hg _ _ _ _ _ _ (r1.go g2) r2, q2, fun v H3 d os3 g3 R3 r3 q3 => k v H3 (.d d) os3 ((g1.trans g2).trans g3) R3 r3 q3, fun _ _ _ _ _ _ _ _ _ _ _ z => z.elim⟩
/-- x, y = [], e -/
theorem w_parL {i j : Nat} (h : EW K X te ⟨S.s, S.os ++ [.ml []]⟩ fun y os2 => E.nx ⟨(S.s.set i (some (.o S.os.length))).set j (some y), os2⟩) : W K X (tPar i j (tCons (tLst tNil) (tCons te tNil))) E S := fun as H σ D R x n r b c => by
  refine ⟨Nat.zero_le _, fun p hp => ?_⟩
  have s2 : Stp as H (as ++ [p]) (upd H p (.lst [])) := stp_add hp
  have R2 : Re K (as ++ [p]) (upd H p (.lst [])) σ ⟨S.s, S.os ++ [.ml []]⟩ := ⟨ro_add R.o hp, R.slen, fun k d hd => by
    obtain ⟨u, e, z⟩ := R.slot k d hd
    exact ⟨u, e, z.stp s2⟩⟩
  refine h (as ++ [p]) _ σ _ R2 ((x.stp s2).h R2) fun u H2 d os2 g2 R3 r2 q => ⟨.ref p, u, rfl, ?_⟩
  have hp2 : SvR K (as ++ [p]) H2 (.ref p) (.o S.os.length) := ⟨p, by rw [← R.o.len]; simp, rfl⟩
  exact n _ _ _ _ (s2.trans (Stp.of_go g2 R3)) (((R2.go g2 R3).set i hp2).set j r2) q
/-- x = [e, ..], a list that changes -/
theorem w_asgLst {i : Nat} (h : AW K X tl S fun xs os => ∃ ds, unD xs = some ds ∧ ds.length ≤ sizeLine ∧ E.nx ⟨S.s.set i (some (.o os.length)), os ++ [.ml ds]⟩) : W K X (tAsg (tLst tl) (gName i)) E S := fun as H σ D R x n r b c =>
  h as H σ _ R (x.h R) fun vs H1 xs os1 g1 R1 r1 ⟨ds, e, hl, q⟩ => by
    have hd := (unD_all e).dx r1
    refine ⟨by rw [hd.length]; exact hl, fun p hp => ?_⟩
    have R2 := ro_addL R1 hp hd
    have s2 : Stp as H1 (as ++ [p]) (upd H1 p (.lst vs)) := stp_add hp
    have sN := (Stp.of_go g1 R1).trans s2
    have RR : Re K (as ++ [p]) (upd H1 p (.lst vs)) σ ⟨S.s, os1 ++ [.ml ds]⟩ := ⟨R2, R.slen, fun j d hd => by
      obtain ⟨u, e, z⟩ := R.slot j d hd
      exact ⟨u, e, z.stp sN⟩⟩
    exact n _ _ _ _ sN (RR.set i (v := .ref p) (d := .o os1.length) ⟨p, by rw [← R1.len]; simp, rfl⟩) q
/-- for .. in a list of the store that stays as it is -/
theorem w_forO {g : TG} {tb : TS} (h : EW K X te S fun x os => ∃ j ds, x = .o j ∧ os[j]? = some (.ml ds) ∧ ∃ Pv : Nat → Sa → Prop, Pv 0 ⟨S.s, os⟩ ∧ (∀ i S', Pv i S' → S'.os[j]? = some (.ml ds)) ∧
      (∀ i d S', ds[i]? = some d → Pv i S' → GW K g (.d d) S' (W K X tb { nx := Pv (i + 1), ct := Pv (i + 1), bk := E.nx, rt := E.rt })) ∧ ∀ S', Pv ds.length S' → E.nx S') : W K X (tFor (iList K te) g tb) E S := fun as H σ D R x n r b c =>
  h as H σ _ R (x.h R) fun v H1 d1 os1 g1 R1 r1 ⟨j, ds, ed, eo, Pv, p0, stay, turn, fin⟩ => by
    subst ed
    obtain ⟨a, ea, rfl⟩ := r1
    have s1 : Stp as H as H1 := Stp.of_go g1 R1
    have seq : ∀ {bs H2 os2}, Stp as H1 bs H2 → Ro K bs H2 os2 → os2[j]? = some (.ml ds) → ∃ vs, H2 a = some (.lst vs) ∧ DxA K bs H2 vs ds := fun {bs H2 os2} s R2 e => by
      obtain ⟨nw, eb, _⟩ := s.pre
      have ha : bs[j]? = some a := by rw [eb, List.getElem?_append_left (List.getElem?_eq_some_iff.mp ea).1]; exact ea
      obtain ⟨vs, h1, h2⟩ := R2.own j a _ ha e
      exact ⟨vs, h1, h2⟩
    obtain ⟨ws, hw, _⟩ := seq Stp.refl R1 eo
    refine ⟨a, rfl, ⟨ws, .inl (.inl hw)⟩, fun i m σ H2 => m = ds.length - i ∧ i ≤ ds.length ∧ ∃ bs S', Stp as H1 bs H2 ∧ Re K bs H2 σ S' ∧ Pv i S', ⟨_, rfl, Nat.zero_le _, as, _, Stp.refl, R.go g1 R1, p0⟩, ?_⟩
    rintro i m σ2 H2 ⟨rfl, hi, bs, S2, s2, R2, p⟩
    obtain ⟨vs, h1, h2⟩ := seq s2 R2.o (stay i S2 p)
    by_cases hlt : i < ds.length
    · have hd : ds[i]? = some ds[i] := List.getElem?_eq_getElem hlt
      obtain ⟨u, e1, e2⟩ := h2.get hd
      refine .inr ⟨⟨vs, u, .inl (.inl h1), e1⟩, fun σ' H' => ∃ cs S', Stp as H1 cs H' ∧ Re K cs H' σ' S' ∧ Pv (i + 1) S', fun σ' H' z => ⟨ds.length - (i + 1), by omega, rfl, hlt, z⟩, fun y H3 hyl => ?_⟩
      obtain ⟨rfl, hy⟩ := hyl
      have z := hy vs (.inl (.inl h1))
      rw [e1] at z
      cases z
      refine turn i _ S2 hd p bs H3 σ2 _ _ R2 e2 fun σ4 S4 R4 w => ?_
      refine w bs H3 σ4 _ R4 ((x.stp s1).stp s2) (fun cs H5 σ5 S5 s5 R5 q5 => ⟨cs, S5, s2.trans s5, R5, q5⟩) (fun cs H5 v d os5 s5 R5 r5 q5 => r cs H5 v d os5 ((s1.trans s2).trans s5) R5 r5 q5)
        (fun cs H5 σ5 S5 s5 R5 q5 => n cs H5 σ5 S5 ((s1.trans s2).trans s5) R5 q5) (fun cs H5 σ5 S5 s5 R5 q5 => ⟨cs, S5, s2.trans s5, R5, q5⟩)
    · have e : i = ds.length := by omega
      subst e
      exact .inl ⟨⟨vs, .inl (.inl h1), by rw [h2.length]; exact Nat.le_refl _⟩, n bs H2 σ2 S2 (s1.trans s2) R2 (fin S2 p)⟩
end
end Br

/-! BrK: x += e; isinstance(x, (a, b)); what never leaves. -/
namespace Br
open PySem PySem.Spec PyProof.Rows L2
section
variable {K : PySem.W.Frag} {X : Xc} {S : Sa} {os : Os} {Q : Sv → Os → Prop} {te : TE} {E : Ea}
/-- x += e, numbers -/
theorem w_augI {i : Nat} {g : Int → Int → Int} {x : Int} (hv : S.s[i]? = some (some (.d (.int x)))) (h : EW K X te S fun y os => ∃ j, y = .d (.int j) ∧ E.nx ⟨S.s.set i (some (.d (.int (g x j)))), os⟩) : W K X (tAug i te (ipI g)) E S := fun as H σ D R xx n r b c => by
  obtain ⟨v, e, rv⟩ := R.slot i _ hv
  refine ⟨v, e, h as H σ _ R (xx.h R) fun u H1 d os1 g1 R1 r1 ⟨j, ed, q⟩ => ?_⟩
  subst ed
  cases rv
  cases r1
  exact ⟨x, j, rfl, rfl, n as H1 _ _ (Stp.of_go g1 R1) ((R.go g1 R1).set i (v := .int (g x j)) (d := .d (.int (g x j))) (Dx.int _)) q⟩
/-- isinstance(x, (A, B)), built-in types -/
theorem ew_isi2 {n1 n2 : String} (h : EW K X te S fun x os => ∃ d a r, x = .d d ∧ d.ty = some a ∧ PySem.W.kitAny K (.type a) [.type n1, .type n2] = some r ∧ Q (.d (.bl r)) os) : EW K X (tCB (rIsiT K) (tCons te (tCons (tTup (tCons (tC (.ty n1)) (tCons (tC (.ty n2)) tNil))) tNil))) S Q := fun as H σ Q' R x k =>
  h as H σ _ R x fun v H1 d os1 g1 R1 r1 ⟨e, a, r, ed, ea, er, q⟩ => by
    subst ed
    refine ⟨by show 2 ≤ sizeLine; decide, fun p hp => ?_⟩
    have g2 : Go as H1 (upd H1 p (.tup [.ty n1, .ty n2])) := Go.new hp
    have R2 := R1.new (o := .tup [.ty n1, .ty n2]) hp
    have r2 : Dx K as (upd H1 p (.tup [.ty n1, .ty n2])) v e := (r1.go g2 : SvR K as _ v (.d e))
    exact ⟨v, p, [.ty n1, .ty n2], .type a, [.type n1, .type n2], r, rfl, upd_same, .cons (.ty n1) (.cons (.ty n2) .nil), dx_ty r2 ea, er, k (.bl r) _ (.d (.bl r)) os1 (g1.trans g2) R2 (Dx.bl r) q⟩
end
theorem kit2 {K : PySem.W.Frag} {a n1 n2 : String} {b1 b2 : Bool} (h1 : kitB a n1 = some b1) (h2 : kitB a n2 = some b2) : PySem.W.kitAny K (.type a) [.type n1, .type n2] = some (b1 || b2) := by
  refine kitAny_cons (b := b1) (kit_ty h1) (fun hb => ?_) (fun hb => by rw [hb]; rfl)
  subst hb
  refine kitAny_cons (b := b2) (kit_ty h2) (fun hb => ?_) (fun hb => by rw [hb]; rfl)
  subst hb
  rfl
/-- nothing leaves -/
theorem passX {X : Cx} {P : Program} {w : World} : Passes (L2.CX P w) X fun _ _ _ => False := fun _ _ _ _ e s' _ c => by
  obtain ⟨a, B, H', cls, d, _, _, _, _, _, _, _, hE⟩ := c
  exact hE.elim
/-- a class of the text, its __init__ -/
structure Ycl (K : PySem.W.Frag) (mg : Str → Option Value) (x : Str) (C f : Addr) (fd : FuncData) (ps : List Str) : Prop where
  M : Mk K C f
  c : Cls K C
  m : mg x = some (.ref C)
  b : Binds K fd ps []
/-- isinstance of an instance of the text's own class -/
structure IsC (K : PySem.W.Frag) (C : Addr) : Prop where
  c : Cls K C
  ha : PySem.W.findIn K (.ref C) "__class__" = some (some (.builtin "object.__class__"))
  hn : PySem.W.specialIn K (.builtin "object.__class__") "__get__" = some (some (.builtin "getset_descriptor.__get__"))
  tk : PySem.W.takesIn K (.builtin "object.__class__") = some true
  hm : PySem.W.mroIn K C (.type "object") = some true
section
variable {K : PySem.W.Frag} {X : Xc} {S : Sa} {Q : Sv → Os → Prop} {te : TE}
theorem ew_isiO {C : Addr} (T : IsC K C) (h : EW K X te S fun x os => ∃ fds, x = .d (.ob C fds) ∧ Q (.d (.bl true)) os) : EW K X (tCB (rIsi K) (tCons te (tCons (tC (.ref C)) tNil))) S Q := fun as H σ Q' R x k =>
  h as H σ _ R x fun v H1 d os1 g1 R1 r1 ⟨fds, ed, q⟩ => by
    subst ed
    have r1' : Dx K as H1 v (.ob C fds) := r1
    cases r1' with
    | ob n1 n2 h1 h2 hr => exact ⟨_, .ref C, .ref C, .ref C, true, rfl, .own C, .base (.ins h1 T.c T.ha T.hn T.tk T.hm), by unfold PySem.W.kitOne; rw [if_pos (by simp)], k (.bl true) H1 (.d (.bl true)) os1 g1 R1 (Dx.bl true) q⟩
end
section
variable {K : PySem.W.Frag} {X : Xc} {S : Sa} {os : Os} {Q : Sv → Os → Prop}
theorem ew_negI {i : Int} (q : Q (.d (.int (-i))) S.os) : EW K X (tUn (rU fun i => V.int (-i)) (tC (.int i))) S Q := fun as H σ Q' R x k =>
  ⟨i, rfl, k (.int (-i)) H (.d (.int (-i))) S.os (Go.refl _ _) R.o (Dx.int _) q⟩
theorem bw_ix0 {x : D} {r : List D} (q : Q (.d x) os) : BW K (rIxT K) (.d (.tup (x :: r))) (.d (.int 0)) os Q := bw_ixT (atI_nat (j := 0) rfl) q
theorem bw_ix1 {x y : D} {r : List D} (q : Q (.d y) os) : BW K (rIxT K) (.d (.tup (x :: y :: r))) (.d (.int 1)) os Q := bw_ixT (atI_nat (j := 1) rfl) q
theorem bw_ix2 {x y z : D} {r : List D} (q : Q (.d z) os) : BW K (rIxT K) (.d (.tup (x :: y :: z :: r))) (.d (.int 2)) os Q := bw_ixT (atI_nat (j := 2) rfl) q
end
end Br

/-! BrD: data by kind, bounds, what may be shown. -/
namespace Br
open PySem PySem.Spec PyProof.Rows L2
def D.isI : D → Bool
  | .int _ => true
  | _ => false
def D.isB (lo hi : Int) : D → Bool
  | .int i => decide (lo ≤ i) && decide (i ≤ hi)
  | _ => false
def D.isN : D → Bool
  | .non => true
  | _ => false
def D.isT (n : Int) : D → Bool
  | .tup xs => decide ((xs.length : Int) = n)
  | _ => false
mutual
def D.fit (M : Nat) : D → Bool
  | .non => true
  | .bl _ => true
  | .int i => decide (i.natAbs ≤ M)
  | .str z => z.cps.toList.all fun c => decide (c < 128)
  | .lst xs => D.fits M xs
  | .tup xs => D.fits M xs
  | .dk kvs => kvs.isEmpty
  | .ob _ _ => false
  | .xo _ _ => false
def D.fits (M : Nat) : List D → Bool
  | [] => true
  | x :: r => D.fit M x && D.fits M r
end
mutual
def D.ln : D → Nat
  | .non => 4
  | .bl _ => 5
  | .int _ => 1921
  | .str z => 10 * z.length + 2
  | .lst xs => D.lns xs + 3
  | .tup xs => D.lns xs + 3
  | .dk _ => 3
  | .ob _ _ => 0
  | .xo _ _ => 0
def D.lns : List D → Nat
  | [] => 0
  | x :: r => D.ln x + 2 + D.lns r
end
mutual
def D.dpt : D → Nat
  | .lst xs => D.dpts xs + 1
  | .tup xs => D.dpts xs + 1
  | .dk _ => 1
  | _ => 0
def D.dpts : List D → Nat
  | [] => 0
  | x :: r => max (D.dpt x) (D.dpts r)
end
def rowB : D → Bool
  | .tup xs => xs.all (D.isB 0 255)
  | _ => false
theorem fit_ty {M : Nat} {x : D} (h : x.fit M = true) : ∃ a, x.ty = some a := by
  cases x with
  | ob C fs => cases (show false = true from h)
  | xo C fs => cases (show false = true from h)
  | _ => exact ⟨_, rfl⟩
theorem fits_all {M : Nat} : ∀ {xs : List D}, D.fits M xs = true ↔ ∀ x ∈ xs, x.fit M = true
  | [] => ⟨fun _ _ h => (nomatch h), fun _ => rfl⟩
  | x :: r => by
    have e : D.fits M (x :: r) = (D.fit M x && D.fits M r) := rfl
    have ih := fits_all (M := M) (xs := r)
    rw [e, Bool.and_eq_true]
    constructor
    · intro h y hy
      rcases List.mem_cons.mp hy with z | z
      · exact z ▸ h.1
      · exact ih.mp h.2 y z
    · intro h
      exact ⟨h x List.mem_cons_self, ih.mpr fun y hy => h y (List.mem_cons_of_mem _ hy)⟩
theorem lns_mem : ∀ {xs : List D} {x : D}, x ∈ xs → x.ln + 2 ≤ D.lns xs
  | y :: r, x, h => by
    have e : D.lns (y :: r) = D.ln y + 2 + D.lns r := rfl
    rw [e]
    rcases List.mem_cons.mp h with z | z
    · subst z
      omega
    · have := lns_mem z
      omega
theorem lns_len : ∀ {xs : List D}, 2 * xs.length ≤ D.lns xs
  | [] => Nat.le_refl _
  | y :: r => by
    have e : D.lns (y :: r) = D.ln y + 2 + D.lns r := rfl
    have := lns_len (xs := r)
    rw [e, List.length_cons]
    omega
theorem lns_app : ∀ {xs ys : List D}, D.lns (xs ++ ys) = D.lns xs + D.lns ys
  | [], ys => by
    show D.lns ys = 0 + D.lns ys
    omega
  | y :: r, ys => by
    have e : D.lns (y :: r) = D.ln y + 2 + D.lns r := rfl
    have e2 : D.lns (y :: r ++ ys) = D.ln y + 2 + D.lns (r ++ ys) := rfl
    rw [e, e2, lns_app]
    omega
theorem dpts_mem : ∀ {xs : List D} {x : D}, x ∈ xs → x.dpt ≤ D.dpts xs
  | y :: r, x, h => by
    have e : D.dpts (y :: r) = max (D.dpt y) (D.dpts r) := rfl
    rw [e]
    rcases List.mem_cons.mp h with z | z
    · subst z
      omega
    · have := dpts_mem z
      omega
theorem dpts_le {n : Nat} : ∀ {xs : List D}, (∀ x ∈ xs, x.dpt ≤ n) → D.dpts xs ≤ n
  | [], _ => Nat.zero_le _
  | y :: r, h => by
    have e : D.dpts (y :: r) = max (D.dpt y) (D.dpts r) := rfl
    have h1 := h y List.mem_cons_self
    have h2 := dpts_le (xs := r) fun x hx => h x (List.mem_cons_of_mem _ hx)
    rw [e]
    omega
mutual
theorem fit_py {M : Nat} (hM : M ≤ 10 ^ 40) : ∀ d : D, d.fit M = true → ∃ p, d.pyE = some p ∧ p.showable = true ∧ p.depth ≤ d.dpt ∧ p.shown.length ≤ d.ln
  | .non, _ => ⟨_, rfl, rfl, Nat.le_refl _, by decide⟩
  | .bl b, _ => ⟨_, rfl, rfl, Nat.le_refl _, by cases b <;> decide⟩
  | .int i, h => by
    have h1 : i.natAbs ≤ M := of_decide_eq_true h
    have h2 : i.natAbs.log2 < 1920 := by
      by_cases h0 : i.natAbs = 0
      · rw [h0]
        decide
      · refine (Nat.log2_lt h0).mpr (Nat.lt_of_le_of_lt (Nat.le_trans h1 hM) (by decide))
    exact ⟨_, rfl, decide_eq_true h2, Nat.le_refl _, int_text_len_1921 h2⟩
  | .str z, h => ⟨_, rfl, rfl, Nat.le_refl _, PySem.StrLaws.reprText_len z fun c hc => by
      have h1 := of_decide_eq_true (List.all_eq_true.mp (show z.cps.toList.all (fun c => decide (c < 128)) = true from h) c hc)
      exact Nat.lt_trans h1 (by decide)⟩
  | .lst xs, h => by
    obtain ⟨ps, e, h1, h2, h3⟩ := fits_py hM xs h
    refine ⟨.list ps, by show (D.pysE xs).map PyData.list = _; rw [e]; rfl, h1, Nat.succ_le_succ h2, ?_⟩
    refine Nat.le_trans (listText_len_le (PyData.shownAll ps)) ?_
    show _ ≤ D.lns xs + 3
    omega
  | .tup xs, h => by
    obtain ⟨ps, e, h1, h2, h3⟩ := fits_py hM xs h
    refine ⟨.tuple ps, by show (D.pysE xs).map PyData.tuple = _; rw [e]; rfl, h1, Nat.succ_le_succ h2, ?_⟩
    refine Nat.le_trans (tupleText_len_le (PyData.shownAll ps)) ?_
    show _ ≤ D.lns xs + 3
    omega
  | .dk [], _ => ⟨.dict [], rfl, rfl, by decide, by decide⟩
  | .dk (_ :: _), h => by cases (show false = true from h)
  | .ob _ _, h => by cases (show false = true from h)
  | .xo _ _, h => by cases (show false = true from h)
theorem fits_py {M : Nat} (hM : M ≤ 10 ^ 40) : ∀ ds : List D, D.fits M ds = true → ∃ ps, D.pysE ds = some ps ∧ PyData.showableAll ps = true ∧ PyData.depthAll ps ≤ D.dpts ds ∧ ((PyData.shownAll ps).map (·.length)).sum + 2 * (PyData.shownAll ps).length ≤ D.lns ds
  | [], _ => ⟨[], rfl, rfl, Nat.le_refl _, Nat.le_refl _⟩
  | d :: ds, h => by
    have e : D.fits M (d :: ds) = (D.fit M d && D.fits M ds) := rfl
    rw [e, Bool.and_eq_true] at h
    obtain ⟨p, a1, a2, a3, a4⟩ := fit_py hM d h.1
    obtain ⟨ps, b1, b2, b3, b4⟩ := fits_py hM ds h.2
    refine ⟨p :: ps, ?_, ?_, ?_, ?_⟩
    · show ((D.pyE d).bind fun p => (D.pysE ds).map fun ps => p :: ps) = _
      rw [a1, b1]
      rfl
    · show (p.showable && PyData.showableAll ps) = true
      rw [a2, b2]
      rfl
    · show max p.depth (PyData.depthAll ps) ≤ max d.dpt (D.dpts ds)
      omega
    · show ((p.shown.length :: (PyData.shownAll ps).map (·.length)).sum + 2 * ((PyData.shownAll ps).length + 1)) ≤ d.ln + 2 + D.lns ds
      rw [List.sum_cons]
      omega
end
/-- what repr tells -/
def shownD (x : D) : Str := match x.pyE with
  | some p => p.shown
  | none => ""
theorem cw_reprF {K : PySem.W.Frag} {os : Os} {Q : Sv → Os → Prop} {M : Nat} {x : D} (hM : M ≤ 10 ^ 40) (h : x.fit M = true) (hl : x.ln ≤ 10000000) (hd : x.dpt ≤ 60) (q : Q (.d (.str (shownD x))) os) : CW K (rReprA K) [.d x] os Q := by
  obtain ⟨p, e, h1, h2, h3⟩ := fit_py hM x h
  have es : shownD x = p.shown := by
    unfold shownD
    rw [e]
  rw [es] at q
  exact cw_pure (fun as H vs Q' R r k => by
    cases r with
    | cons h t =>
      cases t
      exact ⟨as, _, x, p, rfl, h, e, h1, by omega, Nat.le_trans h3 (Nat.le_trans hl (by decide)), k _ (.str _)⟩) q
mutual
theorem fit_mono {M N : Nat} (h : M ≤ N) : ∀ d : D, d.fit M = true → d.fit N = true
  | .non, _ => rfl
  | .bl _, _ => rfl
  | .int i, q => decide_eq_true (Nat.le_trans (of_decide_eq_true (show decide (i.natAbs ≤ M) = true from q)) h)
  | .str _, q => q
  | .lst xs, q => fits_mono h xs q
  | .tup xs, q => fits_mono h xs q
  | .dk _, q => q
  | .ob _ _, q => q
  | .xo _ _, q => q
theorem fits_mono {M N : Nat} (h : M ≤ N) : ∀ ds : List D, D.fits M ds = true → D.fits N ds = true
  | [], _ => rfl
  | d :: ds, q => by
    have e : D.fits M (d :: ds) = (D.fit M d && D.fits M ds) := rfl
    rw [e, Bool.and_eq_true] at q
    show (D.fit N d && D.fits N ds) = true
    rw [fit_mono h d q.1, fits_mono h ds q.2]
    rfl
end
/-- bounds of data -/
structure Gd (M B n : Nat) (y : D) : Prop where
  f : y.fit M = true
  l : y.ln ≤ B
  d : y.dpt ≤ n
theorem Gd.up {M B n M' B' n' : Nat} {y : D} (h : Gd M B n y) (h1 : M ≤ M') (h2 : B ≤ B') (h3 : n ≤ n') : Gd M' B' n' y := ⟨fit_mono h1 y h.f, Nat.le_trans h.l h2, Nat.le_trans h.d h3⟩
theorem lns_split {xs : List D} (j : Nat) : D.lns xs = D.lns (xs.take j) + D.lns (xs.drop j) := by
  rw [← lns_app, List.take_append_drop]
theorem lns_take {xs : List D} (j : Nat) : D.lns (xs.take j) ≤ D.lns xs := by
  have := lns_split (xs := xs) j
  omega
theorem lns_drop {xs : List D} (j : Nat) : D.lns (xs.drop j) ≤ D.lns xs := by
  have := lns_split (xs := xs) j
  omega
theorem lns_rev : ∀ {xs : List D}, D.lns xs.reverse = D.lns xs
  | [] => rfl
  | x :: r => by
    rw [List.reverse_cons, lns_app, lns_rev]
    show D.lns r + (x.ln + 2 + 0) = x.ln + 2 + D.lns r
    omega
theorem cut_sub {xs : List D} {lo hi : Option Int} {y : D} (h : y ∈ Br.cutD xs lo hi) : y ∈ xs := List.mem_of_mem_drop (List.mem_of_mem_take h)
theorem cut_lns {xs : List D} {lo hi : Option Int} : D.lns (Br.cutD xs lo hi) ≤ D.lns xs := Nat.le_trans (lns_take _) (lns_drop _)
/-- of things of a tuple another tuple, or list -/
theorem gd_tup {M B n : Nat} {xs ys : List D} (h : Gd M B n (.tup xs)) (hm : ∀ y ∈ ys, y ∈ xs ∨ y = .non) (hl : D.lns ys + 3 ≤ B) : Gd M B n (.tup ys) := by
  have hf := fits_all.mp (show D.fits M xs = true from h.f)
  have hd : D.dpts xs + 1 ≤ n := h.d
  refine ⟨fits_all.mpr fun y hy => ?_, hl, ?_⟩
  · rcases hm y hy with z | rfl
    · exact hf y z
    · rfl
  · show D.dpts ys + 1 ≤ n
    have : D.dpts ys ≤ D.dpts xs := dpts_le fun y hy => by
      rcases hm y hy with z | rfl
      · exact dpts_mem z
      · exact Nat.zero_le _
    omega
theorem gd_lst {M B n : Nat} {xs : List D} (h : Gd M B n (.tup xs)) : Gd M B n (.lst xs) := ⟨h.f, h.l, h.d⟩
def asc (z : Str) : Prop := ∀ c ∈ z.cps.toList, c < 128
theorem asc_of {M : Nat} {z : Str} (h : (D.str z).fit M = true) : asc z := fun c hc => of_decide_eq_true (List.all_eq_true.mp (show (z.cps.toList.all fun c => decide (c < 128)) = true from h) c hc)
theorem gd_str {M B n : Nat} {z : Str} (h : asc z) (hl : 10 * z.length + 2 ≤ B) : Gd M B n (.str z) := ⟨List.all_eq_true.mpr fun c hc => decide_eq_true (h c hc), hl, Nat.zero_le _⟩
theorem asc_cut {z : Str} {lo hi : Option Int} (h : asc z) : asc (cutS z lo hi) := fun c hc => by
  have e : (cutS z lo hi).cps.toList = (z.cps.toList.drop (HT.sIx z.length 0 lo)).take (HT.sIx z.length z.length hi - HT.sIx z.length 0 lo) := by
    unfold cutS
    simp
  rw [e] at hc
  exact h c (List.mem_of_mem_drop (List.mem_of_mem_take hc))
theorem asc_app {z y : Str} (h : asc z) (g : asc y) : asc (z ++ y) := fun c hc => by
  have e : (z ++ y).cps.toList = z.cps.toList ++ y.cps.toList := by
    show (z.cps ++ y.cps).toList = _
    simp
  rw [e] at hc
  rcases List.mem_append.mp hc with q | q
  · exact h c q
  · exact g c q
theorem len_app {z y : Str} : (z ++ y).length = z.length + y.length := by
  show (z.cps ++ y.cps).size = _
  rw [Array.size_append]
  rfl
theorem up_lt : ∀ c, c < 128 → up1 c < 128 := by decide +kernel
theorem asc_up {z : Str} (h : asc z) : asc (Txt.upper z) ∧ (Txt.upper z).length = z.length := by
  have e := upper_ascii (x := z) fun c hc => h c hc
  rw [e]
  constructor
  · intro c hc
    have hc' : c ∈ z.cps.toList.map up1 := by simpa using hc
    obtain ⟨d, hd, rfl⟩ := List.mem_map.mp hc'
    exact up_lt d (h d hd)
  · show (z.cps.map up1).size = z.cps.size
    simp
theorem asc_int (i : Int) : asc (toString i : String) := fun c hc => by
  by_cases h : c < 128
  · exact h
  · exact absurd hc (int_text_free' c ⟨by omega, .inr (by omega)⟩ i)
theorem log_of {M : Nat} {i : Int} (h : i.natAbs ≤ M) (hM : M ≤ 10 ^ 40) : i.natAbs.log2 < 1920 := by
  by_cases h0 : i.natAbs = 0
  · rw [h0]
    decide
  · exact (Nat.log2_lt h0).mpr (Nat.lt_of_le_of_lt (Nat.le_trans h hM) (by decide))
theorem len_int {M : Nat} {i : Int} (h : i.natAbs ≤ M) (hM : M ≤ 10 ^ 40) : (Str.ofString (toString i)).length ≤ 1921 := int_text_len_1921 (log_of h hM)
/-- t[::-1] -/
theorem spD_or {K : PySem.W.Frag} {f1 f2 : FD} {vs : List V} {H : Hp} {Q : VK} {E : XK} (h : spD K (fun ds os QA EA => f1 ds os QA EA ∨ f2 ds os QA EA) vs H Q E) : spD K f1 vs H Q E ∨ spD K f2 vs H Q E := by
  obtain ⟨as, os, ds, QA, EA, R, r, hf, k1, k2⟩ := h
  rcases hf with hf | hf
  · exact .inl ⟨as, os, ds, QA, EA, R, r, hf, k1, k2⟩
  · exact .inr ⟨as, os, ds, QA, EA, R, r, hf, k1, k2⟩
theorem spD_imp {K : PySem.W.Frag} {f1 f2 : FD} {vs : List V} {H : Hp} {Q : VK} {E : XK} (m : ∀ ds os QA EA, f1 ds os QA EA → f2 ds os QA EA) (h : spD K f1 vs H Q E) : spD K f2 vs H Q E := by
  obtain ⟨as, os, ds, QA, EA, R, r, hf, k1, k2⟩ := h
  exact ⟨as, os, ds, QA, EA, R, r, m _ _ _ _ hf, k1, k2⟩
def fNo : FD := fun _ _ _ _ => False
theorem ok_no {P : Program} {w : World} {K : PySem.W.Frag} {mg : Str → Option Value} {base : Heap} {k : Nat} {f : Addr} {fd : FuncData} {ps : List Str} : FnOk P w K mg base CX0 k f fd ps (spD K fNo) :=
  ⟨fun vs H Q E h => by obtain ⟨_, _, _, _, _, _, _, hf, _⟩ := h; exact hf.elim, fun A outer s H args us vs Q E _ _ _ _ h => by obtain ⟨_, _, _, _, _, _, _, hf, _⟩ := h; exact hf.elim⟩
theorem cut_take {xs : List D} {j : Nat} (h : j ≤ xs.length) : Br.cutD xs none (some (j : Int)) = xs.take j := by
  unfold Br.cutD
  rw [HT.sIx_nat, HT.sIx_none, Nat.min_eq_left h, List.drop_zero, Nat.sub_zero]
theorem cut_drop {xs : List D} {j : Nat} (h : j ≤ xs.length) : Br.cutD xs (some (j : Int)) none = xs.drop j := by
  unfold Br.cutD
  rw [HT.sIx_nat, HT.sIx_none, Nat.min_eq_left h, List.take_of_length_le (by rw [List.length_drop]; exact Nat.le_refl _)]
theorem isi_int {x : D} {a : String} (h : x.ty = some a) : ∃ r, kitB a "int" = some r ∧ ∃ r2, kitB a "bool" = some r2 ∧ (r && !r2) = x.isI := by
  cases x <;> cases h <;> exact ⟨_, rfl, _, rfl, rfl⟩
theorem isi_tup {x : D} {a : String} (h : x.ty = some a) : (∃ xs, x = .tup xs ∧ kitB a "tuple" = some true) ∨ ((∀ xs, x ≠ .tup xs) ∧ kitB a "tuple" = some false) := by
  cases x with
  | tup xs => cases h; exact .inl ⟨xs, rfl, rfl⟩
  | ob C fs => cases h
  | xo C fs => cases h
  | _ => cases h; exact .inr ⟨fun xs e => (nomatch e), rfl⟩
theorem isi_str {x : D} {a : String} (h : x.ty = some a) : (∃ z, x = .str z ∧ kitB a "str" = some true) ∨ ((∀ z, x ≠ .str z) ∧ kitB a "str" = some false) := by
  cases x with
  | str xs => cases h; exact .inl ⟨xs, rfl, rfl⟩
  | ob C fs => cases h
  | xo C fs => cases h
  | _ => cases h; exact .inr ⟨fun xs e => (nomatch e), rfl⟩
theorem isT_no {x : D} {n : Int} (h : ∀ xs, x ≠ .tup xs) : x.isT n = false := by
  cases x with
  | tup xs => exact absurd rfl (h xs)
  | _ => rfl
theorem isB_no {x : D} {lo hi : Int} (h : x.isI = false) : x.isB lo hi = false := by
  cases x with
  | int i => cases h
  | _ => rfl
theorem isI_is {x : D} (h : x.isI = true) : ∃ i, x = .int i := by
  cases x with
  | int i => exact ⟨i, rfl⟩
  | _ => cases h
end Br

/-! BrO: a list of the store asked for its kind, walked in a comprehension. -/
namespace Br
open PySem PySem.Spec PyProof.Rows L2
section
variable {K : PySem.W.Frag} {X : Xc} {S : Sa} {Q : Sv → Os → Prop} {te tl : TE} {g : TG} {tt : TT}
theorem ew_isiL {n : String} (h : EW K X te S fun x os => ∃ j xs r, x = .o j ∧ os[j]? = some (.ml xs) ∧ kitB "list" n = some r ∧ Q (.d (.bl r)) os) : EW K X (tCB (rIsi K) (tCons te (tCons (tC (.ty n)) tNil))) S Q := fun as H σ Q' R x k =>
  h as H σ _ R x fun v H1 d os1 g1 R1 r1 ⟨j, xs, r, ed, eo, er, q⟩ => by
    subst ed
    obtain ⟨a, ea, rfl⟩ := r1
    obtain ⟨vs, h1, _⟩ := R1.own j a _ ea eo
    exact ⟨_, .ty n, .type "list", .type n, r, rfl, .ty n, .base (.lst h1), kit_ty er, k (.bl r) H1 (.d (.bl r)) os1 g1 R1 (Dx.bl r) q⟩
/-- a comprehension over a list of the store that stays as it is -/
theorem ew_lcO {vs : List Nat} (hg : Wg g vs) (hm : Mg g) (h : EW K X tl S fun x os => ∃ j ds, x = .o j ∧ os[j]? = some (.ml ds) ∧ j < os.length ∧ ∃ Pv : Nat → List D → Os → Prop, Pv 0 [] os ∧ (∀ i acc os', Pv i acc os' → os'[j]? = some (.ml ds)) ∧
      (∀ i d acc os', ds[i]? = some d → Pv i acc os' → GW K g (.d d) ⟨wipeS S.s vs, os' ++ [.ml acc]⟩ fun S2 => TW K X0 tt S2 fun b os2 =>
        if b = true then EW K X0 te ⟨S2.s, os2⟩ fun y os3 => ∃ z os4, y = .d z ∧ os3 = os4 ++ [.ml acc] ∧ acc.length < sizeLine ∧ Pv (i + 1) (acc ++ [z]) os4 else ∃ os4, os2 = os4 ++ [.ml acc] ∧ Pv (i + 1) acc os4) ∧
      ∀ acc os', Pv ds.length acc os' → Q (.d (.lst acc)) os') : EW K X (tLc (iList K tl) g tt te vs) S Q := fun as H σ Q' R x k =>
  h as H σ _ R x fun v H1 d1 os1 g1 R1 r1 ⟨j, ds, ed, eo, hj, Pv, p0, stay, turn, fin⟩ => by
    subst ed
    obtain ⟨a, ea, rfl⟩ := r1
    obtain ⟨ws0, hw0, _⟩ := R1.own j a _ ea eo
    refine ⟨a, rfl, ⟨ws0, .inl (.inl hw0)⟩, fun Dl hD => ?_⟩
    have R1' := R.go g1 R1
    have seq : ∀ {H2 : Hp} {os2 : Os} {acc : List D}, Ro K (as ++ [Dl]) H2 (os2 ++ [.ml acc]) → os2[j]? = some (.ml ds) → ∃ vs, H2 a = some (.lst vs) ∧ DxA K (as ++ [Dl]) H2 vs ds := fun {H2 os2 acc} R2 e => by
      have ha : (as ++ [Dl])[j]? = some a := by rw [List.getElem?_append_left (List.getElem?_eq_some_iff.mp ea).1]; exact ea
      have he : (os2 ++ [Ob.ml acc])[j]? = some (.ml ds) := by rw [List.getElem?_append_left (List.getElem?_eq_some_iff.mp e).1]; exact e
      obtain ⟨vs, h1, h2⟩ := R2.own j a _ ha he
      exact ⟨vs, h1, h2⟩
    refine ⟨fun i m H2 => m = ds.length - i ∧ i ≤ ds.length ∧ ∃ acc os2, Stp as H1 (as ++ [Dl]) H2 ∧ Re K (as ++ [Dl]) H2 σ ⟨S.s, os2 ++ [.ml acc]⟩ ∧ Pv i acc os2, ⟨_, rfl, Nat.zero_le _, [], os1, stp_add hD, ?_, p0⟩, ?_⟩
    · refine ⟨ro_add R1 hD, R1'.slen, fun i d hd => ?_⟩
      obtain ⟨u, e, r⟩ := R1'.slot i d hd
      exact ⟨u, e, (r.wayA hD).go (Go.at (by simp))⟩
    rintro i m H2 ⟨rfl, hi, acc, os2, s2, R2, p⟩
    obtain ⟨us, hu1, hu2⟩ := seq R2.o (stay i acc os2 p)
    by_cases hlt : i < ds.length
    · have hd : ds[i]? = some ds[i] := List.getElem?_eq_getElem hlt
      obtain ⟨u, e1, e2⟩ := hu2.get hd
      refine .inr ⟨⟨us, u, .inl (.inl hu1), e1⟩, fun H' => ∃ acc os3, Stp as H1 (as ++ [Dl]) H' ∧ Re K (as ++ [Dl]) H' σ ⟨S.s, os3 ++ [.ml acc]⟩ ∧ Pv (i + 1) acc os3, fun H' z => ⟨ds.length - (i + 1), by omega, rfl, hlt, z⟩, fun y H3 hyl => ?_⟩
      obtain ⟨rfl, hy⟩ := hyl
      have z := hy us (.inl (.inl hu1))
      rw [e1] at z
      cases z
      have base := turn i _ acc os2 hd p (as ++ [Dl]) H3 (wipe σ vs) _ (fun σ2 H4 => H4 = H3 ∧ ∃ S2, Re K (as ++ [Dl]) H3 σ2 S2 ∧ TW K X0 tt S2 fun b os2 =>
        if b = true then EW K X0 te ⟨S2.s, os2⟩ fun y os3 => ∃ z os4, y = .d z ∧ os3 = os4 ++ [.ml acc] ∧ acc.length < sizeLine ∧ Pv (i + 1) (acc ++ [z]) os4 else ∃ os4, os2 = os4 ++ [.ml acc] ∧ Pv (i + 1) acc os4) (re_wipe R2) e2 fun σ2 S2 R4 q => ⟨rfl, S2, R4, q⟩
      refine hm _ _ _ _ _ ?_ (hg _ _ _ _ base)
      rintro σ2 H4 ⟨⟨rfl, S2, R4, tw⟩, hl, ho⟩
      refine ⟨(wipe_ext hl fun i hi => ho i hi).trans (wipe_ext (wipe_length σ vs) fun i hi => wipe_out1 hi), ?_⟩
      refine tw _ H4 σ2 _ R4 XH.x0 fun b H5 os5 g5 R5 q5 => ?_
      have s5 := s2.trans (Stp.of_go g5 R5)
      cases b with
      | false =>
        obtain ⟨os4, rfl, q6⟩ := (show ∃ os4, os5 = os4 ++ [.ml acc] ∧ Pv (i + 1) acc os4 from q5)
        show ∃ acc os3, _
        exact ⟨acc, os4, s5, R2.go g5 R5, q6⟩
      | true =>
        show te σ2 H5 _
        refine (show EW K X0 te ⟨S2.s, os5⟩ _ from q5) _ H5 σ2 _ (R4.go g5 R5) XH.x0 fun w H6 e os6 g6 R6 r6 ⟨z, os7, ez, eo, hz, q7⟩ => ?_
        subst ez
        subst eo
        obtain ⟨ws, ew, rw'⟩ := (ro_drop R6).2.1
        refine ⟨ws, ew, by rw [rw'.length]; exact hz, acc ++ [z], os7, ?_, ?_, q7⟩
        · exact (s5.trans (Stp.of_go g6 R6)).trans (Stp.of_go (Go.at (by simp)) (ro_grow R6 ew r6))
        · exact (R2.go (g5.trans g6) R6).go (Go.at (by simp)) (ro_grow R6 ew r6)
    · have e : i = ds.length := by omega
      subst e
      obtain ⟨Rd, ob, nin⟩ := ro_drop R2.o
      obtain ⟨ws, ew, rw'⟩ := ob
      exact .inl ⟨⟨us, .inl (.inl hu1), by rw [hu2.length]; exact Nat.le_refl _⟩, k (.ref Dl) H2 (.d (.lst acc)) os2 (g1.trans s2.go) Rd (Dx.lst (.inl ⟨nin, .inl ew⟩) rw') (fin acc os2 p)⟩
end
/-! ### data that is copied -/
mutual
def D.cpy : D → Bool
  | .non => true
  | .bl _ => true
  | .int _ => true
  | .lst xs => decide (xs.length ≤ 100000) && D.cpys xs
  | .tup xs => decide (xs.length ≤ 100000) && D.cpys xs
  | _ => false
def D.cpys : List D → Bool
  | [] => true
  | x :: r => D.cpy x && D.cpys r
end
theorem cpys_all : ∀ {xs : List D}, D.cpys xs = true ↔ ∀ x ∈ xs, x.cpy = true
  | [] => ⟨fun _ _ h => (nomatch h), fun _ => rfl⟩
  | x :: r => by
    have e : D.cpys (x :: r) = (D.cpy x && D.cpys r) := rfl
    have ih := cpys_all (xs := r)
    rw [e, Bool.and_eq_true]
    constructor
    · intro h y hy
      rcases List.mem_cons.mp hy with z | z
      · exact z ▸ h.1
      · exact ih.mp h.2 y z
    · intro h
      exact ⟨h x List.mem_cons_self, ih.mpr fun y hy => h y (List.mem_cons_of_mem _ hy)⟩
end Br

/-! BrXB: own classes of exceptions over RuntimeError, with their own __init__. -/
namespace Br
open PySem PySem.Spec PyProof.Rows L2
/-- a built-in class of exceptions, as own classes stand over it -/
structure OvB (B newId initId : String) (bmB : List Value) : Prop where
  FB : ExcBaseFacts B newId initId bmB
  SF : StoreFacts B bmB "object.__setattr__" "object"
abbrev reMro : List Value := [.type "RuntimeError", .type "Exception", .type "BaseException", .type "object"]
theorem ovR : OvB "RuntimeError" "RuntimeError.__new__" "RuntimeError.__init__" reMro := ⟨PySem.F.excBase_RuntimeError, PySem.F.store_RuntimeError⟩
theorem ty_re : typeOf (.type "RuntimeError") = pure (.type "type") := by kernel_rfl
/-- an own class over it -/
structure OeB (K : PySem.W.Frag) (C : Addr) (bmB : List Value) (newId : String) : Prop where
  q : PySem.W.excInitIn K C bmB newId = true
  ov : PySem.W.excOver K C bmB = true
  hd : PySem.W.hasDictIn K C = true
  sa : PySem.W.findIn K (.ref C) "__setattr__" = some (some (.builtin "object.__setattr__"))
  exC : PySem.W.subIn K (.ref C) (.type "BaseException") = some true
  tyC : PySem.W.typeIn K (.ref C) = some (.type "type")
  kC : PySem.W.keepIn K (.ref C) = true
section
variable {B newId initId : String} {bmB : List Value} {X : Cx} {pins : List (Addr × Obj)} {σ : L2.St} {H : Hp} {s : Shared} {a C : Addr} {A : Around} {E : Value → Shared → Prop}
/-- self.f = u, the only field: first the dict is laid, then the exception is turned to it -/
theorem ostB {f : Str} {y : V} {u : Value} {Q : Unit → Shared → Prop} (V : OvB B newId initId bmB) (T : OeB X.K C bmB newId) (I : Inv X pins σ H s) (e : H a = some (exo a C none)) (hno : NoAttr X.K C f) (ry : RelV y u)
    (h : ∀ dx s', H dx = none → dx ≠ a → Inv X pins σ (upd (upd H dx (exd dx [(f, y)])) a (exo a C (some dx))) s' → Q () s') : wpAny (model X.prog X.w) A (setAttr (.ref a) f u) Q E s := by
  obtain ⟨t1, ho⟩ := exo_at I.hok e
  obtain ⟨cd, hc, hd⟩ := PySem.W.any_some T.hd
  obtain ⟨hp, g, d, t, os⟩ := s
  refine PySem.W.set_plain I.kIn (od := none) ⟨ho, rfl, rfl, trivial⟩ T.sa ?_
  refine PySem.W.osa_openX (od := none) V.SF I.kIn ⟨ho, rfl, rfl, trivial⟩ T.ov (NoAttr.taker hno) fun b => ?_
  refine wpAny_bind (wpAny_pure (wpAny_bind (PySem.W.instanceDict_exc (t := t1) (c2 := .none) ho (PySem.W.looks_clsIn I.kIn hc) hd ?_)))
  have hlt : ∀ {b : Addr} {o : Obj}, hp.get? b = some o → b ≠ hp.objs.size := fun q => Nat.ne_of_lt (Heap.lt_size q)
  have hda : hp.objs.size ≠ a := (hlt ho).symm
  show wpAny _ _ (Builtin.ObjectAttr.storeInDict hp.objs.size (.str f _) f u) _ _ _
  refine PySem.HandSPX.store_in_new ?_ ?_
  · exact ⟨_, #[], _, (Heap.get?_update_ne _ _ _ _ hda).trans (Heap.get?_push_at rfl rfl), rfl, fun e he => absurd he (by simp), fun _ => rfl⟩
  · intro h' tk' hn' hs
    have ga : h'.get? a = some ({ cls := .ref C, dict := some hp.objs.size, data := .fields #[.ref t1, .none, .none, .none, .bool false, .none] } : Obj) := (hs.2 a hda.symm).trans (Heap.get?_update_self _ (Heap.get?_push_of_some _ ho) rfl)
    have g1 : (h'.update a fun o => { o with dict := none }).get? a = some ({ cls := .ref C, data := .fields #[.ref t1, .none, .none, .none, .bool false, .none] } : Obj) := Heap.get?_update_self _ ga rfl
    have g2 : ∀ b, b ≠ a → (h'.update a fun o => { o with dict := none }).get? b = h'.get? b := fun b hb => Heap.get?_update_ne _ _ _ _ hb
    have I1 := I.laid (t' := tk') (a := hp.objs.size) (o := exd hp.objs.size [(f, y)]) (h' := h'.update a fun o => { o with dict := none }) (fun b o q => by
      by_cases hb : b = a
      · subst hb
        rw [show hp.get? b = _ from ho] at q
        rw [g1]
        exact q
      · exact (g2 b hb).trans ((hs.2 b (hlt q)).trans ((Heap.get?_update_ne _ _ _ _ hb).trans (Heap.get?_push_of_some _ q)))) (Nat.le_refl _) (exd_ok (hn'.at fun o q => (g2 _ hda).trans q) (relO_put (fs := []) ry fun _ => True.intro))
    have I2 := I1.write (t' := tk') (x := a) (e := a) (o := exo a C (some hp.objs.size)) (h' := h') (by rw [upd_ne hda.symm, e]; exact True.intro) (.inl rfl) (fun b o hb q => (g2 b hb).symm.trans q) ⟨_, ga⟩ (exo_ok ga)
    exact h hp.objs.size _ (I.hok.fresh (Nat.le_refl _)) hda I2
/-- B.__init__(self, ..) tells nothing -/
theorem initB {us : List Value} {Q : Value → Shared → Prop} (V : OvB B newId initId bmB) (T : OeB X.K C bmB newId) (I : Inv X pins σ H s) (e : H a = some (exo a C none)) (hl : us.length ≤ sizeLine) (h : ∀ s', Inv X pins σ H s' → Q .none s') :
    wpAny (model X.prog X.w) A (call (.builtin initId) (.ref a :: us)) Q E s := by
  obtain ⟨_, _, _, _, _, _, _, _, _, _, _, _, _, _, _, _, hC, hT⟩ := PySem.W.excInit_of I.kIn T.q
  obtain ⟨t1, ho⟩ := exo_at I.hok e
  obtain ⟨hp, g, d, t, os⟩ := s
  refine wpAny_call (PySem.HandSPX.init_base V.FB hT hC ho hl fun h' t2 k hx => ?_)
  have J := I.write (t' := t) (x := a) (e := a) (o := exo a C none) (by rw [e]; trivial) (.inl rfl) k ⟨_, hx⟩ (exo_ok hx)
  have same : upd H a (exo a C none) = H := funext fun b => by
    by_cases hb : b = a
    · subst hb
      exact upd_same.trans e.symm
    · exact upd_ne hb
  rw [same] at J
  exact h _ J
end
/-- what RuntimeError.__init__(self, ..) asks -/
def tReI (K : PySem.W.Frag) (ta : TA) : TE := fun σ H Q => ta σ H fun vs H1 => ∃ (a C : Addr) (ws : List V), vs = .ref a :: ws ∧ ws.length ≤ 1000 ∧ OeB K C reMro "RuntimeError.__new__" ∧ H1 a = some (exo a C none) ∧ Q .non H1
/-- self.f = e asks -/
def tReF (K : PySem.W.Frag) (f : Str) (to te : TE) : TS := fun D σ H => te σ H fun y H1 => to σ H1 fun x H2 => ∃ a C : Addr, x = .ref a ∧ OeB K C reMro "RuntimeError.__new__" ∧ NoAttr K C f ∧ H2 a = some (exo a C none) ∧
  ∀ dx, H2 dx = none → dx ≠ a → D.nx σ (upd (upd H2 dx (exd dx [(f, y)])) a (exo a C (some dx)))
section
variable {X : Cx} {o e : Expr} {es : List Expr} {to te : TE} {ta : TA} {f : Str} {p p' p1 p2 pos : Pos}
theorem pe_reinit {pl : Sem Bool} (hg : Gl X "RuntimeError") (hm : X.mg "RuntimeError" = none) (vV : PySem.W.findCls X.K (.type "RuntimeError") (.type "type") "__init__" = some (.val (.builtin "RuntimeError.__init__"))) (ha : PA X (e :: es) ta)
    (hc : eval (.Call (.Attribute (.Name "RuntimeError" p1) "__init__" p2) (e :: es) [] pos) X.env = (do let ov ← eval (.Name "RuntimeError" p1) X.env; standAt p2.atName; let (f, first) ← holding [ov] (getMethod ov "__init__" pl); callWith pos f first (backTo pos (starEach (e :: es) X.env)) (backToKw pos (keywordEach [] X.env))) := by rfl)
    (h1 : starEach (e :: es) X.env = (false, eval e X.env) :: starEach es X.env := by rfl) (h2 : (backTo pos (starEach es X.env)).any (·.1) = false := by rfl) :
    PE X (.Call (.Attribute (.Name "RuntimeError" p1) "__init__" p2) (e :: es) [] pos) (tReI X.K ta) := by
  refine ⟨fun pins s σ H Q I h => PySem.W.methodCall_KW (ld_blt I hg hm PyProof.Rows.Boot.«RuntimeError» ?_ (by decide) (by decide)) hc⟩
  obtain ⟨m, fr⟩ := I.fr
  refine PySem.W.method_type fr I.ok.mod.kin ty_re (by decide +kernel) vV (by decide +kernel) ?_
  show wpAny _ _ (callWith pos (Value.builtin "RuntimeError.__init__") [] (backTo pos (starEach (e :: es) X.env)) []) _ _ _
  refine PyProof.Rows.callWith_method1 (thn (ha.run pos pins _ σ H _ (I.tok _) h) ?_) h1 h2
  rintro us s1 ⟨_, H1, I1, r1, a, C, ws, rfl, hl, T, ea, q⟩
  cases r1 with
  | @cons _ w0 _ ur ra rw' =>
    cases (show w0 = Value.ref a from ra)
    exact initB ovR T I1 ea (by rw [← rw'.length]; exact Nat.le_trans hl (by decide)) fun s' J => ⟨.non, H1, J, rfl, q⟩
theorem ps_reF (ho : PE X o to) (he : PE X e te) (hs : swapsWith e (some (.Attribute o f p')) pos.line X.env = pure false := by rfl) : PS X (.Assign [.Attribute o f p'] e pos) (tReF X.K f to te) := by
  refine ⟨fun pins s σ H D I h => plainObj_wpAny_Assign_Attribute (thn (he.run pins s σ H _ I h) ?_) hs⟩
  rintro v s1 ⟨y, H1, I1, r1, q1⟩
  refine thn (ho.run pins s1 σ H1 _ I1 q1) ?_
  rintro u s2 ⟨x, H2, I2, r2, a, C, rfl, T, hno, ea, q⟩
  cases (show u = Value.ref a from r2)
  exact ostB ovR T I2 ea hno r1 fun dx s' n ne J => ⟨σ, _, J, q dx n ne⟩
/-- C(e, ..), to be raised -/
theorem pmk_re {CX : CXT} {x : Str} {C fI : Addr} {k : Nat} {fd : FuncData} {ps : List Str} {sp : Sp} (T : OeB X.K C reMro "RuntimeError.__new__") (iC : PySem.W.findIn X.K (.ref C) "__init__" = some (some (.ref fI))) (tI : PySem.W.typeIn X.K (.ref fI) = some (.type "function"))
    (F1 : FnOk X.prog X.w X.K X.mg X.base CX k fI fd ps sp) (hr : Room (k + 1) X.A) (hb : Binds X.K fd ps []) (hx : Passes CX X (fun _ _ _ => False)) (hg : Gl X x) (hm : X.mg x = some (.ref C)) (ha : PA X (e :: es) ta)
    (hdb : (x == ("__debug__" : Str)) = false := by decide) (h1 : starEach (e :: es) X.env = (false, eval e X.env) :: starEach es X.env := by rfl) (h2 : (backTo pos (starEach es X.env)).any (·.1) = false := by rfl) :
    PMk X (.Call (.Name x p) (e :: es) [] pos) (tMkO C sp [] ta) := fun pins s σ H Q I h => by
  refine wpAny_Call_Name_kw (ld_glob I hg hm (PySem.W.callWith_K (h₀ := X.base) I.ok.mod.kin T.kC (thn (ha.run pos pins _ σ H _ (I.tok _) h) ?_) h1 h2) hdb)
  rintro us ⟨hp, g, dr, tk, os⟩ ⟨vs, H1, I1, r1, hz, q1⟩
  refine ⟨I1.kIn, ?_⟩
  show wpAny _ _ (call (.ref C) us) _ _ _
  obtain ⟨_, _, _, _, _, _, _, _, _, _, _, _, _, _, _, _, hC, hT⟩ := PySem.W.excInit_of I1.kIn T.q
  have hn : hp.objs.size ≤ hp.objs.size + 1 := Nat.le_succ _
  have hq := q1 (hp.objs.size + 1) (I1.hok.fresh hn)
  have up : ∀ b o, hp.get? b = some o → ((hp.push (PySem.W.kdv_tup us)).push (PySem.HandSPX.excO C hp.objs.size)).get? b = some o := fun b o z => Heap.get?_push_of_some _ (Heap.get?_push_of_some _ z)
  have I2 := I1.laid (t' := tk) (o := exo (hp.objs.size + 1) C none) up hn (exo_ok (t1 := hp.objs.size) (by heap_get))
  have rs : Vals (V.ref (hp.objs.size + 1) :: (vs ++ [])) (Value.ref (hp.objs.size + 1) :: (us ++ [])) := .cons rfl (r1.append .nil)
  have many := rs.length
  rw [F1.len _ _ _ _ hq] at many
  refine wpAny_call (PySem.HandSPX.call_own ovR.FB hT hC (PySem.W.looks_findIn I1.kIn iC) (fun me => PySem.W.bind_fn I1.kIn me tI) (by rw [← r1.length]; exact Nat.le_trans hz (by decide)) (codeAny_mono (F1.run _ X.stack _ _ ⟨Value.ref (hp.objs.size + 1) :: us, []⟩ _ _ _ _ (hr.make C us []) (I2.env0.make C us []) (hb _ (Value.ref (hp.objs.size + 1) :: us) I2.kIn many.symm) rs hq) fun r s' back => ?_))
  cases r with
  | error er => exact hx pins σ _ _ er s' I2 back
  | ok fl =>
    cases fl with
    | ret u =>
      obtain ⟨_, H2, o2, b2, n2, k2, rv, rfl, d, fs, ea, ed, hd1, z⟩ := back
      obtain ⟨h2, g2, d2, t2, os'⟩ := s'
      exact ⟨rv, mk_end (raises_own T.exC T.tyC) I1 hn up n2 k2 o2 b2 ea ed hd1 z⟩
    | next => exact False.elim back
    | brk => exact False.elim back
    | cont => exact False.elim back
end
end Br

/-! BrG2: the law's own def, with the module table's place known. -/
namespace Br
open PySem PySem.Spec PyProof.Rows L2
/-- the module table is there and is no list -/
def sysAt (h : Heap) : Bool := match h.get? sysModules with
  | some ⟨.type c, _, _, _⟩ => !decide (c = "list")
  | _ => false
theorem sysAt_on {h : Heap} (e : sysAt h = true) : SysOn h := by
  unfold sysAt at e
  cases q : h.get? sysModules with
  | none =>
    rw [q] at e
    cases e
  | some o =>
    rw [q] at e
    obtain ⟨c, dd, dt, sl⟩ := o
    cases c with
    | type n =>
      have e2 : (!decide (n = "list")) = true := e
      refine ⟨_, q, fun z => ?_⟩
      cases z
      cases e2
    | _ => cases e
/-- a Hook, the module table looked at beside it -/
def sysHook (Hk : PySem.W.Hook) : PySem.W.Hook :=
  ⟨Hk.α × Bool, fun s => (Hk.obs s, sysAt s.heap), fun w => (Hk.val w, true), fun w h => Hk.says w h ∧ SysOn h, fun w s e => ⟨Hk.of w s (congrArg Prod.fst e), sysAt_on (congrArg Prod.snd e)⟩,
    fun w h h' ⟨a, o, e, n⟩ k => ⟨Hk.keeps w h h' a k, o, k _ _ e, n⟩⟩
/-- the goal that the head leaves, the module table's place told to the defs -/
theorem walkG2 {l : PySem.W.OpenLaw} {n k : Nat} {q : Program} {loose : List Str} {XP : (Str → Option Value) → Heap → Prop} {YP : World → Heap → Prop} {d : DefRec} {K : Params → PySem.W.Frag} {sp : World → Sp} {x : Str}
    (hn : l.most = some n) (hn2 : n ≤ sizeLine) (hdf : d.params.defaults = []) (room : Room k callerA) (hY : ∀ (w : World) (h : Heap), YP w h → (K w.params).In h ∧ SysOn h)
    (F : ∀ (w : World) (mg : Str → Option Value) (fa : Addr) (h : Heap), (K w.params).In h → h.Ns mainGlobals mg → mg d.name = some (.ref fa) →
      ∃ fd : FuncData, (∀ (s : Shared) (u : Value), BindsTo s fd ⟨[u], []⟩ [(x, u)]) ∧ ∀ base : Heap, SysOn base → (K w.params).In base → base.Ns mainGlobals mg → FnG l.prog w (K w.params) mg base k fa fd [x] (sp w))
    (promise : ∀ (w : World) (H : Hp) (a : Addr) (ns : List Int), ns.length ≤ n → SqL (K w.params) H a (ns.map V.int) → sp w [.ref a] H (fun v _ => v = .bl true) fun _ _ _ => False) :
    PySem.W.WalkO q loose XP YP l.row.toRowW d [] (fun f vs => PySem.call f vs) := by
  refine Att.attach_call hn hdf ?_
  intro w s₀ s₁ mg mb fa o pm cd doc a vs ns G Y _ _ _ named obj nums len gens
  obtain ⟨inK, o2, e2, n2⟩ := hY w _ Y
  obtain ⟨fd, binds, hF⟩ := F w mg fa _ inK G.T.g named
  exact called inK G.T.g G.T.b G.T.builtins G.T.nolimit gens obj nums (Nat.le_trans len hn2) room (fun base kb nb old => hF base ⟨o2, old _ _ e2 n2, n2⟩ kb nb) binds fun H seq => promise w H a ns len seq
end Br

/-! BrMS: an instance whose making may raise; len and == by the own methods; lists taken apart, repeated, turned round. -/
namespace Br
open PySem PySem.Spec PyProof.Rows L2
/-- C(e, ..) where __init__ may raise -/
def tMakeS (C : Addr) (sp : Sp) (E : L2.St → XK) (t : TA) : TE := fun σ H Q => t σ H fun vs H1 => ∀ x dx, H1 x = none → H1 dx = none → dx ≠ x →
  sp (.ref x :: vs) (upd (upd H1 dx (.own x)) x (.ins C dx [])) (fun v H2 => v = .non ∧ Q (.ref x) H2) (E σ)
section
variable {X : Cx} {CX : CXT} {k : Nat} {C f : Addr} {fd : FuncData} {ps : List Str} {sp : Sp} {E : L2.St → XK} {x : Str} {p pos : Pos} {e : Expr} {es : List Expr} {t : TA}
theorem run_makeS {pins : List (Addr × Obj)} {σ : L2.St} {H : Hp} {s : Shared} {Q : VK} {us : List Value} {vs : List V} (M : Mk X.K C f) (F : FnOk X.prog X.w X.K X.mg X.base CX k f fd ps sp) (hr : Room (k + 1) X.A) (hb : Binds X.K fd ps []) (hx : PassesAt CX X σ (E σ)) (I : Inv X pins σ H s) (r : Vals vs us)
    (h : ∀ x dx, H x = none → H dx = none → dx ≠ x → sp (.ref x :: vs) (upd (upd H dx (.own x)) x (.ins C dx [])) (fun v H2 => v = .non ∧ Q (.ref x) H2) (E σ)) : wpAny (model X.prog X.w) X.A (call (.ref C) us) (EP X pins σ Q) X.xe s := by
  have hq := h (s.heap.objs.size + 1) s.heap.objs.size (I.hok.fresh (Nat.le_succ _)) (I.hok.fresh (Nat.le_refl _)) (Nat.ne_of_lt (Nat.lt_succ_self _))
  have J := Inv.made (C := C) I
  have rs : Vals (V.ref (s.heap.objs.size + 1) :: vs) (Value.ref (s.heap.objs.size + 1) :: us) := .cons rfl r
  have many := rs.length
  rw [F.len _ _ _ _ hq] at many
  have rs2 : Vals (V.ref (s.heap.objs.size + 1) :: vs) (Value.ref (s.heap.objs.size + 1) :: us ++ []) := by rw [List.append_nil]; exact rs
  refine wpAny_call (make_map (f := f) I.kIn M.makes M.init (beq_iff_eq.mp M.fn) (codeAny_mono (F.run _ X.stack _ _ ⟨Value.ref (s.heap.objs.size + 1) :: us, []⟩ _ _ _ (E σ) (hr.make C us []) (J.env0.make C us []) (hb _ (Value.ref (s.heap.objs.size + 1) :: us) J.kIn (by rw [List.append_nil]; exact many.symm)) rs2 hq) fun r s' back => ?_))
  cases r with
  | error er => exact hx pins _ _ er s' J back
  | ok fl =>
    cases fl with
    | ret u =>
      obtain ⟨v, H', J', rv, rfl, q⟩ := J.after back
      exact ⟨rv, V.ref (s.heap.objs.size + 1), H', J', rfl, q⟩
    | next => exact False.elim back
    | brk => exact False.elim back
    | cont => exact False.elim back
theorem pe_makeS (M : Mk X.K C f) (F : FnOk X.prog X.w X.K X.mg X.base CX k f fd ps sp) (hr : Room (k + 1) X.A) (hg : Gl X x) (hm : X.mg x = some (.ref C)) (hb : Binds X.K fd ps []) (hx : ∀ σ, PassesAt CX X σ (E σ))
    (ha : PA X (e :: es) t) (hdb : (x == ("__debug__" : Str)) = false := by decide) (h1 : starEach (e :: es) X.env = (false, eval e X.env) :: starEach es X.env := by rfl) (h2 : (backTo pos (starEach es X.env)).any (·.1) = false := by rfl) :
    PE X (.Call (.Name x p) (e :: es) [] pos) (tMakeS C sp E t) :=
  ⟨fun pins s σ H Q I h => wpAny_Call_Name_kw (ld_glob I hg hm (PySem.W.callWith_K (h₀ := X.base) I.ok.mod.kin M.kp (thn (ha.run pos pins _ σ H _ (I.tok _) h) fun us s1 ⟨vs, H1, I1, r, q⟩ => ⟨I1.kIn, run_makeS M F hr hb (hx σ) I1 r q⟩) h1 h2) hdb)⟩
end
section
variable {K : PySem.W.Frag} {X : Xc} {S : Sa} {Q : Sv → Os → Prop} {t : TA}
theorem ew_makeS {C : Addr} {f : FD} {wx : WX} {xe : Addr → List (Str × D) → Sa → Prop}
    (h : AW K ⟨wx, xe⟩ t S fun ds os => f (.o os.length :: ds) (os ++ [.mi C []]) (fun d os' => d = .non ∧ ∃ os2 fds, os' = os2 ++ [.mi C fds] ∧ Q (.d (.ob C fds)) os2) fun C' fds os' => ∃ os2 ob, os' = os2 ++ [ob] ∧ xe C' fds ⟨S.s, os2⟩) : EW K ⟨wx, xe⟩ (tMakeS C (spD K f) (WE wx) t) S Q := fun as H σ Q' R x k =>
  h as H σ _ R x fun vs H1 ds os1 g1 R1 r1 q1 x0 dx hx hdx hne => by
    have R2 := ro_addI (C := C) R1 hx hdx hne
    have g2 : Go as H1 (upd (upd H1 dx (.own x0)) x0 (.ins C dx [])) := (Go.new hdx).trans (Go.new (by rw [upd_ne (Ne.symm hne)]; exact hx))
    have s2 : Stp as H1 (as ++ [x0]) (upd (upd H1 dx (.own x0)) x0 (.ins C dx [])) := ⟨⟨[x0], rfl, fun a ha => by rw [List.mem_singleton.mp ha]; exact hx⟩, g2, fun a ha => by
      by_cases e1 : a = x0
      · rw [e1]; exact hx
      · rw [upd_ne e1] at ha
        by_cases e2 : a = dx
        · rw [e2]; exact hdx
        · rw [upd_ne e2] at ha
          exact ha⟩
    have rs : ∀ {us : List V} {es : List Sv}, SvA K as H1 us es → SvA K (as ++ [x0]) (upd (upd H1 dx (.own x0)) x0 (.ins C dx [])) us es := fun {us es} r => by
      induction r with
      | nil => exact .nil
      | cons h _ ih => exact .cons (h.stp s2) ih
    have back : ∀ {H' : Hp}, Go (as ++ [x0]) (upd (upd H1 dx (.own x0)) x0 (.ins C dx [])) H' → Go as H1 H' := fun {H'} g3 a o e n => g3 a o (g2 a o e n) fun z => by
      rcases List.mem_append.mp z with z | z
      · exact n z
      · rw [List.mem_singleton.mp z, hx] at e
        cases e
    refine ⟨as ++ [x0], os1 ++ [.mi C []], .o os1.length :: ds, _, _, R2, .cons ⟨x0, by rw [← R1.len]; simp, rfl⟩ (rs r1), q1, fun v H' d os' g3 R3 r3 ⟨ed, os2, fds, eo, q⟩ => ?_, fun C' dd H' fs fds os' g3 R3 nd ed rf ⟨os2, ob, eo, q⟩ => ?_⟩
    · subst ed
      subst eo
      cases r3
      obtain ⟨Rf, ⟨dx', vs', h1, h2, h3, h4⟩, nin⟩ := ro_drop R3
      exact ⟨rfl, k (.ref x0) H' (.d (.ob C fds)) os2 (g1.trans (back g3)) Rf (Dx.ob nin h2 h1 h3 h4) q⟩
    · subst eo
      obtain ⟨Rf, _, nin⟩ := ro_drop R3
      have g5 := back g3
      have sub : ∀ a ∈ as, a ∈ as ++ [x0] := fun a ha => List.mem_append_left _ ha
      have n1 : H1 dd = none := by
        by_cases e1 : dd = x0
        · rw [e1]; exact hx
        · rw [upd_ne e1] at nd
          by_cases e2 : dd = dx
          · rw [e2]; exact hdx
          · rw [upd_ne e2] at nd
            exact nd
      exact x H' C' dd fs fds os2 (g1.trans g5) Rf (g1.free (R1.notin n1) n1) ed (rf.way (Way.of_sub sub)) q
end
/-! ### len and == by the own methods -/
/-- the class at C, without a base, with an own __len__ -/
structure LnC (K : PySem.W.Frag) (C f : Addr) : Prop where
  cls : ∃ nm q N bs hdct sn sub ab col dd k0 k1 k2 k3 k5 newId, K.lookup C = some (excClassObj nm q C N bs [.type "object"] hdct sn sub ab col dd k0 k1 k2 k3 k5 newId) ∧
    (∃ oc od es ep sl, K.lookup N = some ⟨oc, od, .dict es ep, sl⟩ ∧ strKeysB es = true) ∧ PySem.W.nsIn K N "__len__" = some (some (.ref f))
theorem obj_len : typeLookup (.type "object") "__len__" = pure none := by
  rw [typeLookup_type, builtinLookup_eq_fast]
  kernel_rfl
/-- len(x), x of the class at C -/
def rLenI (C : Addr) (sp : Sp) : List V → Hp → VK → Prop := fun xs H Q => ∃ a dx fs, xs = [.ref a] ∧ H a = some (.ins C dx fs) ∧ sp [.ref a] H (fun v H' => ∃ n : Nat, v = .int (n : Int) ∧ n < 2 ^ 63 ∧ Q (.int (n : Int)) H') fun _ _ _ => False
section
variable {X : Cx} {C f : Addr} {fd : FuncData} {k : Nat} {sp : Sp}
theorem call_lenI (T : LnC X.K C f) (tf : PySem.W.typeIn X.K (.ref f) = some (.type "function")) (G : FnOk X.prog X.w X.K X.mg X.base CX0 k f fd ["self"] sp) (hb : Binds X.K fd ["self"] []) (hr : Room (k + 1) X.A) : CallR X (.builtin "len") (rLenI C sp) := by
  intro pins s σ H xs us Q I r h
  obtain ⟨a, dx, fs, rfl, ha, hs⟩ := h
  obtain ⟨u, rfl, rx⟩ := vals1 r
  cases (show u = Value.ref a from rx)
  obtain ⟨mA, J, _⟩ := ins_get I.hok ha
  obtain ⟨oa, Ja, _⟩ := J.look
  obtain ⟨nm, q, N, bs, hdct, sn, sub, ab, col, dd, k0, k1, k2, k3, k5, newId, hC, ⟨oc, od, es, ep, sl, hN, hk⟩, hq⟩ := T.cls
  obtain ⟨of, hof, hft⟩ := Option.map_eq_some_iff.mp (show (X.K.lookup f).map (·.cls) = some (.type "function") from tf)
  have hn : s.heap.Ns N (nsFind es) := ⟨_, es, ep, I.kIn _ _ hN, rfl, strKeys_of hk, fun _ => rfl⟩
  have e0 : Env0 X.prog X.w X.K X.mg X.base X.A.in1 X.stack s H := by
    have e := I.env0
    exact ⟨e.frames, e.mod, e.bs, e.bsz, e.funs, e.frf, e.hok, e.bare⟩
  obtain ⟨hp, g, d, tk, os⟩ := s
  obtain ⟨ea, ca, _, _⟩ := Ja
  have XX : hp.OwnSpecial a C f "object" "__len__" := ⟨_, of, nm, q, N, bs, [.type "object"], hdct, sn, sub, ab, col, dd, k0, k1, k2, k3, k5, newId, nsFind es, _, ea, ca, I.kIn _ _ hC, hn, ns_find hN hq, I.kIn _ _ hof, hft, F.cmp_object.mro, obj_len⟩
  refine len_own XX (wpAny_call (codeAny_mono (G.run X.A.in1 X.stack ⟨hp, g, d, tk, os⟩ H ⟨[.ref a], []⟩ [.ref a] [.ref a] _ _ hr.in1 e0 (by
    have z := hb ⟨hp, g, d, tk, os⟩ [.ref a] I.kIn rfl
    simpa using z) (.cons rfl .nil) hs) fun r s' back => ?_))
  cases r with
  | error e => exact back.elim
  | ok fl =>
    cases fl with
    | ret w =>
      obtain ⟨z, H', J', rz, n, rfl, hlt, q2⟩ := I.after back
      obtain ⟨t, rfl⟩ := (show ∃ t, w = Value.int (n : Int) t from rz)
      exact ⟨(n : Int), t, rfl, by omega, by omega, .int (n : Int), H', J'.tok _, ⟨_, rfl⟩, q2⟩
    | next => exact False.elim back
    | brk => exact False.elim back
    | cont => exact False.elim back
/-- x == y by the own ==, y a tuple -/
def rEqIT (K : PySem.W.Frag) (C : Addr) (sp : Sp) : R2 := fun x y H Q => ∃ a b dx fs ys, x = .ref a ∧ y = .ref b ∧ H a = some (.ins C dx fs) ∧ SqT K H b ys ∧ sp [.ref a, .ref b] H (fun v H' => ∃ r, v = .bl r ∧ Q (.bl r) H') fun _ _ _ => False
theorem op_eqIT (hs : PySem.W.findIn X.K (.ref C) "__eq__" = some (some (.ref f))) (tf : PySem.W.isFn X.K (.ref f) = true) (hno : PySem.W.notFirst X.K C (.type "tuple") = true) (G : FnOk X.prog X.w X.K X.mg X.base CX0 k f fd ["self", "other"] sp) (hb : Binds X.K fd ["self", "other"] []) (hr : Room (k + 1) X.A) :
    OpR X (compareOp .Eq) (rEqIT X.K C sp) := by
  intro pins s σ H x y v u Q I rx ry h
  obtain ⟨a, b, dx, fs, ys, rfl, rfl, ha, hys, hsp⟩ := h
  cases (show v = Value.ref a from rx)
  cases (show u = Value.ref b from ry)
  obtain ⟨mA, J, _⟩ := ins_get I.hok ha
  obtain ⟨oa, Ja, _⟩ := J.look
  obtain ⟨its, rv, ⟨ob, hob, hoc, _, _⟩, _⟩ := I.tuple hys
  obtain ⟨m, fr⟩ := I.fr
  have hu : X.A.units < cLine := by
    have := hr.un
    omega
  have LT : PySem.W.Looks (model X.prog X.w) s.heap (typeOf (.ref b)) (.type "tuple") := fun A Q E s k q => wpAny_typeOf_ref (k _ _ hob) (by rw [hoc]; exact q)
  refine PySem.W.cmp_ofEq (PySem.W.cmp_K hu fr I.ok.mod.kin Ja LT hno hs tf (wpAny_call (codeAny_mono (G.run X.A X.stack s H ⟨[.ref a, .ref b], []⟩ [.ref a, .ref b] [.ref a, .ref b] _ _ (hr.mono (Nat.le_succ _)) I.env0 (by
    have z := hb s [.ref a, .ref b] I.kIn rfl
    simpa using z) (.cons rfl (.cons rfl .nil)) hsp) fun r s' back => ?_)))
  cases r with
  | error e => exact back.elim
  | ok fl =>
    cases fl with
    | ret w =>
      obtain ⟨z, H', J', rz, c, ez, q2⟩ := I.after back
      subst ez
      cases rz
      exact ⟨.bl c, H', J', rfl, q2⟩
    | next => exact False.elim back
    | brk => exact False.elim back
    | cont => exact False.elim back
end
/-! ### taken apart: a tuple or a list -/
def gTL (K : PySem.W.Frag) (n : Nat) (t : TGs) : TG := fun v σ H Q => gTup K n t v σ H Q ∨ gLst K n t v σ H Q
theorem pg_tl {X : Cx} {pos : Pos} {es : List Expr} {k : Nat} {t : TGs} {n : Nat} (hc : X.calm = true) (h : PGs X es t) (hn : (assignEach es X.env).length = n := by rfl) (hst : (assignEach es X.env).findIdx? (·.1) = none := by rfl) : PG X (.Tuple es k pos) (gTL X.K n t) :=
  ⟨fun pins s σ H v u Q I r hw => hw.elim (fun z => (pg_tup hc h hn hst).run pins s σ H v u Q I r z) fun z => (pg_lst hc h hn hst).run pins s σ H v u Q I r z⟩
section
variable {K : PySem.W.Frag} {X : Xc} {S : Sa} {os : Os} {Q : Sv → Os → Prop} {te : TE} {ta : TA}
theorem gw_tl {gs : TGs} {n : Nat} {xs : List D} {d : D} {Q : Sa → Prop} (hd : d = .tup xs ∨ d = .lst xs) (hn : xs.length = n) (h : GsW K gs xs S Q) : GW K (gTL K n gs) (.d d) S Q := fun as H σ v Q' R r k => by
  rcases hd with rfl | rfl
  · cases r with
    | tup hl hr => exact .inl ⟨_, _, rfl, hl.sq, by rw [hr.length]; exact hn, h as H σ _ Q' R hr k⟩
  · cases r with
    | lst hl hr => exact .inr ⟨_, _, rfl, hl.sq, by rw [hr.length]; exact hn, h as H σ _ Q' R hr k⟩
/-- len by the own method -/
theorem cw_lenI {C : Addr} {f : FD} {fs : List (Str × D)} (h : f [.d (.ob C fs)] os (fun d os' => ∃ n : Nat, d = .int (n : Int) ∧ n < 2 ^ 63 ∧ Q (.d (.int (n : Int))) os') fun _ _ _ => False) : CW K (rLenI C (spD K f)) [.d (.ob C fs)] os Q := fun as H vs Q' R rx k => by
  cases rx with
  | cons r t =>
    cases t
    have r' : Dx K as H _ (.ob C fs) := r
    cases r' with
    | ob n1 n2 h1 h2 hr =>
      refine ⟨_, _, _, rfl, h1, as, os, [.d (.ob C fs)], _, _, R, .cons (show SvR K as H _ (.d (.ob C fs)) from Dx.ob n1 n2 h1 h2 hr) .nil, h, fun v H' d os' g R' r' ⟨n, ed, hl, q⟩ => ?_, fun _ _ _ _ _ _ _ _ _ _ _ z => z.elim⟩
      subst ed
      cases r'
      exact ⟨n, rfl, hl, k _ _ (.d (.int (n : Int))) os' g R' (Dx.int _) q⟩
/-- == by the own method, to a tuple -/
theorem bw_eqIT {C : Addr} {f : FD} {fs : List (Str × D)} {ys : List D} (h : f [.d (.ob C fs), .d (.tup ys)] os (fun d os' => ∃ r, d = .bl r ∧ Q (.d (.bl r)) os') fun _ _ _ => False) : BW K (rEqIT K C (spD K f)) (.d (.ob C fs)) (.d (.tup ys)) os Q := fun as H v u Q' R rx ry k => by
  have rx' : Dx K as H v (.ob C fs) := rx
  have ry' : Dx K as H u (.tup ys) := ry
  cases rx' with
  | ob n1 n2 h1 h2 hr =>
    cases ry' with
    | tup hl ht =>
      refine ⟨_, _, _, _, _, rfl, rfl, h1, hl.sq, as, os, [.d (.ob C fs), .d (.tup ys)], _, _, R, .cons (show SvR K as H _ (.d (.ob C fs)) from Dx.ob n1 n2 h1 h2 hr) (.cons (show SvR K as H _ (.d (.tup ys)) from Dx.tup hl ht) .nil), h, fun v H' d os' g R' r' ⟨c, ed, q⟩ => ?_, fun _ _ _ _ _ _ _ _ _ _ _ z => z.elim⟩
      subst ed
      cases r'
      exact ⟨c, rfl, k _ _ (.d (.bl c)) os' g R' (Dx.bl _) q⟩
/-- [e, ..] * i -/
theorem ew_repL {i : Int} (h : AW K X ta S fun xs os => ∃ ds, unD xs = some ds ∧ ds.length ≤ sizeLine ∧ (0 ≤ i ∧ i < 2 ^ 63) ∧ ds.length * i.toNat ≤ sizeLine ∧ Q (.d (.lst (List.replicate i.toNat ds).flatten)) os) : EW K X (tOp rRep (tLst ta) (tC (.int i))) S Q := fun as H σ Q' R x k =>
  h as H σ _ R x fun vs H1 xs os1 g1 R1 r1 ⟨ds, e, hl, hi, hz, q⟩ => by
    have hd := (unD_all e).dx r1
    refine ⟨by rw [hd.length]; exact hl, fun p hp => ⟨p, i, vs, rfl, rfl, upd_same, by omega, by omega, by rw [hd.length]; exact hz, fun p2 hp2 => ?_⟩⟩
    have hne : p2 ≠ p := fun z => by
      rw [z, upd_same] at hp2
      cases hp2
    rw [upd_ne hne] at hp2
    have g2 : Go as H1 (upd H1 p (.lst vs)) := Go.new hp
    have R2 : Ro K as (upd H1 p (.lst vs)) os1 := R1.new hp
    have hp3 : upd H1 p (.lst vs) p2 = none := by rw [upd_ne hne]; exact hp2
    have rep : ∀ n : Nat, DxA K as (upd H1 p (.lst vs)) (List.replicate n vs).flatten (List.replicate n ds).flatten := fun n => by
      induction n with
      | zero => exact .nil
      | succ n ih =>
        rw [List.replicate_succ, List.replicate_succ, List.flatten_cons, List.flatten_cons]
        exact (hd.way (Way.of_go g2)).app ih
    exact k (.ref p2) _ (.d (.lst (List.replicate i.toNat ds).flatten)) os1 ((g1.trans g2).trans (Go.new hp3)) (R2.new hp3) (dx_newL R2 hp3 (rep _)) q
theorem ew_revL (h : EW K X te S fun x os => ∃ xs, x = .d (.lst xs) ∧ Q (.d (.lst xs.reverse)) os) : EW K X (tRevL K te) S Q := fun as H σ Q' R x k =>
  h as H σ _ R x fun v H1 d os1 g1 R1 r1 ⟨xs, e, q⟩ => by
    subst e
    cases r1 with
    | lst hl hr => exact ⟨_, _, rfl, hl.sq, fun p hp => k (.ref p) _ (.d (.lst xs.reverse)) os1 (g1.trans (Go.new hp)) (R1.new hp) (dx_newL R1 hp hr.rev) q⟩
/-- a list of the store, put ahead of a list -/
theorem bw_catO {j : Nat} {xs ys : List D} (e : os[j]? = some (.ml xs)) (hl : xs.length + ys.length ≤ sizeLine) (q : Q (.d (.lst (xs ++ ys))) os) : BW K (rCatL K) (.o j) (.d (.lst ys)) os Q := fun as H v u Q' R rx ry k => by
  obtain ⟨a, ws, rfl, hs, hr⟩ := o_list R rx e
  have ry' : Dx K as H u (.lst ys) := ry
  cases ry' with
  | lst h3 h4 => exact ⟨_, _, _, _, rfl, rfl, hs, h3.sq, by rw [hr.length, h4.length]; exact hl, fun p hp => k (.ref p) _ (.d (.lst (xs ++ ys))) os (Go.new hp) (R.new hp) (dx_newL R hp (hr.app h4)) q⟩
theorem bw_neB {a b : Bool} (q : Q (.d (.bl (!decide (a = b)))) os) : BW K rNe (.d (.bl a)) (.d (.bl b)) os Q :=
  bw_pure (fun as H v u Q' R rx ry k => by
    cases rx
    cases ry
    have e : decide (V.bl a = V.bl b) = decide (a = b) := by simp
    exact ⟨rfl, by rw [e]; exact k _ (.bl _)⟩) q
end
end Br

/-! BrCG: calls of defs that stand at the law's own guards; an instance made by names alone; isinstance of an own class over plain things. -/
namespace Br
open PySem PySem.Spec PyProof.Rows L2
section
variable {X : Cx} {k : Nat} {f : Addr} {fd : FuncData} {ps : List Str} {sp : Sp} {x : Str} {p pos : Pos} {e : Expr} {es : List Expr} {t : TA}
theorem run_fnG {pins : List (Addr × Obj)} {σ : L2.St} {H : Hp} {s : Shared} {Q : VK} {us : List Value} {vs : List V} (F : FnG X.prog X.w X.K X.mg X.base k f fd ps sp) (hgd : X.A.guards = some []) (hr : Room k X.A) (hb : Binds X.K fd ps []) (I : Inv X pins σ H s) (r : Vals vs us) (h : sp vs H Q E0) :
    wpAny (model X.prog X.w) X.A (call (.ref f) us) (EP X pins σ Q) X.xe s := by
  have many := r.length
  rw [F.len _ _ _ _ h] at many
  refine wpAny_call (codeAny_mono (F.run X.A X.stack s H ⟨us, []⟩ us vs Q _ hgd hr I.env0 (by
    have z := hb s us I.kIn (by simpa using many.symm)
    simpa using z) r h) fun r s' back => ?_)
  cases r with
  | error e => exact back.elim
  | ok fl =>
    cases fl with
    | ret w =>
      obtain ⟨z, H', J', rz, q2⟩ := I.after back
      exact ⟨z, H', J', rz, q2⟩
    | next => exact False.elim back
    | brk => exact False.elim back
    | cont => exact False.elim back
theorem pe_callG (F : FnG X.prog X.w X.K X.mg X.base k f fd ps sp) (hgd : X.A.guards = some []) (hr : Room k X.A) (hg : Gl X x) (hm : X.mg x = some (.ref f)) (hk : PySem.W.keepIn X.K (.ref f) = true) (hb : Binds X.K fd ps []) (ha : PA X (e :: es) t)
    (hdb : (x == ("__debug__" : Str)) = false := by decide) (h1 : starEach (e :: es) X.env = (false, eval e X.env) :: starEach es X.env := by rfl) (h2 : (backTo pos (starEach es X.env)).any (·.1) = false := by rfl) :
    PE X (.Call (.Name x p) (e :: es) [] pos) (tCall sp [] E0 t) :=
  ⟨fun pins s σ H Q I h => wpAny_Call_Name_kw (ld_glob I hg hm (PySem.W.callWith_K (h₀ := X.base) I.ok.mod.kin hk (thn (ha.run pos pins _ σ H _ (I.tok _) h) fun us s1 ⟨vs, H1, I1, r, q⟩ => ⟨I1.kIn, run_fnG F hgd hr hb I1 r (by have q2 : sp (vs ++ []) H1 Q E0 := q; rw [List.append_nil] at q2; exact q2)⟩) h1 h2) hdb)⟩
end
section
variable {K : PySem.W.Frag} {X : Xc} {S : Sa} {Q : Sv → Os → Prop} {te : TE} {tk : TA}
theorem ew_makeK {m : Nat} {C : Addr} {f : FD} {gV : List V → List V → List V} {gS : List Sv → List Sv → List Sv} {E : XK} (hg : ∀ as H vs zs ds es, SvA K as H vs ds → SvA K as H zs es → SvA K as H (gV vs zs) (gS ds es))
    (h : AW K X tk S fun es os => es.length = m ∧ f (gS [.o os.length] es) (os ++ [.mi C []]) (fun d os' => d = .non ∧ ∃ os2 fds, os' = os2 ++ [.mi C fds] ∧ Q (.d (.ob C fds)) os2) fun _ _ _ => False) : EW K X (tMakeK C 0 m (spD K f) gV E tNil tk) S Q := fun as H σ Q' R x k =>
  h as H σ _ R x fun zs H1 es os1 g1 R1 r1 ⟨l1, q1⟩ => ⟨rfl, by rw [r1.length]; exact l1, fun x0 dx hx hdx hne => by
    have R2 := ro_addI (C := C) R1 hx hdx hne
    have g2 : Go as H1 (upd (upd H1 dx (.own x0)) x0 (.ins C dx [])) := (Go.new hdx).trans (Go.new (by rw [upd_ne (Ne.symm hne)]; exact hx))
    have s2 : Stp as H1 (as ++ [x0]) (upd (upd H1 dx (.own x0)) x0 (.ins C dx [])) := ⟨⟨[x0], rfl, fun a ha => by rw [List.mem_singleton.mp ha]; exact hx⟩, g2, fun a ha => by
      by_cases e1 : a = x0
      · rw [e1]; exact hx
      · rw [upd_ne e1] at ha
        by_cases e2 : a = dx
        · rw [e2]; exact hdx
        · rw [upd_ne e2] at ha
          exact ha⟩
    have rs : ∀ {us : List V} {es : List Sv}, SvA K as H1 us es → SvA K (as ++ [x0]) (upd (upd H1 dx (.own x0)) x0 (.ins C dx [])) us es := fun {us es} r => by
      induction r with
      | nil => exact .nil
      | cons h _ ih => exact .cons (h.stp s2) ih
    refine ⟨as ++ [x0], os1 ++ [.mi C []], gS [.o os1.length] es, _, _, R2, hg _ _ _ _ _ _ (.cons ⟨x0, by rw [← R1.len]; simp, rfl⟩ .nil) (rs r1), q1, fun v H' d os' g3 R3 r3 ⟨ed, os2, fds, eo, q⟩ => ?_, fun _ _ _ _ _ _ _ _ _ _ _ z => z.elim⟩
    subst ed
    subst eo
    cases r3
    obtain ⟨Rf, ⟨dx', vs', h1, h2, h3, h4⟩, nin⟩ := ro_drop R3
    have g5 : Go as H1 H' := fun a o e n => g3 a o (g2 a o e n) fun z => by
      rcases List.mem_append.mp z with z | z
      · exact n z
      · rw [List.mem_singleton.mp z, hx] at e
        cases e
    exact ⟨rfl, k (.ref x0) H' (.d (.ob C fds)) os2 (g1.trans g5) Rf (Dx.ob nin h2 h1 h3 h4) q⟩⟩
/-- isinstance(x, C) of a plain thing -/
theorem ew_isiP {C : Addr} (h : EW K X te S fun x os => ∃ d a r, x = .d d ∧ d.ty = some a ∧ PySem.W.kitOne K (.type a) (.ref C) = some r ∧ Q (.d (.bl r)) os) : EW K X (tCB (rIsi K) (tCons te (tCons (tC (.ref C)) tNil))) S Q := fun as H σ Q' R x k =>
  h as H σ _ R x fun v H1 d os1 g1 R1 r1 ⟨e, a, r, ed, ea, er, q⟩ => by
    subst ed
    exact ⟨v, .ref C, .type a, .ref C, r, rfl, .own C, dx_ty r1 ea, er, k (.bl r) H1 (.d (.bl r)) os1 g1 R1 (Dx.bl r) q⟩
end
end Br

/-! BrEO: enumerate over a list of the store, isinstance of it among two types, x = list(t) as a list of the store. -/
namespace Br
open PySem PySem.Spec PyProof.Rows L2
section
variable {K : PySem.W.Frag} {X : Xc} {S : Sa} {E : Ea} {te : TE} {tl : TA}
/-- for .. in enumerate(a list of the store that stays as it is) -/
theorem w_forEnO {g : TG} {tb : TS} (h : AW K X tl S fun xs os => ∃ j ds, xs = [.o j] ∧ os[j]? = some (.ml ds) ∧ ∃ Pv : Nat → Sa → Prop, Pv 0 ⟨S.s, os⟩ ∧ (∀ i S', Pv i S' → S'.os[j]? = some (.ml ds)) ∧
      (∀ i d S', ds[i]? = some d → Pv i S' → GW K g (.d (.tup [.int (i : Nat), d])) S' (W K X tb { nx := Pv (i + 1), ct := Pv (i + 1), bk := E.nx, rt := E.rt })) ∧ ∀ S', Pv ds.length S' → E.nx S') : W K X (tFor (iEn K tl) g tb) E S := fun as H σ D R x n r b c =>
  h as H σ _ R (x.h R) fun vs0 H1 xs0 os1 g1 R1 r1 ⟨j, ds, ed, eo, Pv, p0, stay, turn, fin⟩ => by
    subst ed
    cases r1 with
    | cons r1 rn =>
    cases rn
    obtain ⟨a, ea, rfl⟩ := r1
    have s1 : Stp as H as H1 := Stp.of_go g1 R1
    have seq : ∀ {bs H2 os2}, Stp as H1 bs H2 → Ro K bs H2 os2 → os2[j]? = some (.ml ds) → ∃ vs, H2 a = some (.lst vs) ∧ DxA K bs H2 vs ds := fun {bs H2 os2} s R2 e => by
      obtain ⟨nw, eb, _⟩ := s.pre
      have ha : bs[j]? = some a := by rw [eb, List.getElem?_append_left (List.getElem?_eq_some_iff.mp ea).1]; exact ea
      obtain ⟨vs, h1, h2⟩ := R2.own j a _ ha e
      exact ⟨vs, h1, h2⟩
    obtain ⟨ws, hw, _⟩ := seq Stp.refl R1 eo
    refine ⟨a, ws, rfl, .inl ⟨.inl (.inl hw), fun i m σ H2 => m = ds.length - i ∧ i ≤ ds.length ∧ ∃ bs S', Stp as H1 bs H2 ∧ Re K bs H2 σ S' ∧ Pv i S', ⟨_, rfl, Nat.zero_le _, as, _, Stp.refl, R.go g1 R1, p0⟩, ?_⟩⟩
    rintro i m σ2 H2 ⟨rfl, hi, bs, S2, s2, R2, p⟩
    obtain ⟨vs, h1, h2⟩ := seq s2 R2.o (stay i S2 p)
    by_cases hlt : i < ds.length
    · have hd : ds[i]? = some ds[i] := List.getElem?_eq_getElem hlt
      obtain ⟨u, e1, e2⟩ := h2.get hd
      refine .inr ⟨⟨vs, u, .inl (.inl h1), e1⟩, fun σ' H' => ∃ cs S', Stp as H1 cs H' ∧ Re K cs H' σ' S' ∧ Pv (i + 1) S', fun σ' H' z => ⟨ds.length - (i + 1), by omega, rfl, hlt, z⟩, fun y H3 hyl => ?_⟩
      obtain ⟨T, x2, rfl, hT, rfl, hy⟩ := hyl
      have z := hy vs (.inl (.inl h1))
      rw [e1] at z
      cases z
      have R3 := R2.o.new (o := .tup [.int (i : Nat), u]) hT
      have s3 : Stp bs H2 bs (upd H2 T (.tup [.int (i : Nat), u])) := Stp.of_go (Go.new hT) R3
      refine turn i _ S2 hd p bs _ σ2 _ _ (R2.go (Go.new hT) R3) (dx_newT R2.o hT (.cons (.int _) (.cons e2 .nil))) fun σ4 S4 R4 w => ?_
      refine w bs _ σ4 _ R4 ((x.stp s1).stp (s2.trans s3)) (fun cs H5 σ5 S5 s5 R5 q5 => ⟨cs, S5, (s2.trans s3).trans s5, R5, q5⟩) (fun cs H5 v d os5 s5 R5 r5 q5 => r cs H5 v d os5 (((s1.trans s2).trans s3).trans s5) R5 r5 q5)
        (fun cs H5 σ5 S5 s5 R5 q5 => n cs H5 σ5 S5 (((s1.trans s2).trans s3).trans s5) R5 q5) (fun cs H5 σ5 S5 s5 R5 q5 => ⟨cs, S5, (s2.trans s3).trans s5, R5, q5⟩)
    · have e : i = ds.length := by omega
      subst e
      exact .inl ⟨⟨vs, .inl (.inl h1), by rw [h2.length]; exact Nat.le_refl _⟩, n bs H2 σ2 S2 (s1.trans s2) R2 (fin S2 p)⟩
/-- x = list(a tuple or a list), a list that changes -/
theorem w_asgLo {i : Nat} (h : AW K X tl S fun xs os => ∃ ds, (xs = [.d (.tup ds)] ∨ xs = [.d (.lst ds)]) ∧ E.nx ⟨S.s.set i (some (.o os.length)), os ++ [.ml ds]⟩) : W K X (tAsg (tCB (rListOf K) tl) (gName i)) E S := fun as H σ D R x n r b c =>
  h as H σ _ R (x.h R) fun vs H1 xs os1 g1 R1 r1 ⟨ds, e, q⟩ => by
    have hv : ∃ a ws, vs = [.ref a] ∧ (SqL K H1 a ws ∨ SqT K H1 a ws) ∧ DxA K as H1 ws ds := by
      rcases e with rfl | rfl
      · cases r1 with
        | cons r1 rn =>
          cases rn
          cases (show Dx K as H1 _ (.tup ds) from r1) with
          | @tup a ws _ hl hr => exact ⟨a, ws, rfl, .inr hl.sq, hr⟩
      · cases r1 with
        | cons r1 rn =>
          cases rn
          cases (show Dx K as H1 _ (.lst ds) from r1) with
          | @lst a ws _ hl hr => exact ⟨a, ws, rfl, .inl hl.sq, hr⟩
    obtain ⟨a, ws, rfl, hs, hd⟩ := hv
    refine ⟨a, ws, rfl, hs, fun p hp => ?_⟩
    have R2 := ro_addL R1 hp hd
    have s2 : Stp as H1 (as ++ [p]) (upd H1 p (.lst ws)) := stp_add hp
    have sN := (Stp.of_go g1 R1).trans s2
    have RR : Re K (as ++ [p]) (upd H1 p (.lst ws)) σ ⟨S.s, os1 ++ [.ml ds]⟩ := ⟨R2, R.slen, fun j d hd => by
      obtain ⟨u, e, z⟩ := R.slot j d hd
      exact ⟨u, e, z.stp sN⟩⟩
    exact n _ _ _ _ sN (RR.set i (v := .ref p) (d := .o os1.length) ⟨p, by rw [← R1.len]; simp, rfl⟩) q
end
section
variable {K : PySem.W.Frag} {X : Xc} {S : Sa} {Q : Sv → Os → Prop} {te : TE}
theorem ew_isi2O {n1 n2 : String} (h : EW K X te S fun x os => ∃ j xs r, x = .o j ∧ os[j]? = some (.ml xs) ∧ PySem.W.kitAny K (.type "list") [.type n1, .type n2] = some r ∧ Q (.d (.bl r)) os) : EW K X (tCB (rIsiT K) (tCons te (tCons (tTup (tCons (tC (.ty n1)) (tCons (tC (.ty n2)) tNil))) tNil))) S Q := fun as H σ Q' R x k =>
  h as H σ _ R x fun v H1 d os1 g1 R1 r1 ⟨j, xs, r, ed, eo, er, q⟩ => by
    subst ed
    refine ⟨by show 2 ≤ sizeLine; decide, fun p hp => ?_⟩
    have g2 : Go as H1 (upd H1 p (.tup [.ty n1, .ty n2])) := Go.new hp
    have R2 := R1.new (o := .tup [.ty n1, .ty n2]) hp
    obtain ⟨a, ea, rfl⟩ := r1
    obtain ⟨vs, h1, h2⟩ := R2.own j a _ ea eo
    exact ⟨.ref a, p, [.ty n1, .ty n2], .type "list", [.type n1, .type n2], r, rfl, upd_same, .cons (.ty n1) (.cons (.ty n2) .nil), .base (.lst h1), er, k (.bl r) _ (.d (.bl r)) os1 (g1.trans g2) R2 (Dx.bl r) q⟩
end
end Br

/-! BrLm: a lambda handed to a def, its own names and the store known within. -/
namespace Br
open PySem PySem.Spec PyProof.Rows L2
/-! ### a lambda is made -/
/-- from H to H1: at most the table at P has grown, by the code object c1 -/
structure LamN (H H1 : Hp) (P c1 : Addr) (q : Str) : Prop where
  tab : LamX.TabS H1 P q
  ext : ∀ b o, b ≠ P → H b = some o → H1 b = some o
  th : ∀ b, H1 b = none → H b = none
  co : H1 c1 = some (LamX.CodeO c1 q)
section
variable {X : Cx} {pins : List (Addr × Obj)} {σ : L2.St} {H : Hp} {s : Shared}
theorem lam_new {c P : Addr} {params : Arguments} {body : Expr} {scope : Scope} {pos : Pos} {E Q : Value → Shared → Prop} (I : Inv X pins σ H s) (B : LamX.TabB X.base X.mg c P) (here : X.env.code = .ref c)
    (tab : LamX.TabS H P (X.env.qual ++ "<lambda>")) (noD : defaultsOf params X.env = ([], [])) (caught : ∀ y ∈ scope.names, y.2 = .free → ∃ c, X.env.cells.lookup y.1 = some c)
    (go : ∀ (f c1 : Addr) (pm ct : Value) (H1 : Hp) (s1 : Shared), Inv X pins σ H1 s1 → LamN H H1 P c1 (X.env.qual ++ "<lambda>") →
      s1.heap.get? f = some (PySem.W.kla_obj "<lambda>" (X.env.qual ++ "<lambda>") params body scope (cloFrom X.env.cells scope.names []) pm c1 ct) → H1 f = none → f ∉ frs X.stack → Q (.ref f) s1) :
    wpAny (model X.prog X.w) X.A (eval (.Lambda params body scope pos) X.env) Q E s := by
  obtain ⟨cells, atP, three, among⟩ := tab
  have onHeap : s.heap.get? P = some { cls := .none, data := .fields cells } := I.hok P _ atP
  have built : s.heap.BuiltinsAt X.mg P := B.bm.keeps I.bk
  have tall : ∀ f, s.heap.objs.size ≤ f → f ∉ frs X.stack := fun f le m => by
    cases List.mem_cons.mp (I.stkSub _ m) with
    | inl e =>
      have lt := I.lt
      rw [← e] at lt
      exact absurd (Nat.lt_of_lt_of_le lt le) (Nat.lt_irrefl _)
    | inr e => exact I.nofs le e
  apply PySem.W.kla_eval noD
  cases known : codeAmong pos cells.toList with
  | some cv =>
    obtain ⟨c1, ec, co⟩ := among pos cv known
    cases ec
    apply PySem.W.kla_makeFunctionHit (mg := X.mg) (c := c) (P := P) (ps := cells) (closure_ok caught) I.ok.glob (I.mod.glob.keeps I.bk) here (B.code.keeps I.bk) onHeap three known built
    intro ct h1 tk keeps size
    exact go h1.objs.size c1 _ ct H _ (I.kept fun b o e => Heap.get?_push_of_some _ (keeps b o e)) ⟨⟨cells, atP, three, among⟩, fun _ _ _ e => e, fun _ e => e, co⟩ (Heap.get?_push_size _ rfl) (I.hok.fresh size) (tall _ size)
  | none =>
    apply PySem.W.kla_makeFunction (mg := X.mg) (c := c) (P := P) (ps := cells) (closure_ok caught) I.ok.glob (I.mod.glob.keeps I.bk) here (B.code.keeps I.bk) onHeap three known B.gP built
    intro c1 ct h1 tk keeps le lt rec atP1
    obtain ⟨c2, oc, vs, t, e2, atc, dc, named⟩ := rec
    cases e2
    have size : s.heap.objs.size ≤ h1.objs.size := by omega
    have free : H c1 = none := I.hok.fresh le
    have ne : P ≠ c1 := ne_of_none atP free
    have J := LamX.inv_table (t' := tk) (more := #[rawInt pos.line, rawInt pos.col, .ref c1]) (h' := h1.push (PySem.W.kla_obj "<lambda>" (X.env.qual ++ "<lambda>") params body scope (cloFrom X.env.cells scope.names []) ((X.mg "__name__").getD .none) c1 ct)) I atP
      (fun b o n e => Heap.get?_push_of_some _ (keeps b o n e)) (Heap.get?_push_of_some _ atP1) le ⟨oc, vs, t, Heap.get?_push_of_some _ atc, dc, named⟩
    have old : ∀ b o, b ≠ P → H b = some o → upd (upd H P (.tbl (cells ++ #[rawInt pos.line, rawInt pos.col, .ref c1]))) c1 (LamX.CodeO c1 (X.env.qual ++ "<lambda>")) b = some o := fun b o n e => by
      rw [upd_ne (ne_of_none e free), upd_ne n]
      exact e
    have notP : ∀ c0, H c0 = some (LamX.CodeO c0 (X.env.qual ++ "<lambda>")) → c0 ≠ P := fun c0 e z => by
      rw [z, atP] at e
      exact LamX.codeO_ne _ (Option.some.inj e).symm
    refine go h1.objs.size c1 _ ct _ _ J ⟨⟨cells ++ #[rawInt pos.line, rawInt pos.col, .ref c1], ?_, ?_, ?_⟩, old, ?_, upd_same⟩ (Heap.get?_push_size _ rfl) ?_ (tall _ size)
    · rw [upd_ne ne, upd_same]
    · rw [Array.toList_append]
      exact PySem.TriplesOk_snoc _ _ _ _ three
    · intro p1 cv found
      rw [Array.toList_append] at found
      rcases LamX.among_app _ three found with z | z
      · obtain ⟨c0, e1, e2⟩ := among p1 cv z
        exact ⟨c0, e1, old _ _ (notP _ e2) e2⟩
      · exact ⟨c1, z, upd_same⟩
    · intro b e
      by_cases e1 : b = c1
      · rw [e1]
        exact free
      · rw [upd_ne e1] at e
        by_cases e2 : b = P
        · rw [e2, upd_same] at e
          cases e
        · rw [upd_ne e2] at e
          exact e
    · rw [upd_ne (show h1.objs.size ≠ c1 by omega), upd_ne (show h1.objs.size ≠ P from Nat.ne_of_gt (Nat.lt_of_lt_of_le (Heap.lt_size onHeap) size))]
      exact I.hok.fresh size
end
/-! ### a lambda is called -/
/-- a(), where the slot i holds the lambda f -/
def tAct (i : Nat) (f c1 : Addr) (q : Str) (tl : XK → Hp → VK → Prop) (W : WX) : TE := fun σ H Q => σ[i]? = some (some (.ref f)) ∧ H c1 = some (LamX.CodeO c1 q) ∧ tl (WE W σ) H Q
section
variable {X : Cx} {pins : List (Addr × Obj)} {σ : L2.St} {H : Hp} {s : Shared}
theorem pe_actS {CXg : CXT} {Eg : XK} {Ng : List Str} {qg a : Str} {sg scope : Scope} {g f c1 : Addr} {cdg pm ct : Value} {params : Arguments} {body : Expr} {k i : Nat} {pn : List (Addr × Obj)} {xe : Value → Shared → Prop} {W : WX} {t : XK → TE} {p1 p2 : Pos}
    (I : Inv X pins σ H s) (L : LamX.LamS X.env.scope scope) (obj : s.heap.get? f = some (PySem.W.kla_obj "<lambda>" (X.env.qual ++ "<lambda>") params body scope (cloFrom X.env.cells scope.names []) pm c1 ct)) (new : H f = none) (noFr : f ∉ frs X.stack)
    (binds : bindArgs (PySem.W.kla_fn "<lambda>" (X.env.qual ++ "<lambda>") params body scope (cloFrom X.env.cells scope.names []) pm (.ref c1) ct) ⟨[], []⟩ = pure [])
    (tk : Takes ((cxOf CXg X.prog X.w X.K X.mg X.base Ng qg sg g cdg X.A X.stack s H Eg).tr pn xe) W) (room : Room (k + 1) (X.A.deeper (envOfC qg sg s.heap.objs.size g cdg)))
    (inner : ∀ (A : Around) (outer : List Env) (s : Shared) (H : Hp) (E : XK), A.guards = X.A.guards → Room k (A.deeper (LamX.lamEnv X scope s.heap.objs.size f c1)) → PE (LamX.lamCx X A outer s H E scope f c1) body (t E))
    (named : Ng[i]? = some a) (vis : Vis sg a) (hd : (a == ("__debug__" : Str)) = false) (hcd : (a == ("__classdict__" : Str)) = false) :
    PE ((cxOf CXg X.prog X.w X.K X.mg X.base Ng qg sg g cdg X.A X.stack s H Eg).tr pn xe) (.Call (.Name a p1) [] [] p2) (tAct i f c1 (X.env.qual ++ "<lambda>") (fun E H' Q' => t E σ H' Q') W) := by
  constructor
  intro pinsZ sZ σZ HZ Q IZ ⟨slot, code, reading⟩
  apply wpAny_Call_Name_kw
  refine thn ((pe_var (pos := p1) (i := i) named vis hd hcd).run pinsZ sZ σZ HZ (fun v H1 => v = .ref f ∧ H1 = HZ) IZ ⟨.ref f, slot, rfl, rfl⟩) ?_
  rintro u s1 ⟨v, H1, I1, rel, ev, eH⟩
  subst ev
  rw [eH] at I1
  have eu : u = Value.ref f := rel
  subst eu
  have still : s1.heap.get? f = some (PySem.W.kla_obj "<lambda>" (X.env.qual ++ "<lambda>") params body scope (cloFrom X.env.cells scope.names []) pm c1 ct) := I1.base.keep f _ obj new noFr (fun z => nomatch (show f ∈ ([] : List Addr) from z))
  apply PySem.W.callWith_F0 ⟨_, _, _, _, still⟩
  have since : Un (frs X.stack) [] H HZ s.heap s1.heap := I1.base
  obtain ⟨⟨oc, vs, t0, atc, dc, nc⟩, _, _⟩ := I1.hok c1 _ code
  have ran : codeAny (model X.prog X.w) (X.A.deeper (envOfC qg sg s.heap.objs.size g cdg)) (.call (.ref f) ⟨[], []⟩) (CR (L2.CX X.prog X.w) (envOfC qg sg s.heap.objs.size g cdg :: X.stack) X.prog X.w HZ s1 Q (WE W σZ)) s1 := by
    apply PySem.W.kla_callFunE room.depth still rfl L.co L.gen rfl ⟨c1, oc, vs, t0, rfl, atc, dc, nc⟩
    rw [binds]
    apply wpAny_pure
    apply wpAny_newFunctionEnv (fun y m => (L.own y m).2) (fun y m => absurd m (by simp)) ?_ L.kind
    intro h1 ns sub
    refine ⟨I1.nolimit.fresh _ sub, ?_⟩
    show codeAny _ _ (.expr body (LamX.lamEnv X scope s1.heap.objs.size f c1)) _ _
    have kept : ∀ b o, s1.heap.get? b = some o → h1.get? b = some o := fun b o e => sub.extBut b o (Nat.ne_of_lt (Heap.lt_size e)) (Heap.get?_push_of_some _ e)
    have J := LamX.lam_start2 (A := X.A.deeper (envOfC qg sg s.heap.objs.size g cdg)) (outer := envOfC qg sg s.heap.objs.size g cdg :: X.stack) (E := WE W σZ) (tk := s1.toks + ([] : List (Str × Value)).length) (f := f) (c' := c1) I L I1.env0 room.hd since ns kept
    apply PySem.W.kla_codeExpr
    refine wpAny_mono ((inner (X.A.deeper (envOfC qg sg s.heap.objs.size g cdg)) _ s1 HZ (WE W σZ) rfl (room.deeper _)).run [] _ _ HZ Q J reading) ?_ fun _ _ z => z
    rintro v s2 ⟨w1, H2, J2, rv, q⟩
    exact ⟨w1, H2, J2.os, J2.bare, J2.base, J2.hok, rv, q⟩
  refine wpAny_call (codeAny_mono ran ?_)
  intro r s2 back
  cases r with
  | error e => exact passAt tk σZ pinsZ HZ s1 e s2 I1 back
  | ok fl =>
    cases fl with
    | ret u => exact I1.after back
    | next => exact False.elim back
    | brk => exact False.elim back
    | cont => exact False.elim back
end
/-! ### promises of lambdas, of defs that get one -/
abbrev FL := Os → (D → Os → Prop) → Xa → Prop
abbrev FG := FL → Os → (D → Os → Prop) → Prop
/-- a lambda keeps its promise -/
def LamOk (K : PySem.W.Frag) (r : Stb) (tl : XK → Hp → VK → Prop) (fl : FL) : Prop :=
  ∀ (as : List Addr) (H : Hp) (os : Os) (E : XK) (Q : VK) (QA : D → Os → Prop) (EA : Xa), r.R as H → Ro K as H os → fl os QA EA →
    (∀ v H' d os', Go as H H' → Ro K as H' os' → Dx K as H' v d → QA d os' → Q v H') →
    (∀ C dd H' fs fds os', Go as H H' → Ro K as H' os' → H dd = none → H' dd = some (.xd fs) → DxF K as H' fs fds → EA C fds os' → E (.ref C) (some dd) H') → tl E H Q
/-- what a def asks that gets a lambda -/
def TTof (K : PySem.W.Frag) (fg : FG) : (XK → Hp → VK → Prop) → Hp → VK → Prop := fun tl H Q => ∃ (as : List Addr) (os : Os) (r : Stb) (fl : FL) (QA : D → Os → Prop), Ro K as H os ∧ r.R as H ∧ LamOk K r tl fl ∧ fg fl os QA ∧
  ∀ v H' d os', Go as H H' → Ro K as H' os' → Dx K as H' v d → QA d os' → Q v H'
/-- the same, the code object named -/
def Stb.at (r : Stb) (c1 : Addr) (q : Str) : Stb where
  R as H := r.R as H ∧ c1 ∉ as ∧ H c1 = some (LamX.CodeO c1 q)
  go := fun ⟨h, n, e⟩ g => ⟨r.go h g, n, g _ _ e n⟩
  add := fun ⟨h, n, e⟩ hp => ⟨r.add h hp, ⟨fun z => (List.mem_append.mp z).elim n fun z => by
    rw [List.mem_singleton.mp z, hp] at e
    exact absurd e (by simp), e⟩⟩
theorem code_nin {K : PySem.W.Frag} {as : List Addr} {H : Hp} {os : Os} {c : Addr} {q : Str} (R : Ro K as H os) (e : H c = some (LamX.CodeO c q)) : c ∉ as := fun z => by
  obtain ⟨k, hk, ek⟩ := List.mem_iff_getElem.mp z
  have h1 : as[k]? = some c := by rw [List.getElem?_eq_getElem hk, ek]
  have h2 : k < os.length := R.len ▸ hk
  have w := R.own k c os[k] h1 (List.getElem?_eq_getElem h2)
  unfold LamX.CodeO at e
  cases eo : os[k] with
  | ml xs =>
    rw [eo] at w
    obtain ⟨_, u, _⟩ := w
    rw [e] at u
    cases u
  | md xs =>
    rw [eo] at w
    obtain ⟨_, u, _⟩ := w
    rw [e] at u
    cases u
  | mi C fs =>
    rw [eo] at w
    obtain ⟨_, _, u, _⟩ := w
    rw [e] at u
    cases u
  | tb P q =>
    rw [eo] at w
    obtain ⟨_, u, _⟩ := w
    rw [e] at u
    cases u
  | mp p xs =>
    rw [eo] at w
    obtain ⟨_, u, _⟩ := w
    rw [e] at u
    cases u
  | lp p od vs xs =>
    rw [eo] at w
    obtain ⟨u, _⟩ := w
    rw [e] at u
    cases u
  | mr C fs =>
    rw [eo] at w
    obtain ⟨_, u, _⟩ := w
    rw [e] at u
    cases u
section
variable {K : PySem.W.Frag} {X : Xc} {S : Sa} {Q : Sv → Os → Prop}
/-- the lambda called, in the def that got it -/
theorem ew_act {i : Nat} {f c1 : Addr} {q : Str} {r : Stb} {fl : FL} {tl : XK → Hp → VK → Prop} {wx : WX} {xe : Addr → List (Str × D) → Sa → Prop} (hs : S.s[i]? = some (some (.fn f (r.at c1 q)))) (hl : LamOk K r tl fl)
    (h : fl S.os (fun d os' => Q (.d d) os') fun C fds os' => xe C fds ⟨S.s, os'⟩) : EW K ⟨wx, xe⟩ (tAct i f c1 q tl wx) S Q := fun as H σ Q' R x k => by
  obtain ⟨v, e, ev, hr, hn, hc⟩ := R.slot i _ hs
  subst ev
  exact ⟨e, hc, hl as H S.os _ _ _ _ hr R.o h (fun v H' d os' g R' r' z => k v H' (.d d) os' g R' r' z) fun C dd H' fs fds os' g R' n e' rf z => x H' C dd fs fds os' g R' n e' rf z⟩
/-- from what is asked to the body's reading -/
theorem readL_of {N : List Str} {fg : FG} {t : TS} {f c1 : Addr} {q : Str} {H : Hp} {QV : VK} {tl : XK → Hp → VK → Prop} (h : TTof K fg tl H QV) (hc : H c1 = some (LamX.CodeO c1 q))
    (w : ∀ r fl os QA, LamOk K r tl fl → fg fl os QA → W K X0 t { nx := fun S => RetOk os.length QA (.d .non) S.os, rt := RetOk os.length QA } ⟨startS N [.fn f (r.at c1 q)], os⟩) : t { nx := fun _ H' => QV .non H', rt := QV } (L2.start N [.ref f]) H := by
  obtain ⟨as, os, r, fl, QA, R, hr, hl, hg, kq⟩ := h
  have rs : SvA K as H [.ref f] [.fn f (r.at c1 q)] := .cons (show SvR K as H (.ref f) (.fn f (r.at c1 q)) from ⟨rfl, hr, code_nin R hc, hc⟩) .nil
  refine w r fl os QA hl hg as H _ _ (re_start R rs) XS.x0 (fun bs H' σ' S' s R' z => ?_) (fun bs H' v d os' s R' r' z => ?_) (fun _ _ _ _ _ _ z => z.elim) fun _ _ _ _ _ _ z => z.elim
  · exact ret_back s R.len R'.o (v := .non) (x := .d .non) Dx.non z kq
  · exact ret_back s R.len R' r' z kq
end
/-- a def that gets a lambda -/
def Lams (P : Program) (w : World) (K : PySem.W.Frag) (mg : Str → Option Value) (base : Heap) (x a : Str) (st : Stmt) (g : Addr) (N : List Str) (k : Nat) (q : Str) (fg : FG) : Prop :=
  ∀ (cdg : Value) (A : Around) (outer : List Env) (f c1 : Addr) (s : Shared) (H : Hp) (Q : VK) (tl : XK → Hp → VK → Prop), Room k (A.deeper (envOfC x (defScope st) s.heap.objs.size g cdg)) →
    (∀ (W : WX) (pn : List (Addr × Obj)) (xe : Value → Shared → Prop) (p1 p2 : Pos), Takes ((cxOf CX0 P w K mg base N x (defScope st) g cdg A outer s H E0).tr pn xe) W →
      PE ((cxOf CX0 P w K mg base N x (defScope st) g cdg A outer s H E0).tr pn xe) (.Call (.Name a p1) [] [] p2) (tAct 0 f c1 q tl W)) →
    H c1 = some (LamX.CodeO c1 q) → TTof K fg tl H Q →
    ∃ t, PSs (cxOf CX0 P w K mg base N x (defScope st) g cdg A outer s H E0).nox (defBody st) t ∧ t { nx := fun _ H' => Q .non H', rt := Q } (L2.start N [.ref f]) H
/-- x(lambda: ..) -/
def tLamB (P : Addr) (q : Str) (TT : (XK → Hp → VK → Prop) → Hp → VK → Prop) (t : XK → TE) : TE := fun σ H Q => LamX.TabS H P q ∧ ∀ c1 H1, LamN H H1 P c1 q → TT (fun E H' Q' => t E σ H' Q') H1 Q
theorem pe_lamB {X : Cx} {fg : FG} {x a : Str} {st : Stmt} {g c P : Addr} {fd : FuncData} {k : Nat} {Ng : List Str} {params : Arguments} {body : Expr} {scope : Scope} {t : XK → TE} {p lpos pos : Pos} (L : Lams X.prog X.w X.K X.mg X.base x a st g Ng (k + 1) (X.env.qual ++ "<lambda>") fg)
    (F : Fun X.K x x st g fd) (hg : Gl X x) (hm : X.mg x = some (.ref g)) (hb : L2.Binds X.K fd [a] []) (Sg : FnScope Ng [a] (defScope st)) (hN : Ng[0]? = some a) (hv : Vis (defScope st) a)
    (B : LamX.TabB X.base X.mg c P) (here : X.env.code = .ref c) (hr : Room (k + 2) X.A) (Ls : LamX.LamS X.env.scope scope) (noD : defaultsOf params X.env = ([], []))
    (binds : ∀ (q : Str) (cl : List (Str × Addr)) (pm cv ct : Value), bindArgs (PySem.W.kla_fn "<lambda>" q params body scope cl pm cv ct) ⟨[], []⟩ = pure [])
    (inner : ∀ (A : Around) (outer : List Env) (s : Shared) (H : Hp) (E : XK) (f c1 : Addr), A.guards = X.A.guards → Room k (A.deeper (LamX.lamEnv X scope s.heap.objs.size f c1)) → PE (LamX.lamCx X A outer s H E scope f c1) body (t E))
    (hdb : (x == ("__debug__" : Str)) = false := by decide) (hd : (a == ("__debug__" : Str)) = false := by decide) (hcd : (a == ("__classdict__" : Str)) = false := by decide) :
    PE X (.Call (.Name x p) [.Lambda params body scope lpos] [] pos) (tLamB P (X.env.qual ++ "<lambda>") (TTof X.K fg) t) := by
  obtain ⟨oc, od, kV, doc, pm, an, cdv, ct, osl, efd, lk, hcd2⟩ := F.ex
  constructor
  intro pins s σ H Q I ⟨tab, more⟩
  apply wpAny_Call_Name_kw
  refine ld_glob I hg hm ?_ hdb
  refine PySem.W.callWith_K (h₀ := X.base) I.ok.mod.kin F.kp ?_ (by rfl) (by rfl)
  show wpAny _ _ (spliced ((false, eval (.Lambda params body scope lpos) X.env) :: backTo pos (starEach [] X.env))) _ _ s
  refine Calls.spliced_cons (lam_new I B here tab noD (Ls.has I.ok) ?_)
  intro f c1 pm1 ct1 H1 s1 I1 grown obj new noFr
  refine Calls.spliced_nil ⟨I1.kIn, ?_⟩
  subst efd
  have ran : codeAny (model X.prog X.w) X.A (.call (.ref g) ⟨[.ref f], []⟩) (CR CX0 X.stack X.prog X.w H1 s1 Q E0) s1 := by
    refine LamX.run_ofS (N := Ng) (ps := [a]) (us := [.ref f]) (vs := [.ref f]) lk hcd2 Sg hr I1.env0 (hb s1 [.ref f] I1.kIn rfl) (.cons rfl .nil) rfl fun hr1 => ?_
    obtain ⟨t1, h1, q1⟩ := L cdv X.A X.stack f c1 s1 H1 Q (fun E H' Q' => t E σ H' Q') hr1 (fun W pn xe p1 p2 tk => pe_actS (i := 0) I1 Ls obj new noFr (binds _ _ _ _ _) tk hr1 (fun A outer s H E gd hr2 => inner A outer s H E f c1 gd hr2) hN hv hd hcd) grown.co (more c1 H1 grown)
    exact ⟨t1, h1.nox, q1⟩
  refine wpAny_call (codeAny_mono ran ?_)
  intro r s2 back
  cases r with
  | error e => exact (show False from back).elim
  | ok fl =>
    cases fl with
    | ret u => exact I1.after back
    | next => exact False.elim back
    | brk => exact False.elim back
    | cont => exact False.elim back
section
variable {K : PySem.W.Frag} {X : Xc} {S : Sa} {Q : Sv → Os → Prop}
theorem ew_lamB {j : Nat} {P : Addr} {q : Str} {fg : FG} {t : XK → TE} (fl : FL) (hk : S.os[j]? = some (.tb P q))
    (hl : ∀ (os : Os) (QA : D → Os → Prop) (EA : Xa) (E : XK), fl os QA EA → EW K ⟨fun cls d _ H => E cls d H, fun C fds S' => EA C fds S'.os⟩ (t E) ⟨S.s, os⟩ fun x os' => ∃ d, x = .d d ∧ QA d os')
    (h : fg fl S.os fun d os' => Q (.d d) os') : EW K X (tLamB P q (TTof K fg) t) S Q := fun as H σ Q' R x k => by
  have hj : j < as.length := by
    rw [R.o.len]
    exact (List.getElem?_eq_some_iff.mp hk).1
  have atj : as[j]? = some as[j] := List.getElem?_eq_getElem hj
  obtain ⟨ps, e1, eP, e2, e3⟩ := R.o.own j as[j] _ atj hk
  rw [eP] at e1
  have inP : P ∈ as := by
    rw [← eP]
    exact List.getElem_mem hj
  refine ⟨⟨ps, e1, e2, fun pos cv hc => ?_⟩, fun c1 H1 N => ?_⟩
  · obtain ⟨c, a, _, b⟩ := e3 pos cv hc
    exact ⟨c, a, b⟩
  · have g1 : Go as H H1 := fun a o e n => N.ext a o (fun z => n (z ▸ inP)) e
    have R1 : Ro K as H1 S.os := ⟨R.o.nd, R.o.len, fun i a ob h1 h2 => by
      by_cases ea : a = P
      · have ei : i = j := by
          obtain ⟨l1, m1⟩ := List.getElem?_eq_some_iff.mp h1
          exact (List.getElem_inj R.o.nd).mp (m1.trans (ea.trans eP.symm))
        subst ei
        rw [hk] at h2
        cases h2
        obtain ⟨ps2, a1, a2, a3⟩ := N.tab
        refine ⟨ps2, by rw [ea]; exact a1, ea, a2, fun pos cv hc => ?_⟩
        obtain ⟨c, b1, b2⟩ := a3 pos cv hc
        refine ⟨c, b1, fun z => ?_, b2⟩
        -- a code object is nothing of the store
        obtain ⟨i2, hi2, ei2⟩ := List.mem_iff_getElem.mp z
        have hc1 : as[i2]? = some c := by rw [List.getElem?_eq_getElem hi2, ei2]
        have hc2 : i2 < S.os.length := R.o.len ▸ hi2
        have w := R.o.own i2 c S.os[i2] hc1 (List.getElem?_eq_getElem hc2)
        by_cases ec : c = P
        · rw [ec, a1] at b2
          exact LamX.codeO_ne _ (Option.some.inj b2).symm
        · have nn : ∃ o, H c = some o ∧ ∀ q, o ≠ LamX.CodeO c q := by
            unfold LamX.CodeO
            cases eo : S.os[i2] with
            | ml xs =>
              rw [eo] at w
              obtain ⟨_, u, _⟩ := w
              exact ⟨_, u, fun _ z => by cases z⟩
            | md xs =>
              rw [eo] at w
              obtain ⟨_, u, _⟩ := w
              exact ⟨_, u, fun _ z => by cases z⟩
            | mi C fs =>
              rw [eo] at w
              obtain ⟨_, _, u, _⟩ := w
              exact ⟨_, u, fun _ z => by cases z⟩
            | tb P q =>
              rw [eo] at w
              obtain ⟨_, u, _⟩ := w
              exact ⟨_, u, fun _ z => by cases z⟩
            | mp p xs =>
              rw [eo] at w
              obtain ⟨_, u, _⟩ := w
              exact ⟨_, u, fun _ z => by cases z⟩
            | lp p od vs xs =>
              rw [eo] at w
              obtain ⟨u, _⟩ := w
              exact ⟨_, u, fun _ z => by cases z⟩
            | mr C fs =>
              rw [eo] at w
              obtain ⟨_, u, _⟩ := w
              exact ⟨_, u, fun _ z => by cases z⟩
          obtain ⟨o, u, no⟩ := nn
          have b3 := N.ext c o ec u
          rw [b2] at b3
          exact no _ (Option.some.inj b3).symm
      · exact (R.o.own i a ob h1 h2).way (Way.of_go g1) fun u e => N.ext a u ea e⟩
    let r : Stb := ⟨fun as H => σ.length = S.s.length ∧ ∀ (i : Nat) (d : Sv), S.s[i]? = some (some d) → ∃ v, σ[i]? = some (some v) ∧ SvR K as H v d,
      fun ⟨l, h⟩ g => ⟨l, fun i d e => let ⟨v, a, b⟩ := h i d e; ⟨v, a, b.go g⟩⟩, fun ⟨l, h⟩ hp => ⟨l, fun i d e => let ⟨v, a, b⟩ := h i d e; ⟨v, a, b.wayA hp⟩⟩⟩
    refine ⟨as, S.os, r, fl, _, R1, ⟨R.slen, fun i d e => let ⟨v, a, b⟩ := R.slot i d e; ⟨v, a, b.go g1⟩⟩, ?_, h, fun v H' d os' g R' r' z => k v H' (.d d) os' (g1.trans g) R' r' z⟩
    intro as2 H2 os2 E2 Q2 QA EA hr R2 f kq ke
    refine hl os2 QA EA E2 f as2 H2 σ Q2 ⟨R2, hr.1, hr.2⟩ (fun H' C dd fs fds os' g R' n e rf z => ke C dd H' fs fds os' g R' n e rf z) fun v H' y os' g R' r' ⟨d, ey, z⟩ => ?_
    subst ey
    exact kq v H' d os' g R' r' z
end
end Br

/-! BrLk: bits, insert, reversed, sums of tuples; calls by names that may raise; own exceptions whose field is any data; the copy of an empty dict. -/
namespace Br
open PySem PySem.Spec PyProof.Rows L2
/-! ### operations -/
def rAndM : R2 := fun x y H Q => ∃ (i : Int) (k : Nat), x = .int i ∧ y = .int (2 ^ k - 1) ∧ Q (.int (i % 2 ^ k)) H
def rShrN : R2 := fun x y H Q => ∃ (i : Int) (k : Nat), x = .int i ∧ y = .int (k : Int) ∧ Q (.int (i / 2 ^ k)) H
def rIns : V → List V → Hp → VK → Prop := fun x vs H Q => ∃ (l : Addr) (xs : List V) (i : Int) (y : V), x = .ref l ∧ vs = [.int i, y] ∧ H l = some (.lst xs) ∧ xs.length < sizeLine ∧ 0 ≤ i ∧ i < 2 ^ 63 ∧ Q .non (upd H l (.lst (xs.take i.toNat ++ [y] ++ xs.drop i.toNat)))
section
variable {X : Cx}
theorem op_maskA : OpR X (binaryOp .BitAnd) rAndM := op_andM
theorem op_rightA : OpR X (binaryOp .RShift) rShrN := op_shrN
theorem mt_insA : MtR X "list.insert" rIns := mt_insert
/-- sum of a tuple -/
def rSumT (K : PySem.W.Frag) : List V → Hp → VK → Prop := fun vs H Q => ∃ (a : Addr) (ns : List Int), vs = [V.ref a] ∧ SqT K H a (ns.map V.int) ∧ Q (.int ns.sum) H
theorem call_sumT (hc : X.calm = true) : CallR X (.builtin "sum") (rSumT X.K) := by
  intro pins s σ H vs us Q I r h
  obtain ⟨a, ns, rfl, hs, q⟩ := h
  obtain ⟨its, rv, ht, _⟩ := I.tuple hs
  rw [Vals.ref1 r]
  have hi := rv.ints
  obtain ⟨xs, e⟩ := hi.allInts.items
  have hn : numsOf (intItems xs).toList = ns := by rw [← e]; exact hi.numsOf
  rw [nums_intItems] at hn
  have ht2 : s.heap.IsTuple a its.toArray := by
    obtain ⟨o, ho, hc2, n, hd⟩ := ht
    exact ⟨o, ho, hc2, n, hd⟩
  rw [e] at ht2
  refine PySem.W.ktm_sumG (I.ok.hd hc) ht2 fun h' tk t' hk => ?_
  rw [preSum_eq, List.take_of_length_le (by simp), hn]
  exact ⟨.int _, H, I.kept hk, ⟨_, rfl⟩, q⟩
end
section
variable {K : PySem.W.Frag} {X : Xc} {S : Sa} {os : Os} {Q : Sv → Os → Prop} {to te tk : TE}
theorem bw_mask {i j : Int} (k : Nat) (hj : j = 2 ^ k - 1) (q : Q (.d (.int (i % 2 ^ k))) os) : BW K rAndM (.d (.int i)) (.d (.int j)) os Q :=
  bw_pure (fun as H v u Q' R rx ry z => by
    cases rx
    cases ry
    exact ⟨i, k, rfl, by rw [hj], z _ (.int _)⟩) q
theorem bw_right {i j : Int} (k : Nat) (hj : j = (k : Int)) (q : Q (.d (.int (i / 2 ^ k))) os) : BW K rShrN (.d (.int i)) (.d (.int j)) os Q :=
  bw_pure (fun as H v u Q' R rx ry z => by
    cases rx
    cases ry
    exact ⟨i, k, rfl, by rw [hj], z _ (.int _)⟩) q
theorem cw_sumT {ns : List Int} (q : Q (.d (.int ns.sum)) os) : CW K (rSumT K) [.d (.tup (ns.map D.int))] os Q :=
  cw_pure (fun as H vs Q' R r k => by
    cases r with
    | cons h t =>
      cases t
      cases h with
      | @tup a ws _ hl hr =>
        have e := DxA.of_ints hr
        subst e
        exact ⟨a, ns, rfl, hl.sq, k _ (.int _)⟩) q
/-- xs.insert(0, e) -/
theorem ew_ins0 (h : EW K X to S fun x os1 => ∃ k xs1, x = .o k ∧ os1[k]? = some (.ml xs1) ∧ EW K X tk ⟨S.s, os1⟩ fun z os2 => z = .d (.int 0) ∧ EW K X te ⟨S.s, os2⟩ fun y os3 => ∃ z xs, y = .d z ∧ os3[k]? = some (.ml xs) ∧ xs.length < sizeLine ∧ Q (.d .non) (os3.set k (.ml (z :: xs)))) :
    EW K X (tBM K "list" rIns to (tCons tk (tCons te tNil))) S Q := fun as H σ Q' R x k =>
  h as H σ _ R x fun v H1 d os1 g1 R1 r1 ⟨j, xs1, ed, eo1, h2⟩ => by
    subst ed
    obtain ⟨a, ea, rfl⟩ := r1
    refine ⟨?_, h2 as H1 σ _ (R.go g1 R1) (x.go g1 R1) fun w H2 e os2 g2 R2 r2 ⟨ez, h3⟩ => ?_⟩
    · obtain ⟨ws, q1, _⟩ := R1.own j a _ ea eo1
      exact .inl ⟨rfl, ws, .inl (.inl q1)⟩
    · subst ez
      cases r2
      refine h3 as H2 σ _ (R.go (g1.trans g2) R2) (x.go (g1.trans g2) R2) fun u H3 y os3 g3 R3 r3 ⟨z, xs, ey, eo, hl, q⟩ => ?_
      subst ey
      obtain ⟨vs, h4, h5⟩ := R3.own j a _ ea eo
      have hm : a ∈ as := List.mem_of_getElem? ea
      have g4 : Go as H3 (upd H3 a (.lst (u :: vs))) := Go.at hm
      have rz : Dx K as H3 u z := r3
      have R4 : Ro K as (upd H3 a (.lst (u :: vs))) (os3.set j (.ml (z :: xs))) := ro_set R3 ea ⟨_, upd_same, DxA.way (Way.of_go g4) (.cons rz h5)⟩
      exact ⟨a, vs, 0, u, rfl, rfl, h4, by rw [h5.length]; exact hl, by decide, by decide, k .non _ (.d .non) _ (((g1.trans g2).trans g3).trans g4) R4 Dx.non q⟩
/-- tuple(reversed(xs)) of a list of the store -/
theorem ew_tupRevO (h : EW K X te S fun x os => ∃ j xs, x = .o j ∧ os[j]? = some (.ml xs) ∧ Q (.d (.tup xs.reverse)) os) : EW K X (RT.tTupRev K te) S Q := fun as H σ Q' R x k =>
  h as H σ _ R x fun v H1 d os1 g1 R1 r1 ⟨j, xs, e, eo, q⟩ => by
    subst e
    obtain ⟨a, vs, rfl, hs, hr⟩ := o_list R1 r1 eo
    exact ⟨a, vs, rfl, hs, fun p hp => k (.ref p) _ (.d (.tup xs.reverse)) os1 (g1.trans (Go.new hp)) (R1.new hp) (dx_newT R1 hp hr.rev) q⟩
theorem ew_isKR {C C2 : Addr} (h : EW K X te S fun x os => ∃ fds r, x = .d (.xo C fds) ∧ PySem.W.kitOne K (.ref C) (.ref C2) = some r ∧ Q (.d (.bl r)) os) : EW K X (tCB (rIsK K C) (tCons te (tCons (tC (.ref C2)) tNil))) S Q := fun as H σ Q' R x k =>
  h as H σ _ R x fun v H1 d os1 g1 R1 r1 ⟨fds, r, ed, er, q⟩ => by
    subst ed
    cases r1 with
    | xo n1 n2 h1 h2 hr => exact ⟨_, _, _, .ref C2, .ref C2, r, rfl, h1, h2, .own C2, er, k (.bl r) H1 (.d (.bl r)) os1 g1 R1 (Dx.bl r) q⟩
end
/-! ### calls that may raise -/
def tCallNS (n m : Nat) (sp : Sp) (gV : List V → List V → List V) (E : L2.St → XK) (t tk : TA) : TE := fun σ H Q => t σ H fun vs H1 => tk σ H1 fun zs H2 => vs.length = n ∧ zs.length = m ∧ sp (gV vs zs) H2 Q (E σ)
section
variable {X : Cx} {CX : CXT} {k n : Nat} {f : Addr} {fd : FuncData} {ps ks : List Str} {sp : Sp} {E : L2.St → XK} {x : Str} {p pos : Pos} {e : Expr} {es : List Expr} {kws : List Keyword} {t tk : TA} {g : List Value → List Value → List Value} {gV : List V → List V → List V}
theorem pe_callNS (F : FnOk X.prog X.w X.K X.mg X.base CX k f fd ps sp) (hr : Room k X.A) (hg : Gl X x) (hm : X.mg x = some (.ref f)) (hk : PySem.W.keepIn X.K (.ref f) = true) (hb : KBn X.K fd ps n ks g gV) (hx : ∀ σ, PassesAt CX X σ (E σ))
    (ha : PA X (e :: es) t) (hkw : PK X kws tk) (hall : (backToKw pos (keywordEach kws X.env)).all (·.1.isSome) = true := by rfl) (hks : (backToKw pos (keywordEach kws X.env)).filterMap (·.1) = ks := by rfl)
    (hdb : (x == ("__debug__" : Str)) = false := by decide) (he : starEach (e :: es) X.env = (false, eval e X.env) :: starEach es X.env := by rfl)
    (hpl : ((backTo pos (starEach (e :: es) X.env)).any (·.1) || (backToKw pos (keywordEach kws X.env)).any (·.1.isNone)) = false := by rfl) :
    PE X (.Call (.Name x p) (e :: es) kws pos) (tCallNS n ks.length sp gV E t tk) := by
  constructor
  intro pins s σ H Q I h
  apply wpAny_Call_Name_kw
  refine ld_glob I hg hm ?_ hdb
  refine PySem.W.callWith_KW (h₀ := X.base) I.ok.mod.kin hk hall (thn (ha.run pos pins s σ H _ I h) ?_) hpl he
  rintro us s1 ⟨vs, H1, I1, r, q⟩
  refine thn (hkw.run pos pins s1 σ H1 _ I1 q) ?_
  rintro ws s2 ⟨zs, H2, I2, rz, l1, l2, q2⟩
  refine ⟨I2.kIn, ?_⟩
  rw [hks]
  refine wpAny_call (codeAny_mono (F.run X.A X.stack s2 H2 ⟨us, ks.zip ws⟩ (g us ws) (gV vs zs) Q (E σ) hr I2.env0 (hb.to s2 us ws I2.kIn (r.length.symm.trans l1) (rz.length.symm.trans l2)) (hb.rel r rz) q2) ?_)
  intro r3 s3 back
  cases r3 with
  | error e => exact hx σ pins H2 s2 e s3 I2 back
  | ok fl =>
    cases fl with
    | ret u => exact I2.after back
    | next => exact False.elim back
    | brk => exact False.elim back
    | cont => exact False.elim back
end
section
variable {K : PySem.W.Frag} {X : Xc} {S : Sa} {Q : Sv → Os → Prop} {ta tl tk : TA} {f : FD}
theorem ew_callNS {wx : WX} {xe : Addr → List (Str × D) → Sa → Prop} {n m : Nat} {gV : List V → List V → List V} {gS : List Sv → List Sv → List Sv} (hg : ∀ as H vs zs ds es, SvA K as H vs ds → SvA K as H zs es → SvA K as H (gV vs zs) (gS ds es))
    (h : AW K ⟨wx, xe⟩ tl S fun ds os => ds.length = n ∧ AW K ⟨wx, xe⟩ tk ⟨S.s, os⟩ fun es os2 => es.length = m ∧ f (gS ds es) os2 (fun d os' => Q (.d d) os') fun C fds os' => xe C fds ⟨S.s, os'⟩) : EW K ⟨wx, xe⟩ (tCallNS n m (spD K f) gV (WE wx) tl tk) S Q := fun as H σ Q' R x k =>
  h as H σ _ R x fun vs H1 ds os1 g1 R1 r1 ⟨l1, q1⟩ => q1 as H1 σ _ (R.go g1 R1) (x.go g1 R1) fun zs H2 es os2 g2 R2 r2 ⟨l2, q2⟩ => by
    refine ⟨by rw [r1.length]; exact l1, by rw [r2.length]; exact l2, as, os2, _, _, _, R2, hg _ _ _ _ _ _ (r1.go g2) r2, q2, fun v H3 d os3 g3 R3 r3 q3 => k v H3 (.d d) os3 ((g1.trans g2).trans g3) R3 r3 q3, fun C dd H3 fs fds os3 g3 R3 n3 e3 rf z => ?_⟩
    exact x H3 C dd fs fds os3 ((g1.trans g2).trans g3) R3 ((g1.trans g2).free (R2.notin n3) n3) e3 rf z
/-- with defaults that are filled up -/
theorem ew_callSD {wx : WX} {xe : Addr → List (Str × D) → Sa → Prop} {dvs : List V} {des : List Sv} (hd : ∀ as H, SvA K as H dvs des) (h : AW K ⟨wx, xe⟩ ta S fun ds os => f (ds ++ des) os (fun d os' => Q (.d d) os') fun C fds os' => xe C fds ⟨S.s, os'⟩) :
    EW K ⟨wx, xe⟩ (tCallSD (spD K f) dvs (WE wx) ta) S Q := fun as H σ Q' R x k =>
  h as H σ _ R x fun vs H1 ds os1 g1 R1 r1 q1 => by
    have app : ∀ {us : List V} {es : List Sv}, SvA K as H1 us es → SvA K as H1 (us ++ dvs) (es ++ des) := fun {us es} r => by
      induction r with
      | nil => exact hd as H1
      | cons h _ ih => exact .cons h ih
    refine ⟨as, os1, ds ++ des, _, _, R1, app r1, q1, fun v H2 d os2 g2 R2 r2 q2 => k v H2 (.d d) os2 (g1.trans g2) R2 r2 q2, fun C dd H2 fs fds os2 g2 R2 n2 e2 r2 z => ?_⟩
    exact x H2 C dd fs fds os2 (g1.trans g2) R2 (g1.free (R1.notin n2) n2) e2 r2 z
theorem ew_callD {dvs : List V} {des : List Sv} (hd : ∀ as H, SvA K as H dvs des) (h : AW K X ta S fun ds os => f (ds ++ des) os (fun d os' => Q (.d d) os') fun _ _ _ => False) : EW K X (tCall (spD K f) dvs E0 ta) S Q := fun as H σ Q' R x k =>
  h as H σ _ R x fun vs H1 ds os1 g1 R1 r1 q1 => by
    have app : ∀ {us : List V} {es : List Sv}, SvA K as H1 us es → SvA K as H1 (us ++ dvs) (es ++ des) := fun {us es} r => by
      induction r with
      | nil => exact hd as H1
      | cons h _ ih => exact .cons h ih
    exact ⟨as, os1, ds ++ des, _, _, R1, app r1, q1, fun v H2 d os2 g2 R2 r2 q2 => k v H2 (.d d) os2 (g1.trans g2) R2 r2 q2, fun _ _ _ _ _ _ _ _ _ _ _ z => z.elim⟩
end
/-! ### own exceptions over ValueError whose field is any data -/
theorem heap_one (a : Addr) (o : Obj) (nf : o.data ≠ .freed) : ∃ h : Heap, h.get? a = some o := by
  refine ⟨{ objs := Array.replicate (a + 1) o }, ?_⟩
  have e : (Array.replicate (a + 1) o)[a]? = some o := by simp
  obtain ⟨c, dd, dt, sl⟩ := o
  unfold Heap.get?
  rw [e]
  cases dt <;> first | rfl | exact absurd rfl nf
theorem exo_ne_exk {C C2 dd b : Addr} : Exk C2 dd b ≠ exo b C none := fun z => by
  unfold Exk exo at z
  injection z with z
  obtain ⟨h, e⟩ := heap_one b { cls := .ref C, dict := none, data := .fields #[.ref 0, .none, .none, .none, .bool false, .none] } (fun z => by cases z)
  have w : (∃ t1 : Addr, h.get? b = some ({ cls := .ref C, dict := none, data := .fields #[.ref t1, .none, .none, .none, .bool false, .none] } : Obj)) := ⟨0, e⟩
  rw [← congrFun z h] at w
  obtain ⟨oe, vs, e2, hz, _⟩ := w
  rw [e] at e2
  cases e2
  cases hz.2
theorem exo_ne_code {C c : Addr} {q : Str} : LamX.CodeO c q ≠ exo c C none := fun z => by
  unfold LamX.CodeO exo at z
  injection z with z
  obtain ⟨h, e⟩ := heap_one c { cls := .ref C, dict := none, data := .fields #[.ref 0, .none, .none, .none, .bool false, .none] } (fun z => by cases z)
  have w : (∃ t1 : Addr, h.get? c = some ({ cls := .ref C, dict := none, data := .fields #[.ref t1, .none, .none, .none, .bool false, .none] } : Obj)) := ⟨0, e⟩
  rw [← congrFun z h] at w
  obtain ⟨oe, vs, t, e2, ed, ev⟩ := w
  rw [e] at e2
  cases e2
  cases ed
  simp at ev
/-- all but an exception in the making stays -/
def KeepX (C : Addr) (H H' : Hp) : Prop := ∀ b u, H b = some u → u ≠ exo b C none → H' b = some u
section
variable {K : PySem.W.Frag} {as : List Addr} {H H' : Hp} {C : Addr}
theorem rd_kx (k : KeepX C H H') {a : Addr} {u : HO} (hu : ∀ b, u ≠ exo b C none) (h : Rd H a u) : Rd H' a u := by
  rcases h with h | ⟨o, h⟩
  · exact .inl (k a u h (hu a))
  · exact .inr ⟨o, k a _ h fun z => exo_frz z.symm⟩
theorem ql_kx (k : KeepX C H H') {a : Addr} {xs : List V} (h : QL K as H a xs) : QL K as H' a xs := by
  rcases h with ⟨n, h⟩ | h
  · exact .inl ⟨n, rd_kx k (fun b z => by unfold exo at z; cases z) h⟩
  · exact .inr h
theorem qt_kx (k : KeepX C H H') {a : Addr} {xs : List V} (h : QT K as H a xs) : QT K as H' a xs := by
  rcases h with ⟨n, h⟩ | h
  · exact .inl ⟨n, rd_kx k (fun b z => by unfold exo at z; cases z) h⟩
  · exact .inr h
mutual
theorem Dx.kx (k : KeepX C H H') : ∀ {v : V} {d : D}, Dx K as H v d → Dx K as H' v d
  | _, _, .non => .non
  | _, _, .bl b => .bl b
  | _, _, .int i => .int i
  | _, _, .str x => .str x
  | _, _, .lst h r => .lst (ql_kx k h) (DxA.kx k r)
  | _, _, .tup h r => .tup (qt_kx k h) (DxA.kx k r)
  | _, _, .dk n h r => .dk n (rd_kx k (fun b z => by unfold exo at z; cases z) h) (DxP.kx k r)
  | _, _, .ob n n2 h h2 r => .ob n n2 (k _ _ h (fun z => by unfold exo at z; cases z)) (k _ _ h2 (fun z => by unfold exo at z; cases z)) (DxF.kx k r)
  | _, _, .xo n n2 h h2 r => .xo n n2 (k _ _ h exo_ne_exk) (k _ _ h2 (fun z => by unfold exo at z; cases z)) (DxF.kx k r)
theorem DxA.kx (k : KeepX C H H') : ∀ {v : List V} {d : List D}, DxA K as H v d → DxA K as H' v d
  | _, _, .nil => .nil
  | _, _, .cons h r => .cons (Dx.kx k h) (DxA.kx k r)
theorem DxP.kx (k : KeepX C H H') : ∀ {v : List (Key × V)} {d : List (Key × D)}, DxP K as H v d → DxP K as H' v d
  | _, _, .nil => .nil
  | _, _, .cons h r => .cons (Dx.kx k h) (DxP.kx k r)
theorem DxF.kx (k : KeepX C H H') : ∀ {v : List (Str × V)} {d : List (Str × D)}, DxF K as H v d → DxF K as H' v d
  | _, _, .nil => .nil
  | _, _, .cons h r => .cons (Dx.kx k h) (DxF.kx k r)
end
theorem Ro.kx {os : Os} (k : KeepX C H H') (R : Ro K as H os) : Ro K as H' os := ⟨R.nd, R.len, fun i a ob h1 h2 => by
  have h := R.own i a ob h1 h2
  cases ob with
  | ml xs =>
    obtain ⟨vs, a1, a2⟩ := h
    exact ⟨vs, k _ _ a1 ((fun z => by unfold exo at z; cases z)), DxA.kx k a2⟩
  | md kds =>
    obtain ⟨vs, a1, a2⟩ := h
    exact ⟨vs, k _ _ a1 ((fun z => by unfold exo at z; cases z)), DxP.kx k a2⟩
  | mi C2 fds =>
    obtain ⟨dx, vs, a1, a2, a3, a4⟩ := h
    exact ⟨dx, vs, k _ _ a1 ((fun z => by unfold exo at z; cases z)), a2, k _ _ a3 ((fun z => by unfold exo at z; cases z)), DxF.kx k a4⟩
  | tb P q =>
    obtain ⟨ps, a1, a2, a3, a4⟩ := h
    refine ⟨ps, k _ _ a1 ((fun z => by unfold exo at z; cases z)), a2, a3, fun pos cv hc => ?_⟩
    obtain ⟨c, b1, b2, b3⟩ := a4 pos cv hc
    exact ⟨c, b1, b2, k _ _ b3 exo_ne_code⟩
  | mp p kds =>
    obtain ⟨vs, a1, a2, a3⟩ := h
    exact ⟨vs, k _ _ a1 ((fun z => by unfold exo at z; cases z)), a2, DxP.kx k a3⟩
  | lp p od vs kds =>
    obtain ⟨a1, a2, a3⟩ := h
    exact ⟨k _ _ a1 ((fun z => by unfold exo at z; cases z)), a2, DxP.kx k a3⟩
  | mr C2 fs =>
    obtain ⟨dx, a1, a2, a3⟩ := h
    exact ⟨dx, k _ _ a1 ((fun z => by unfold exo at z; cases z)), a2, k _ _ a3 ((fun z => by unfold exo at z; cases z))⟩⟩
end
/-- C.__init__ of one field, of any data that is ok -/
def spIX (K : PySem.W.Frag) (C : Addr) (f : Str) (ok : D → Bool) : Sp := fun vs H Q _ => ∃ (as : List Addr) (os : Os) (a : Addr) (v : V) (d : D), vs = [.ref a, v] ∧ Ro K as H os ∧ a ∉ as ∧ Dx K as H v d ∧ ok d = true ∧ H a = some (exo a C none) ∧
  ∀ (dx : Addr) (v' : V) (H' : Hp), H dx = none → dx ≠ a → H' a = some (exo a C (some dx)) → H' dx = some (exd dx [(f, v')]) →
    (∀ Hf : Hp, (∀ b o, b ≠ a → b ≠ dx → H' b = some o → Hf b = some o) → (∀ b o, b ≠ a → b ∉ as → H b = some o → Hf b = some o) ∧ Ro K as Hf os ∧ Dx K as Hf v' d) → Q .non H'
section
variable {K : PySem.W.Frag} {X : Xc} {S : Sa} {E : Ea} {ta : TA}
theorem w_raiseX {C : Addr} {f : Str} {ok : D → Bool} {Wx : WX} (hw : Wx = X.wx) (h : AW K X ta S fun xs os => ∃ d, xs = [.d d] ∧ ok d = true ∧ X.xe C [(f, d)] ⟨S.s, os⟩) :
    W K X (fun _ σ H => tMkO C (spIX K C f ok) [] ta σ H fun cls dd H' => Wx cls dd σ H') E S := fun as H σ D R x n r b c => by
  refine h as H σ _ R (x.h R) fun vs H1 xs os1 g1 R1 r1 ⟨d, e, hP, q⟩ => ?_
  subst e
  cases r1 with
  | @cons u _ _ _ r1 rn =>
    cases rn
    have r1' : Dx K as H1 u d := r1
    refine ⟨Nat.le_of_ble_eq_true rfl, fun a ha => ⟨as, os1, a, _, d, rfl, R1.new ha, R1.notin ha, Dx.way (Way.of_go (Go.new ha)) r1', hP, upd_same, fun dx v' H2 h1 h2 h3 h4 hk => ⟨rfl, dx, _, h3, h4, ?_, ?_⟩⟩⟩
    · rw [upd_ne h2] at h1
      exact h1
    · have hdx : H1 dx = none := by
        rw [upd_ne h2] at h1
        exact h1
      obtain ⟨k1, R3, r3⟩ := hk (upd (del H2 a) dx (.xd [(f, v')])) fun b o n1 n2 e => by
        rw [upd_ne n2, del_ne n1]
        exact e
      have g2 : Go as H1 (upd (del H2 a) dx (.xd [(f, v')])) := fun b o e n => k1 b o (ne_of_none e ha) n (by rw [upd_ne (ne_of_none e ha)]; exact e)
      have z := x.h R _ C dx [(f, v')] [(f, d)] os1 (g1.trans g2) R3 (g1.free (R1.notin hdx) hdx) upd_same (.cons r3 .nil) q
      rw [hw]
      exact z
end
/-! ### {k: .. for k in {}} -/
section
variable {X : Cx} {tg e : Expr} {td : TE}
/-- locked, where it isn't yet -/
def tLk (t : TE) : TE := fun σ H Q => tLockE t σ H Q ∨ t σ H Q
theorem pe_lk {t : TE} (h : PE X e t) : PE X e (tLk t) := ⟨fun pins s σ H Q I z => z.elim ((pe_lock h).run pins s σ H Q I) (h.run pins s σ H Q I)⟩
end
section
variable {K : PySem.W.Frag} {X : Xc} {S : Sa} {Q : Sv → Os → Prop} {i : Nat} {g : TG} {tt : TT} {tk tv : TE} {vs : List Nat}
theorem dk_nil {as : List Addr} {H : Hp} {v : V} (r : Dx K as H v (.dk [])) : ∃ a, v = .ref a ∧ a ∉ as ∧ Rd H a (.dK []) := by
  cases r with
  | dk n h r =>
    cases r
    exact ⟨_, rfl, n, h⟩
theorem ew_dc0 (hs : S.s[i]? = some (some (.d (.dk [])))) (q : Q (.d (.dk [])) S.os) : EW K X (tLk (tDc (iKeys (tVar i)) g tt tk tv vs)) S Q := fun as H σ Q' R x k => by
  obtain ⟨v, e, r⟩ := R.slot i _ hs
  obtain ⟨a, rfl, na, rd⟩ := dk_nil r
  -- over a locked dict
  have walk : ∀ (H1 : Hp) (o : Obj) (Z : VK), H1 a = some (.frz o (.dK [])) → (∀ p, H1 p = none → Z (.ref p) (upd H1 p (.dK []))) → tDc (iKeys (tVar i)) g tt tk tv vs σ H1 Z := fun H1 o Z h z => by
    refine ⟨_, e, a, o, rfl, .inl ⟨[], h, fun p hp => ⟨fun i m H => i = 0 ∧ H = upd H1 p (.dK []), ⟨0, rfl, rfl⟩, ?_⟩⟩⟩
    rintro i m H2 ⟨rfl, rfl⟩
    refine .inl ⟨⟨?_, Nat.le_refl _⟩, z p hp⟩
    rw [upd_ne (ne_of_none h hp)]
    exact h
  rcases rd with h | ⟨o, h⟩
  · refine .inl ⟨a, _, h, by trivial, fun od => walk _ od _ upd_same fun p hp => ?_⟩
    have np : p ≠ a := fun z => by
      rw [z, upd_same] at hp
      cases hp
    have hp2 : H p = none := by
      rw [upd_ne np] at hp
      exact hp
    refine ⟨by rw [upd_ne (Ne.symm np), upd_same], ?_⟩
    have e2 : upd (upd (upd H a (.frz od (.dK []))) p (.dK [])) a (.dK []) = upd H p (.dK []) := funext fun b => by
      by_cases hb : b = a
      · rw [hb, upd_same, upd_ne (Ne.symm np)]
        exact h.symm
      · rw [upd_ne hb]
        by_cases hb2 : b = p
        · rw [hb2, upd_same, upd_same]
        · rw [upd_ne hb2, upd_ne hb2, upd_ne hb]
    rw [e2]
    exact k (.ref p) _ (.d (.dk [])) S.os (Go.new hp2) (R.o.new hp2) (Dx.dk (R.o.notin hp2) (.inl upd_same) .nil) q
  · exact .inr (walk H o _ h fun p hp => k (.ref p) _ (.d (.dk [])) S.os (Go.new hp) (R.o.new hp) (Dx.dk (R.o.notin hp) (.inl upd_same) .nil) q)
end
/-! ### what is shown, numbers of up to two hundred figures -/
mutual
theorem fit_pyW {M : Nat} (hM : M ≤ 10 ^ 200) : ∀ d : D, d.fit M = true → ∃ p, d.pyE = some p ∧ p.showable = true ∧ p.depth ≤ d.dpt ∧ p.shown.length ≤ d.ln
  | .non, _ => ⟨_, rfl, rfl, Nat.le_refl _, by decide⟩
  | .bl b, _ => ⟨_, rfl, rfl, Nat.le_refl _, by cases b <;> decide⟩
  | .int i, h => by
    have h1 : i.natAbs ≤ M := of_decide_eq_true h
    have h2 : i.natAbs.log2 < 1920 := by
      by_cases h0 : i.natAbs = 0
      · rw [h0]
        decide
      · refine (Nat.log2_lt h0).mpr (Nat.lt_of_le_of_lt (Nat.le_trans h1 hM) (by decide))
    exact ⟨_, rfl, decide_eq_true h2, Nat.le_refl _, int_text_len_1921 h2⟩
  | .str z, h => ⟨_, rfl, rfl, Nat.le_refl _, PySem.StrLaws.reprText_len z fun c hc => by
      have h1 := of_decide_eq_true (List.all_eq_true.mp (show z.cps.toList.all (fun c => decide (c < 128)) = true from h) c hc)
      exact Nat.lt_trans h1 (by decide)⟩
  | .lst xs, h => by
    obtain ⟨ps, e, h1, h2, h3⟩ := fits_pyW hM xs h
    refine ⟨.list ps, by show (D.pysE xs).map PyData.list = _; rw [e]; rfl, h1, Nat.succ_le_succ h2, ?_⟩
    refine Nat.le_trans (listText_len_le (PyData.shownAll ps)) ?_
    show _ ≤ D.lns xs + 3
    omega
  | .tup xs, h => by
    obtain ⟨ps, e, h1, h2, h3⟩ := fits_pyW hM xs h
    refine ⟨.tuple ps, by show (D.pysE xs).map PyData.tuple = _; rw [e]; rfl, h1, Nat.succ_le_succ h2, ?_⟩
    refine Nat.le_trans (tupleText_len_le (PyData.shownAll ps)) ?_
    show _ ≤ D.lns xs + 3
    omega
  | .dk [], _ => ⟨.dict [], rfl, rfl, by decide, by decide⟩
  | .dk (_ :: _), h => by cases (show false = true from h)
  | .ob _ _, h => by cases (show false = true from h)
  | .xo _ _, h => by cases (show false = true from h)
theorem fits_pyW {M : Nat} (hM : M ≤ 10 ^ 200) : ∀ ds : List D, D.fits M ds = true → ∃ ps, D.pysE ds = some ps ∧ PyData.showableAll ps = true ∧ PyData.depthAll ps ≤ D.dpts ds ∧ ((PyData.shownAll ps).map (·.length)).sum + 2 * (PyData.shownAll ps).length ≤ D.lns ds
  | [], _ => ⟨[], rfl, rfl, Nat.le_refl _, Nat.le_refl _⟩
  | d :: ds, h => by
    have e : D.fits M (d :: ds) = (D.fit M d && D.fits M ds) := rfl
    rw [e, Bool.and_eq_true] at h
    obtain ⟨p, a1, a2, a3, a4⟩ := fit_pyW hM d h.1
    obtain ⟨ps, b1, b2, b3, b4⟩ := fits_pyW hM ds h.2
    refine ⟨p :: ps, ?_, ?_, ?_, ?_⟩
    · show ((D.pyE d).bind fun p => (D.pysE ds).map fun ps => p :: ps) = _
      rw [a1, b1]
      rfl
    · show (p.showable && PyData.showableAll ps) = true
      rw [a2, b2]
      rfl
    · show max p.depth (PyData.depthAll ps) ≤ max d.dpt (D.dpts ds)
      omega
    · show ((p.shown.length :: (PyData.shownAll ps).map (·.length)).sum + 2 * ((PyData.shownAll ps).length + 1)) ≤ d.ln + 2 + D.lns ds
      rw [List.sum_cons]
      omega
end
theorem cw_reprW {K : PySem.W.Frag} {os : Os} {Q : Sv → Os → Prop} {M : Nat} {x : D} (hM : M ≤ 10 ^ 200) (h : x.fit M = true) (hl : x.ln ≤ 10000000) (hd : x.dpt ≤ 60) (q : Q (.d (.str (shownD x))) os) : CW K (rReprA K) [.d x] os Q := by
  obtain ⟨p, e, h1, h2, h3⟩ := fit_pyW hM x h
  have es : shownD x = p.shown := by
    unfold shownD
    rw [e]
  rw [es] at q
  exact cw_pure (fun as H vs Q' R r k => by
    cases r with
    | cons h t =>
      cases t
      exact ⟨as, _, x, p, rfl, h, e, h1, by omega, Nat.le_trans h3 (Nat.le_trans hl (by decide)), k _ (.str _)⟩) q
end Br

/-! BrSo: sorted and min of lists of data. -/
namespace Br
open PySem PySem.Spec PyProof.Rows L2
/-- sorted of a list whose items read as data -/
def rSortD (K : PySem.W.Frag) : List V → Hp → VK → Prop := fun vs H Q => ∃ (a : Addr) (ε : Type) (bs : List (V × ε)) (enc : ε → PyData), vs = [.ref a] ∧ SqL K H a (bs.map Prod.fst) ∧ (∀ b ∈ bs, Dp K H b.1 (enc b.2)) ∧
  PySem.W.AllAlike (bs.map fun b => enc b.2) ∧ PySem.W.Sortable (bs.map fun b => enc b.2) ∧ (∀ b ∈ bs, (enc b.2).depth ≤ 40) ∧
  ∀ p, H p = none → Q (.ref p) (upd H p (.lst ((bs.mergeSort (PySem.W.dataLe false fun b => enc b.2)).map Prod.fst)))
theorem each_vals {ε : Type} : ∀ {bs : List (V × ε)} {us : List Value}, Vals (bs.map Prod.fst) us → PySem.W.EachIs (fun u b => RelV b.1 u) us bs
  | [], _, h => by
    cases h
    exact .nil
  | b :: bs, _, h => by
    have h' : Vals (b.1 :: bs.map Prod.fst) _ := h
    cases h' with
    | cons h1 h2 => exact .cons h1 (each_vals h2)
theorem vals_each {ε : Type} : ∀ {bs : List (V × ε)} {us : List Value}, PySem.W.EachIs (fun u b => RelV b.1 u) us bs → Vals (bs.map Prod.fst) us
  | _, _, .nil => .nil
  | _, _, .cons h1 h2 => .cons h1 (vals_each h2)
section
variable {X : Cx}
theorem cr_sortD (hu : X.A.units + 64 < cLine) : CallR X (.builtin "sorted") (rSortD X.K) := by
  intro pins s σ H vs us Q I r h
  obtain ⟨a, ε, bs, enc, rfl, hs, hdp, hal, hso, hde, q⟩ := h
  obtain ⟨its, rv, hl, hz⟩ := I.list hs
  obtain ⟨u, rfl, ru⟩ := vals1 r
  obtain rfl : u = Value.ref a := ru
  have e := each_vals rv
  rw [List.length_map] at hz
  refine PySem.W.sorted_data (enc := fun b : V × ε => enc b.2) hl.isList e ((PySem.W.each_mem e).mono fun u b z => Dp.reads I _ _ _ (hdp b z.2) z.1) hal hso hz (fun b hb => ?_) fun out hlen he => ?_
  · have := hde b hb
    omega
  · obtain ⟨c, hc⟩ := PyProof.Rows.sortedAll_at s.heap its (List.toArray out)
    refine ⟨.ref _, upd H (s.heap.objs.size + 1) (.lst ((bs.mergeSort (PySem.W.dataLe false fun b => enc b.2)).map Prod.fst)), I.laid (t' := s.toks) (fun _ _ => PyProof.Rows.sortedAll_old) (Nat.le_succ _) ⟨?_, out, c, vals_each he, hc⟩, rfl, q _ (I.hok.fresh (Nat.le_succ _))⟩
    rw [List.length_map, List.length_mergeSort]
    exact hz
end
section
variable {K : PySem.W.Frag} {as : List Addr} {H : Hp}
theorem dxA_zip {ε : Type} {f : ε → D} : ∀ {vs : List V} {es : List ε}, DxA K as H vs (es.map f) → (vs.zip es).map Prod.fst = vs ∧ (vs.zip es).map Prod.snd = es ∧ ∀ b ∈ vs.zip es, Dx K as H b.1 (f b.2)
  | _, [], h => by
    cases h
    exact ⟨rfl, rfl, fun b hb => nomatch hb⟩
  | _, e :: es, h => by
    cases h with
    | cons h r =>
      obtain ⟨a, b, c⟩ := dxA_zip r
      refine ⟨?_, ?_, fun x hx => ?_⟩
      · rw [List.zip_cons_cons, List.map_cons, a]
      · rw [List.zip_cons_cons, List.map_cons, b]
      · rw [List.zip_cons_cons] at hx
        rcases List.mem_cons.mp hx with rfl | hx
        · exact h
        · exact c x hx
theorem dxA_each {ε : Type} {f : ε → D} : ∀ {bs : List (V × ε)}, (∀ b ∈ bs, Dx K as H b.1 (f b.2)) → DxA K as H (bs.map Prod.fst) ((bs.map Prod.snd).map f)
  | [], _ => .nil
  | b :: bs, h => .cons (h b List.mem_cons_self) (dxA_each fun x hx => h x (List.mem_cons_of_mem _ hx))
theorem cw_sortD {os : Os} {Q : Sv → Os → Prop} {ε : Type} {es : List ε} {f : ε → D} {enc : ε → PyData} {ds : List D} (hds : ds = es.map f) (hp : ∀ e ∈ es, (f e).py = some (enc e)) (hal : PySem.W.AllAlike (es.map enc)) (hso : PySem.W.Sortable (es.map enc)) (hde : ∀ e ∈ es, (enc e).depth ≤ 40)
    (q : Q (.d (.lst ((es.mergeSort (PySem.W.dataLe false enc)).map f))) os) : CW K (rSortD K) [.d (.lst ds)] os Q := fun as H vs Q' R r k => by
  subst hds
  cases r with
  | cons h t =>
    cases t
    cases (show Dx K as H _ (.lst (es.map f)) from h) with
    | @lst a xs _ hl hr =>
      obtain ⟨e1, e2, e3⟩ := dxA_zip hr
      have em : ∀ b ∈ xs.zip es, b.2 ∈ es := fun b hb => by rw [← e2]; exact List.mem_map.mpr ⟨b, hb, rfl⟩
      have ee : (xs.zip es).map (fun b => enc b.2) = es.map enc := by
        conv => rhs; rw [← e2]
        rw [List.map_map]; rfl
      refine ⟨a, ε, xs.zip es, enc, rfl, by rw [e1]; exact hl.sq, fun b hb => Dx.dp (e3 b hb) (hp b.2 (em b hb)), by rw [ee]; exact hal, by rw [ee]; exact hso, fun b hb => hde b.2 (em b hb), fun p hp0 => ?_⟩
      have es2 : ((xs.zip es).mergeSort (PySem.W.dataLe false fun b => enc b.2)).map Prod.snd = es.mergeSort (PySem.W.dataLe false enc) := by
        exact (List.map_mergeSort (r := PySem.W.dataLe false fun b : V × ε => enc b.2) (s := PySem.W.dataLe false enc) (f := Prod.snd) (fun _ _ _ _ => rfl)).trans (by rw [e2])
      have z := dxA_each (bs := (xs.zip es).mergeSort (PySem.W.dataLe false fun b => enc b.2)) (f := f) (K := K) (as := as) (H := H) fun b hb => e3 b (List.mem_mergeSort.mp hb)
      rw [es2] at z
      exact k (.ref p) _ (.d (.lst _)) os (Go.new hp0) (R.new hp0) (dx_newL R hp0 z) q
end
/-! ### min of a list of rows of numbers -/
def rMinL (K : PySem.W.Frag) : List V → Hp → VK → Prop := fun vs H Q => ∃ (a : Addr) (xs : List V) (x : PyData) (ds : List PyData), vs = [.ref a] ∧ SqL K H a xs ∧ DpAll K H xs (x :: ds) ∧ PySem.W.AlikeAll (x :: ds) ∧ PyData.depthAll (x :: ds) ≤ 40 ∧
  ∀ (i : Nat) v, xs[i]? = some v → (x :: ds)[i]? = some (PySem.W.minD x ds) → Q v H
theorem vals_at : ∀ {xs : List V} {us : List Value} {i : Nat} {u : Value}, Vals xs us → us[i]? = some u → ∃ v, xs[i]? = some v ∧ RelV v u
  | _, _, _, _, .nil, e => by simp at e
  | _, _, 0, _, .cons h _, e => by
    simp at e
    subst e
    exact ⟨_, rfl, h⟩
  | _, _, i + 1, _, .cons _ r, e => by
    simp at e
    obtain ⟨v, a, b⟩ := vals_at r e
    exact ⟨v, by simpa using a, b⟩
theorem dpAll_at {K : PySem.W.Frag} {H : Hp} : ∀ {xs : List V} {ds : List PyData} {i : Nat} {v : V}, DpAll K H xs ds → xs[i]? = some v → ∃ d, ds[i]? = some d ∧ Dp K H v d
  | _, _, _, _, .nil, e => by simp at e
  | _, _, 0, _, .cons h _, e => by
    simp at e
    subst e
    exact ⟨_, rfl, h⟩
  | _, _, i + 1, _, .cons _ r, e => by
    simp at e
    obtain ⟨v, a, b⟩ := dpAll_at r e
    exact ⟨v, by simpa using a, b⟩
section
variable {X : Cx}
theorem cr_minL (hc : X.calm = true) (hu : X.A.units + 64 < cLine) : CallR X (.builtin "min") (rMinL X.K) := by
  intro pins s σ H vs us Q I r h
  obtain ⟨a, xs, x, ds, rfl, hs, hdp, hal, hde, q⟩ := h
  obtain ⟨its, rv, hl, hz⟩ := I.list hs
  obtain ⟨u, rfl, ru⟩ := vals1 r
  obtain rfl : u = Value.ref a := ru
  obtain ⟨bs, hr⟩ := Dp.readsAll I (x :: ds) xs its hdp rv
  refine PySem.W.min_list_data (I.ok.hd hc) hl.isList (by simpa using hr) hal (by omega) fun i v h' tk cs hi hv hk => ?_
  have hi2 : its[i]? = some v := by simpa using hi
  obtain ⟨z, hz1, hz2⟩ := vals_at rv hi2
  obtain ⟨d, hd1, hd2⟩ := dpAll_at hdp hz1
  obtain ⟨es, hr2⟩ := Dp.reads I d z v hd2 hz2
  have hr3 := PyProof.Rows.Reads.keeps hk hr2
  have e := (Reads.unique hr3 _ _ hv).1
  exact ⟨z, H, I.kept hk, hz2, q i z hz1 (by rw [hd1, e])⟩
end
section
variable {K : PySem.W.Frag} {os : Os} {Q : Sv → Os → Prop}
theorem dpAll_map {as : List Addr} {H : Hp} {ε : Type} {f : ε → D} {enc : ε → PyData} : ∀ {vs : List V} {es : List ε}, DxA K as H vs (es.map f) → (∀ e ∈ es, (f e).py = some (enc e)) → DpAll K H vs (es.map enc)
  | _, [], h, _ => by
    cases h
    exact .nil
  | _, e :: es, h, g => by
    cases h with
    | cons h r => exact .cons (Dx.dp h (g e List.mem_cons_self)) (dpAll_map r fun x hx => g x (List.mem_cons_of_mem _ hx))
theorem cw_minL {ε : Type} {e0 : ε} {es : List ε} {f : ε → D} {enc : ε → PyData} {ds : List D} (hds : ds = (e0 :: es).map f) (hp : ∀ e ∈ e0 :: es, (f e).py = some (enc e)) (hal : PySem.W.AlikeAll ((e0 :: es).map enc)) (hde : PyData.depthAll ((e0 :: es).map enc) ≤ 40)
    (q : ∀ e ∈ e0 :: es, enc e = PySem.W.minD (enc e0) (es.map enc) → Q (.d (f e)) os) : CW K (rMinL K) [.d (.lst ds)] os Q := fun as H vs Q' R r k => by
  subst hds
  cases r with
  | cons h t =>
    cases t
    cases (show Dx K as H _ (.lst ((e0 :: es).map f)) from h) with
    | @lst a xs _ hl hr =>
      refine ⟨a, xs, enc e0, es.map enc, rfl, hl.sq, dpAll_map hr hp, hal, hde, fun i v hv hi => ?_⟩
      · have hi' : ((e0 :: es).map enc)[i]? = some (PySem.W.minD (enc e0) (es.map enc)) := hi
        rw [List.getElem?_map] at hi'
        obtain ⟨e, he1, he2⟩ := Option.map_eq_some_iff.mp hi'
        obtain ⟨dd, hd1, hd2⟩ := DxA.getV hr hv
        rw [List.getElem?_map, he1] at hd1
        cases hd1
        exact k v H (.d (f e)) os (Go.refl _ _) R hd2 (q e (List.mem_of_getElem? he1) he2)
end
end Br

/-! BrL2: a comprehension of two clauses. -/
namespace Br
open PySem PySem.Spec PyProof.Rows L2
section
variable {K : PySem.W.Frag} {X : Xc} {S : Sa} {wi wi1 : TI} {g g1 : TG} {tt tt1 : TT} {te : TE} {Q : Sv → Os → Prop}
theorem ew_lc2 {vs vs1 : List Nat} (hg : Wg g vs) (hm : Mg g) (hg1 : Wg g1 vs1) (hm1 : Mg g1) (h : IW K X wi S fun ds os => ∃ Pv : Nat → List D → Os → Prop, Pv 0 [] os ∧
      (∀ i d acc os', ds[i]? = some d → Pv i acc os' → GW K g (.d d) ⟨wipeS S.s vs, os' ++ [.ml acc]⟩ fun S2 => TW K X0 tt S2 fun b os2 =>
        if b = true then IW K X0 wi1 ⟨S2.s, os2⟩ fun ds1 os3 => ∃ Pw : Nat → List D → Os → Prop, (∃ os4, os3 = os4 ++ [.ml acc] ∧ Pw 0 acc os4) ∧
          (∀ j d1 acc1 os4, ds1[j]? = some d1 → Pw j acc1 os4 → GW K g1 (.d d1) ⟨wipeS S2.s vs1, os4 ++ [.ml acc1]⟩ fun S3 => TW K X0 tt1 S3 fun b1 os5 =>
            if b1 = true then EW K X0 te ⟨S3.s, os5⟩ fun y os6 => ∃ z os7, y = .d z ∧ os6 = os7 ++ [.ml acc1] ∧ acc1.length < sizeLine ∧ Pw (j + 1) (acc1 ++ [z]) os7 else ∃ os7, os5 = os7 ++ [.ml acc1] ∧ Pw (j + 1) acc1 os7) ∧
          ∀ acc1 os4, Pw ds1.length acc1 os4 → Pv (i + 1) acc1 os4
        else ∃ os4, os2 = os4 ++ [.ml acc] ∧ Pv (i + 1) acc os4) ∧
      ∀ acc os', Pv ds.length acc os' → Q (.d (.lst acc)) os') : EW K X (tLc2 wi g tt wi1 g1 tt1 te vs vs1) S Q := fun as H σ Q' R x k =>
  h as H σ _ R x fun J H1 ds os1 g1' R1 it ⟨Pv, p0, turn, fin⟩ Dl hD => by
    have R1' := R.go g1' R1
    refine ⟨fun i m H2 => m = ds.length - i ∧ i ≤ ds.length ∧ ∃ acc os2, Stp as H1 (as ++ [Dl]) H2 ∧ Re K (as ++ [Dl]) H2 σ ⟨S.s, os2 ++ [.ml acc]⟩ ∧ Pv i acc os2, ⟨_, rfl, Nat.zero_le _, [], os1, ?_, ?_, p0⟩, ?_⟩
    · exact ⟨⟨[Dl], rfl, fun a ha => by rw [List.mem_singleton.mp ha]; exact hD⟩, Go.new hD, fun a ha => by
        by_cases e : a = Dl
        · rw [e]
          exact hD
        · rw [upd_ne e] at ha
          exact ha⟩
    · refine ⟨ro_add R1 hD, R1'.slen, fun i d hd => ?_⟩
      obtain ⟨u, e, r⟩ := R1'.slot i d hd
      refine ⟨u, e, ?_⟩
      have r2 := r.wayA hD
      exact r2.go (Go.at (by simp))
    rintro i m H2 ⟨rfl, hi, acc, os2, s2, R2, p⟩
    by_cases hlt : i < ds.length
    · have hd : ds[i]? = some ds[i] := List.getElem?_eq_getElem hlt
      obtain ⟨hgo, hy⟩ := (it _ H2 _ s2 R2.o i).1 _ hd
      refine .inr ⟨hgo, fun H' => ∃ acc os3, Stp as H1 (as ++ [Dl]) H' ∧ Re K (as ++ [Dl]) H' σ ⟨S.s, os3 ++ [.ml acc]⟩ ∧ Pv (i + 1) acc os3, fun H' z => ⟨ds.length - (i + 1), by omega, rfl, hlt, z⟩, fun y H3 hyl => ?_⟩
      obtain ⟨g3, R3, r3⟩ := hy y H3 hyl
      have R3' := R2.go g3 R3
      have s3 : Stp as H1 (as ++ [Dl]) H3 := s2.trans (Stp.of_go g3 R3)
      have base := turn i _ acc os2 hd p (as ++ [Dl]) H3 (wipe σ vs) y (fun σ2 H4 => H4 = H3 ∧ ∃ S2, Re K (as ++ [Dl]) H3 σ2 S2 ∧ TW K X0 tt S2 fun b os2 =>
        if b = true then IW K X0 wi1 ⟨S2.s, os2⟩ fun ds1 os3 => ∃ Pw : Nat → List D → Os → Prop, (∃ os4, os3 = os4 ++ [.ml acc] ∧ Pw 0 acc os4) ∧
          (∀ j d1 acc1 os4, ds1[j]? = some d1 → Pw j acc1 os4 → GW K g1 (.d d1) ⟨wipeS S2.s vs1, os4 ++ [.ml acc1]⟩ fun S3 => TW K X0 tt1 S3 fun b1 os5 =>
            if b1 = true then EW K X0 te ⟨S3.s, os5⟩ fun y os6 => ∃ z os7, y = .d z ∧ os6 = os7 ++ [.ml acc1] ∧ acc1.length < sizeLine ∧ Pw (j + 1) (acc1 ++ [z]) os7 else ∃ os7, os5 = os7 ++ [.ml acc1] ∧ Pw (j + 1) acc1 os7) ∧
          ∀ acc1 os4, Pw ds1.length acc1 os4 → Pv (i + 1) acc1 os4
        else ∃ os4, os2 = os4 ++ [.ml acc] ∧ Pv (i + 1) acc os4) (re_wipe R3') r3 fun σ2 S2 R4 q => ⟨rfl, S2, R4, q⟩
      refine hm _ _ _ _ _ ?_ (hg _ _ _ _ base)
      rintro σ2 H4 ⟨⟨rfl, S2, R4, tw⟩, hl, ho⟩
      refine ⟨(wipe_ext hl fun i hi => ho i hi).trans (wipe_ext (wipe_length σ vs) fun i hi => wipe_out1 hi), ?_⟩
      refine tw _ H4 σ2 _ R4 XH.x0 fun b H5 os5 g5 R5 q5 => ?_
      have s5 := s3.trans (Stp.of_go g5 R5)
      cases b with
      | false =>
        obtain ⟨os4, rfl, q6⟩ := (show ∃ os4, os5 = os4 ++ [.ml acc] ∧ Pv (i + 1) acc os4 from q5)
        show ∃ acc os3, _
        exact ⟨acc, os4, s5, R3'.go g5 R5, q6⟩
      | true =>
        show wi1 σ2 H5 _
        refine (show IW K X0 wi1 ⟨S2.s, os5⟩ _ from q5) _ H5 σ2 _ (R4.go g5 R5) XH.x0 fun J1 H6 ds1 os6 g6 R6 it1 ⟨Pw, ⟨os7, eo, w0⟩, turn1, fin1⟩ => ?_
        subst eo
        have s6 := s5.trans (Stp.of_go g6 R6)
        have R46 := (R4.go g5 R5).go g6 R6
        refine ⟨fun j m H7 => m = ds1.length - j ∧ j ≤ ds1.length ∧ ∃ acc1 os8, Go (as ++ [Dl]) H6 H7 ∧ Stp as H1 (as ++ [Dl]) H7 ∧ Ro K (as ++ [Dl]) H7 (os8 ++ [.ml acc1]) ∧ Pw j acc1 os8, ⟨_, rfl, Nat.zero_le _, acc, os7, Go.refl _ _, s6, R6, w0⟩, ?_⟩
        rintro j m H7 ⟨rfl, hj, acc1, os8, g7, s7, R7, w⟩
        by_cases hlt1 : j < ds1.length
        · have hd1 : ds1[j]? = some ds1[j] := List.getElem?_eq_getElem hlt1
          obtain ⟨hgo1, hy1⟩ := (it1 _ H7 _ (Stp.of_go g7 R7) R7 j).1 _ hd1
          refine .inr ⟨hgo1, fun H' => ∃ acc1 os9, Go (as ++ [Dl]) H6 H' ∧ Stp as H1 (as ++ [Dl]) H' ∧ Ro K (as ++ [Dl]) H' (os9 ++ [.ml acc1]) ∧ Pw (j + 1) acc1 os9, fun H' z => ⟨ds1.length - (j + 1), by omega, rfl, hlt1, z⟩, fun y H8 hyl => ?_⟩
          obtain ⟨g8, R8, r8⟩ := hy1 y H8 hyl
          have s8 := s7.trans (Stp.of_go g8 R8)
          have R8' := R46.go (g7.trans g8) R8
          have base1 := turn1 j _ acc1 os8 hd1 w (as ++ [Dl]) H8 (wipe σ2 vs1) y (fun σ3 H9 => H9 = H8 ∧ ∃ S3, Re K (as ++ [Dl]) H8 σ3 S3 ∧ TW K X0 tt1 S3 fun b1 os5 =>
            if b1 = true then EW K X0 te ⟨S3.s, os5⟩ fun y os6 => ∃ z os7, y = .d z ∧ os6 = os7 ++ [.ml acc1] ∧ acc1.length < sizeLine ∧ Pw (j + 1) (acc1 ++ [z]) os7 else ∃ os7, os5 = os7 ++ [.ml acc1] ∧ Pw (j + 1) acc1 os7) (re_wipe R8') r8 fun σ3 S3 R9 q => ⟨rfl, S3, R9, q⟩
          refine hm1 _ _ _ _ _ ?_ (hg1 _ _ _ _ base1)
          rintro σ3 H9 ⟨⟨rfl, S3, R9, tw1⟩, hl1, ho1⟩
          refine ⟨(wipe_ext hl1 fun i hi => ho1 i hi).trans (wipe_ext (wipe_length σ2 vs1) fun i hi => wipe_out1 hi), ?_⟩
          refine tw1 _ H9 σ3 _ R9 XH.x0 fun b1 H10 os10 g10 R10 q10 => ?_
          have s10 := s8.trans (Stp.of_go g10 R10)
          cases b1 with
          | false =>
            obtain ⟨os11, rfl, q11⟩ := (show ∃ os7, os10 = os7 ++ [.ml acc1] ∧ Pw (j + 1) acc1 os7 from q10)
            show ∃ acc1 os9, _
            exact ⟨acc1, os11, (g7.trans g8).trans g10, s10, R10, q11⟩
          | true =>
            show te σ3 H10 _
            refine (show EW K X0 te ⟨S3.s, os10⟩ _ from q10) _ H10 σ3 _ (R9.go g10 R10) XH.x0 fun u H11 e os11 g11 R11 r11 ⟨z, os12, ez, eo, hz, q12⟩ => ?_
            subst ez
            subst eo
            obtain ⟨ws, ew, rw'⟩ := (ro_drop R11).2.1
            refine ⟨ws, ew, by rw [rw'.length]; exact hz, acc1 ++ [z], os12, ?_, ?_, ro_grow R11 ew r11, q12⟩
            · exact (((g7.trans g8).trans g10).trans g11).trans (Go.at (by simp))
            · exact (s10.trans (Stp.of_go g11 R11)).trans (Stp.of_go (Go.at (by simp)) (ro_grow R11 ew r11))
        · have e : j = ds1.length := by omega
          subst e
          exact .inl ⟨(it1 _ H7 _ (Stp.of_go g7 R7) R7 _).2 (Nat.le_refl _), acc1, os8, s7, (R3'.go ((g5.trans g6).trans g7) R7), fin1 acc1 os8 w⟩
    · have e : i = ds.length := by omega
      subst e
      obtain ⟨Rd, ob, nin⟩ := ro_drop R2.o
      obtain ⟨ws, ew, rw'⟩ := ob
      exact .inl ⟨(it _ H2 _ s2 R2.o _).2 (Nat.le_refl _), k (.ref Dl) H2 (.d (.lst acc)) os2 (g1'.trans s2.go) Rd (Dx.lst (.inl ⟨nin, .inl ew⟩) rw') (fin acc os2 p)⟩
end
end Br

/-! BrIn: in over a tuple of data; three comparisons in a chain; max of two numbers. -/
namespace Br
open PySem PySem.Spec PyProof.Rows L2
def rInTD (K : PySem.W.Frag) (neg : Bool) : R2 := fun x y H Q => ∃ d ds, Dp K H x d ∧ Dp K H y (.tuple ds) ∧ SeqAt.shaped d = true ∧ SeqAt.shaped (.tuple ds) = true ∧ Q (.bl (neg != ds.any fun z => PyData.eqv z d)) H
def rMax2 : List V → Hp → VK → Prop := fun xs H Q => ∃ i j, xs = [.int i, .int j] ∧ Q (.int (if j > i then j else i)) H
section
variable {X : Cx}
theorem op_inTD (hu : X.A.units + 64 < cLine) : OpR X (compareOp .In) (rInTD X.K false) := by
  intro pins s σ H x y v u Q I rx ry h
  obtain ⟨d, ds, hd, he, sd, se, q⟩ := h
  obtain ⟨as, r1⟩ := Dp.reads I d x v hd rx
  obtain ⟨bs, r2⟩ := Dp.reads I (.tuple ds) y u he ry
  have h1 := SeqAt.depth_of_shaped sd
  refine SeqAt.in_tuple_reads r2 r1 (SeqAt.canLay_of_shaped se) (SeqAt.canLay_of_shaped sd) ?_ ⟨.bl _, H, I, rfl, ?_⟩
  · have h2 : min (PyData.depthAll ds) d.depth ≤ PyData.depthAll ds := Nat.min_le_left _ _
    have h3 := SeqAt.depth_of_shaped se
    have h4 : (PyData.tuple ds).depth = PyData.depthAll ds + 1 := by simp [PyData.depth]
    omega
  · simpa using q
theorem op_notInTD (hu : X.A.units + 64 < cLine) : OpR X (compareOp .NotIn) (rInTD X.K true) := by
  intro pins s σ H x y v u Q I rx ry h
  obtain ⟨d, ds, hd, he, sd, se, q⟩ := h
  obtain ⟨as, r1⟩ := Dp.reads I d x v hd rx
  obtain ⟨bs, r2⟩ := Dp.reads I (.tuple ds) y u he ry
  refine SeqAt.notIn_tuple_reads r2 r1 (SeqAt.canLay_of_shaped se) (SeqAt.canLay_of_shaped sd) ?_ ⟨.bl _, H, I, rfl, ?_⟩
  · have h2 : min (PyData.depthAll ds) d.depth ≤ PyData.depthAll ds := Nat.min_le_left _ _
    have h3 := SeqAt.depth_of_shaped se
    have h4 : (PyData.tuple ds).depth = PyData.depthAll ds + 1 := by simp [PyData.depth]
    omega
  · simpa using q
theorem call_max2A (hc : X.calm = true) : CallR X (.builtin "max") rMax2 := call_max2 hc
theorem pe_fldK {K : PySem.W.Frag} {e : Expr} {f : Str} {pos : Pos} {ta : TE} (hK : X.K = K) (he : PE X e ta) (hb : attributeBase e f X.env (eval e X.env) = eval e X.env) : PE X (.Attribute e f pos) (tFld K ta f) := by
  subst hK
  exact pe_fld he hb
/-- a op1 b op2 c op3 d -/
def tChain3 (r r' r'' : R2) (ta tb tc td : TE) : TE := fun σ H Q => ta σ H fun x H1 => tb σ H1 fun y H2 => r x y H2 fun z H3 => ∃ k, z = .bl k ∧
  (if k = true then tc σ H3 fun w' H4 => r' y w' H4 fun z2 H5 => ∃ k2, z2 = .bl k2 ∧ (if k2 = true then td σ H5 fun v' H6 => r'' w' v' H6 Q else Q (.bl false) H5) else Q (.bl false) H3)
variable {a b c d : Expr} {ta tb tc td : TE} {pos : Pos}
theorem pe_chain3 {op op' op'' : CmpOp} {r r' r'' : R2} (ho : OpR X (compareOp op) r) (ho' : OpR X (compareOp op') r') (ho'' : OpR X (compareOp op'') r'') (ha : PE X a ta) (hb : PE X b tb) (hc : PE X c tc) (hd : PE X d td)
    (hm : lastMarks [op, op', op''] [b, c, d] = false := by with_unfolding_all rfl) : PE X (.Compare a [op, op', op''] [b, c, d] pos) (tChain3 r r' r'' ta tb tc td) := by
  refine ⟨fun pins s σ H Q I h => ?_⟩
  refine Compare_chain (thn (ha.run pins s σ H _ I h) fun v s1 ⟨x, H1, I1, r1, q1⟩ => chain_link (thn (hb.run pins s1 σ H1 _ I1 q1) fun u s2 ⟨y, H2, I2, r2, q2⟩ =>
    thn (ho pins s2 σ H2 x y v u _ I2 r1 r2 q2) fun d s3 ⟨z, H3, I3, r3, k, e, q3⟩ => ?_)) hm
  subst e
  cases r3
  refine wpAny_truthy_bool ?_
  cases k with
  | false => exact ite_ff ⟨.bl false, H3, I3, rfl, q3⟩
  | true =>
    refine ite_tt (chain_link (thn (hc.run pins s3 σ H3 _ I3 q3) fun w' s4 ⟨z', H4, I4, r4, q4⟩ => thn (ho' pins s4 σ H4 y z' u w' _ I4 r2 r4 q4) fun d' s5 ⟨z2, H5, I5, r5, k2, e2, q5⟩ => ?_))
    subst e2
    cases r5
    refine wpAny_truthy_bool ?_
    cases k2 with
    | false => exact ite_ff ⟨.bl false, H5, I5, rfl, q5⟩
    | true => exact ite_tt (chain_last (thn (hd.run pins s5 σ H5 _ I5 q5) fun x' s6 ⟨y', H6, I6, r6, q6⟩ => ho'' pins s6 σ H6 z' y' w' x' Q I6 r4 r6 q6))
end
section
variable {K : PySem.W.Frag} {X : Xc} {S : Sa} {os : Os} {Q : Sv → Os → Prop} {ta tb tc td : TE}
theorem ew_chain3 {r r' r'' : R2} (h : EW K X ta S fun x os1 => EW K X tb ⟨S.s, os1⟩ fun y os2 => BW K r x y os2 fun z os3 => ∃ b, z = .d (.bl b) ∧ if b = true then EW K X tc ⟨S.s, os3⟩ fun u os4 => BW K r' y u os4 fun z2 os5 =>
      ∃ b2, z2 = .d (.bl b2) ∧ if b2 = true then EW K X td ⟨S.s, os5⟩ fun u2 os6 => BW K r'' u u2 os6 Q else Q (.d (.bl false)) os5 else Q (.d (.bl false)) os3) : EW K X (tChain3 r r' r'' ta tb tc td) S Q := fun as H σ Q' R x k =>
  h as H σ _ R x fun v H1 d os1 g1 R1 r1 q1 => q1 as H1 σ _ (R.go g1 R1) (x.go g1 R1) fun u H2 e os2 g2 R2 r2 q2 => q2 as H2 v u _ R2 (r1.go g2) r2 fun z H3 f os3 g3 R3 r3 ⟨b, eb, q3⟩ => by
    subst eb
    cases r3
    refine ⟨b, rfl, ?_⟩
    have g := (g1.trans g2).trans g3
    cases b with
    | true =>
      show tc σ H3 _
      refine (show EW K X tc ⟨S.s, os3⟩ _ from q3) as H3 σ _ (R.go g R3) (x.go g R3) fun w H4 e4 os4 g4 R4 r4 q4 => q4 as H4 u w _ R4 ((r2.go g3).go g4) r4 fun z H5 d5 os5 g5 R5 r5 ⟨b2, eb2, q5⟩ => ?_
      subst eb2
      cases r5
      refine ⟨b2, rfl, ?_⟩
      have gg := (g.trans g4).trans g5
      cases b2 with
      | true =>
        show td σ H5 _
        exact (show EW K X td ⟨S.s, os5⟩ _ from q5) as H5 σ _ (R.go gg R5) (x.go gg R5) fun w2 H6 e6 os6 g6 R6 r6 q6 => q6 as H6 w w2 Q' R6 ((r4.go g5).go g6) r6 fun z H7 d7 os7 g7 R7 r7 q7 => k z H7 d7 os7 ((gg.trans g6).trans g7) R7 r7 q7
      | false =>
        show Q' (.bl false) H5
        exact k _ H5 (.d (.bl false)) os5 gg R5 (Dx.bl false) q5
    | false =>
      show Q' (.bl false) H3
      exact k _ H3 (.d (.bl false)) os3 g R3 (Dx.bl false) q3
theorem cw_max2 {i j : Int} (q : Q (.d (.int (max i j))) os) : CW K rMax2 [.d (.int i), .d (.int j)] os Q :=
  cw_pure (fun as H vs Q' R r k => by
    cases r with
    | cons h t =>
      cases t with
      | cons h2 t =>
        cases t
        cases h
        cases h2
        refine ⟨i, j, rfl, ?_⟩
        have e : (if j > i then j else i) = max i j := by omega
        rw [e]
        exact k _ (.int _)) q
theorem cw_minM {i j : Int} (q : Q (.d (.int (min i j))) os) : CW K rMin2 [.d (.int i), .d (.int j)] os Q :=
  cw_min2 (by
    have e : (if j < i then j else i) = min i j := by omega
    rw [e]
    exact q)
theorem bw_inTD {x y : D} {p : PyData} {ps : List PyData} {neg : Bool} (hx : x.py = some p) (hy : y.py = some (.tuple ps)) (sp : SeqAt.shaped p = true) (sr : SeqAt.shaped (.tuple ps) = true) (q : Q (.d (.bl (neg != ps.any fun z => PyData.eqv z p))) os) : BW K (rInTD K neg) (.d x) (.d y) os Q :=
  bw_pure (fun as H v u Q' R rx ry k => ⟨p, ps, Dx.dp rx hx, Dx.dp ry hy, sp, sr, k _ (.bl _)⟩) q
end
end Br

/-! BrRB: an instance whose fields are dicts that change; dicts read, walked under a lock, made by a comprehension; own methods; a def that makes several things of the store. -/
namespace Br
open PySem PySem.Spec PyProof.Rows L2
/-! ### what is read as a dict -/
def Ob.dct : Ob → Option (List (Key × D))
  | .md kds => some kds
  | .mp _ kds => some kds
  | .lp _ _ _ kds => some kds
  | _ => none
def dctS : Sv → Os → Option (List (Key × D))
  | .d (.dk kds), _ => some kds
  | .o k, os => os[k]?.bind Ob.dct
  | _, _ => none
def Ob.at? : Ob → Option Addr
  | .mp p _ => some p
  | .lp p _ _ _ => some p
  | _ => none
section
variable {K : PySem.W.Frag} {as bs : List Addr} {H H' : Hp} {os : Os} {v : V} {x : Sv}
theorem dct_obr {a : Addr} {ob : Ob} {kds : List (Key × D)} (h : ObR K as H a ob) (e : ob.dct = some kds) : ∃ vs, Rd H a (.dK vs) ∧ DxP K as H vs kds := by
  cases ob with
  | md k2 =>
    obtain ⟨vs, h1, h2⟩ := h
    cases e
    exact ⟨vs, .inl h1, h2⟩
  | mp p k2 =>
    obtain ⟨vs, h1, _, h2⟩ := h
    cases e
    exact ⟨vs, .inl h1, h2⟩
  | lp p od vs k2 =>
    obtain ⟨h1, _, h2⟩ := h
    cases e
    exact ⟨vs, .inr ⟨od, h1⟩, h2⟩
  | _ => cases e
theorem dct_rd {kds : List (Key × D)} (R : Ro K as H os) (r : SvR K as H v x) (e : dctS x os = some kds) : ∃ a vs, v = .ref a ∧ Rd H a (.dK vs) ∧ DxP K as H vs kds := by
  cases x with
  | d y =>
    cases y with
    | dk k2 =>
      cases e
      cases (show Dx K as H v (.dk kds) from r) with
      | @dk a vs _ n h1 h2 => exact ⟨a, vs, rfl, h1, h2⟩
    | _ => cases e
  | o k =>
    obtain ⟨a, ea, rfl⟩ := r
    obtain ⟨ob, eo, ek⟩ := Option.bind_eq_some_iff.mp (show os[k]?.bind Ob.dct = some kds from e)
    obtain ⟨vs, h1, h2⟩ := dct_obr (R.own k a ob ea eo) ek
    exact ⟨a, vs, rfl, h1, h2⟩
  | fn f r => cases e
theorem DxP.lookN {k : Key} : ∀ {vs : List (Key × V)} {ds : List (Key × D)}, DxP K as H vs ds → lookD ds k = none → valV vs k = none
  | _, _, .nil, _ => rfl
  | _, _, .cons (k := k2) (v := w) (d := d) (ds := ds) (vs := vs) h r, e => by
    by_cases hk : k2 = k
    · have e2 : some d = none := by rw [← e]; simp [lookD, List.find?_cons, hk]
      cases e2
    · have e2 : lookD ds k = none := by rw [← e]; simp [lookD, List.find?_cons, hk]
      rw [valV_neg (p := (k2, w)) hk]
      exact DxP.lookN r e2
theorem DxP.lookS {k : Key} {vs : List (Key × V)} {ds : List (Key × D)} (h : DxP K as H vs ds) : (valV vs k).isSome = (lookD ds k).isSome := by
  cases e : lookD ds k with
  | none =>
    rw [h.lookN e]
    rfl
  | some z =>
    obtain ⟨u, h1, _⟩ := h.look e
    rw [h1]
    rfl
end
section
variable {K : PySem.W.Frag} {X : Xc} {S : Sa} {Q : Sv → Os → Prop} {td ty tx tv : TE} {E : Ea}
/-- d[y] -/
theorem ew_dgetX (h : EW K X td S fun x os1 => EW K X ty ⟨S.s, os1⟩ fun y os2 => ∃ kds key z, dctS x os2 = some kds ∧ y = .d (keyD key) ∧ lookD kds key = some z ∧ Q (.d z) os2) : EW K X (tDGet td ty) S Q := fun as H σ Q' R x k =>
  h as H σ _ R x fun v H1 d os1 g1 R1 r1 q1 => q1 as H1 σ _ (R.go g1 R1) (x.go g1 R1) fun u H2 e os2 g2 R2 r2 ⟨kds, key, z, ed, ey, el, q2⟩ => by
    subst ey
    obtain ⟨a, vs, ev, h1, h2⟩ := dct_rd R2 (r1.go g2) ed
    subst ev
    obtain ⟨w, h3, h4⟩ := h2.look el
    have hk := key_v r2
    subst hk
    exact ⟨a, w, rfl, .inl ⟨vs, key, h1, rfl, h3.symm⟩, k w H2 (.d z) os2 (g1.trans g2) R2 h4 q2⟩
/-- d.get(y, x) -/
theorem ew_dget2 (h : EW K X td S fun x os1 => ∃ kd0, dctS x os1 = some kd0 ∧ EW K X ty ⟨S.s, os1⟩ fun y os2 => EW K X tx ⟨S.s, os2⟩ fun z os3 => ∃ kds key d, dctS x os3 = some kds ∧ y = .d (keyD key) ∧ z = .d d ∧ Q (.d ((lookD kds key).getD d)) os3) : EW K X (tDGet2 td ty tx) S Q := fun as H σ Q' R x k =>
  h as H σ _ R x fun v H1 d os1 g1 R1 r1 ⟨kd0, ed0, q1⟩ => by
    obtain ⟨a, vs0, ev, h0, _⟩ := dct_rd R1 r1 ed0
    subst ev
    refine ⟨a, rfl, .inl ⟨vs0, h0⟩, q1 as H1 σ _ (R.go g1 R1) (x.go g1 R1) fun u H2 e os2 g2 R2 r2 q2 => q2 as H2 σ _ (R.go (g1.trans g2) R2) (x.go (g1.trans g2) R2) fun w H3 f os3 g3 R3 r3 ⟨kds, key, z, ed, ey, ez, q3⟩ => ?_⟩
    subst ey
    subst ez
    obtain ⟨a2, vs, ev, h1, h2⟩ := dct_rd R3 ((r1.go g2).go g3) ed
    cases ev
    have hk := key_v r2
    subst hk
    refine ⟨valV vs key, .inl ⟨vs, key, h1, rfl, rfl⟩, ?_⟩
    cases el : lookD kds key with
    | none =>
      rw [h2.lookN el]
      rw [el] at q3
      exact k w H3 (.d z) os3 ((g1.trans g2).trans g3) R3 r3 q3
    | some y =>
      obtain ⟨w2, h3, h4⟩ := h2.look el
      rw [h3]
      rw [el] at q3
      exact k w2 H3 (.d y) os3 ((g1.trans g2).trans g3) R3 h4 q3
/-- y in d -/
theorem ew_din (h : EW K X ty S fun y os1 => EW K X td ⟨S.s, os1⟩ fun x os2 => ∃ kds key, dctS x os2 = some kds ∧ y = .d (keyD key) ∧ Q (.d (.bl (lookD kds key).isSome)) os2) : EW K X (tDIn ty td) S Q := fun as H σ Q' R x k =>
  h as H σ _ R x fun u H1 d os1 g1 R1 r1 q1 => q1 as H1 σ _ (R.go g1 R1) (x.go g1 R1) fun v H2 e os2 g2 R2 r2 ⟨kds, key, ed, ey, q2⟩ => by
    subst ey
    obtain ⟨a, vs, ev, h1, h2⟩ := dct_rd R2 r2 ed
    subst ev
    have hk := key_v (r1.go g2)
    subst hk
    refine ⟨a, valV vs key, rfl, .inl ⟨vs, key, h1, rfl, rfl⟩, ?_⟩
    rw [h2.lookS]
    exact k _ H2 (.d (.bl _)) os2 (g1.trans g2) R2 (Dx.bl _) q2
/-! ### fields that are things of the store -/
theorem lookup_refs {fs : List (Str × Addr)} {f : Str} {p : Addr} (h : fs.lookup f = some p) : (fs.map fun f => (f.1, V.ref f.2)).lookup f = some (V.ref p) := by
  induction fs with
  | nil => cases h
  | cons g r ih =>
    rw [List.map_cons, List.lookup_cons]
    rw [List.lookup_cons] at h
    show (match f == g.1 with | true => some (V.ref g.2) | false => _) = _
    cases e : f == g.1 with
    | true =>
      rw [e] at h
      cases h
      rfl
    | false =>
      rw [e] at h
      exact ih h
theorem lookup_refsN {fs : List (Str × Addr)} {f : Str} (h : fs.lookup f = none) : (fs.map fun f => (f.1, V.ref f.2)).lookup f = none := by
  induction fs with
  | nil => rfl
  | cons g r ih =>
    rw [List.map_cons, List.lookup_cons]
    rw [List.lookup_cons] at h
    show (match f == g.1 with | true => some (V.ref g.2) | false => _) = _
    cases e : f == g.1 with
    | true =>
      rw [e] at h
      cases h
    | false =>
      rw [e] at h
      exact ih h
theorem putF_new {f : Str} {v : V} : ∀ {fs : List (Str × V)}, fs.lookup f = none → putF f v fs = fs ++ [(f, v)]
  | [], _ => rfl
  | (g, x) :: r, h => by
    rw [List.lookup_cons] at h
    unfold putF
    split at h
    · cases h
    · rename_i e
      have hne : ¬ g = f := fun z => by simp [z] at e
      rw [if_neg hne, putF_new h]
      rfl
theorem ew_fldR {te : TE} {f : Str} (h : EW K X te S fun x os => ∃ j C fs p k ob, x = .o j ∧ os[j]? = some (.mr C fs) ∧ Cls K C ∧ NoAttr K C f ∧ fs.lookup f = some p ∧ os[k]? = some ob ∧ ob.at? = some p ∧ Q (.o k) os) : EW K X (tFld K te f) S Q := fun as H σ Q' R x k =>
  h as H σ _ R x fun v H1 d os1 g1 R1 r1 ⟨j, C, fs, p, i, ob, ed, eo, c, n, el, ei, ep, q⟩ => by
    subst ed
    obtain ⟨a, ea, rfl⟩ := r1
    obtain ⟨dx, h1, h2, h3⟩ := R1.own j a _ ea eo
    have hl : i < as.length := by rw [R1.len]; exact (List.getElem?_eq_some_iff.mp ei).1
    have ha : as[i]? = some as[i] := List.getElem?_eq_getElem hl
    have hp : as[i] = p := by
      have z := R1.own i as[i] ob ha ei
      cases ob with
      | mp p2 kds =>
        cases ep
        exact z.choose_spec.2.1
      | lp p2 od vs kds =>
        cases ep
        exact z.2.1
      | _ => cases ep
    rw [hp] at ha
    exact ⟨a, C, dx, _, .ref p, rfl, h1, c, n, lookup_refs el, k (.ref p) H1 (.o i) os1 g1 R1 ⟨p, ha, rfl⟩ q⟩
theorem ro_addP {as : List Addr} {H : Hp} {os : Os} {p : Addr} (R : Ro K as H os) (hp : H p = none) : Ro K (as ++ [p]) (upd H p (.dK [])) (os ++ [.mp p []]) := by
  have R0 := ro_addD R hp
  have hpos : (as ++ [p])[as.length]? = some p := by simp
  have z := ro_set (o := .dK []) (ob := .mp p []) R0 hpos ⟨[], upd_same, rfl, .nil⟩
  rw [upd_upd, R.len, List.set_append_right _ _ (Nat.le_refl _)] at z
  simpa using z
/-- self.f = {} -/
theorem w_fldNew {i j : Nat} {C : Addr} {fs : List (Str × Addr)} {f : Str} (hj : S.s[i]? = some (some (.o j))) (eo : S.os[j]? = some (.mr C fs)) (hc : Cls K C) (hn : NoAttr K C f) (hl : fs.length < 1000) (nf : fs.lookup f = none)
    (q : ∀ p, E.nx ⟨S.s, S.os.set j (.mr C (fs ++ [(f, p)])) ++ [.mp p []]⟩) : W K X (sFld K (tVar i) tDNewK f) E S := fun as H σ D R x n r b c => fun p hp => by
  obtain ⟨v, ev, a, ea, rfl⟩ := R.slot i _ hj
  have s2 : Stp as H (as ++ [p]) (upd H p (.dK [])) := stp_add hp
  have R2 := ro_addP R.o hp
  have hja : j < as.length := (List.getElem?_eq_some_iff.mp ea).1
  have ea2 : (as ++ [p])[j]? = some a := by rw [List.getElem?_append_left hja]; exact ea
  have eo2 : (S.os ++ [Ob.mp p []])[j]? = some (.mr C fs) := by rw [List.getElem?_append_left (by rw [← R.o.len]; exact hja)]; exact eo
  obtain ⟨dx, h1, h2, h3⟩ := R2.own j a _ ea2 eo2
  have hm : a ∈ as ++ [p] := List.mem_of_getElem? ea2
  have hd : dx ≠ a := fun z => h2 (z ▸ hm)
  have efs : putF f (.ref p) (fs.map fun f => (f.1, V.ref f.2)) = (fs ++ [(f, p)]).map fun f => (f.1, V.ref f.2) := by
    rw [putF_new (lookup_refsN nf), List.map_append]
    rfl
  have R3 : Ro K (as ++ [p]) (upd (upd H p (.dK [])) a (.ins C dx (putF f (.ref p) (fs.map fun f => (f.1, V.ref f.2))))) ((S.os ++ [Ob.mp p []]).set j (.mr C (fs ++ [(f, p)]))) :=
    ro_set R2 ea2 ⟨dx, by rw [upd_same, efs], h2, by rw [upd_ne hd]; exact h3⟩
  rw [List.set_append_left _ _ (by rw [← R.o.len]; exact hja)] at R3
  have g3 : Go (as ++ [p]) (upd H p (.dK [])) (upd (upd H p (.dK [])) a (.ins C dx (putF f (.ref p) (fs.map fun f => (f.1, V.ref f.2))))) := Go.at hm
  have sN := s2.trans (Stp.of_go g3 R3)
  refine ⟨.ref a, ev, a, C, dx, _, rfl, h1, hc, hn, by rw [List.length_map]; exact hl, n _ _ σ ⟨S.s, S.os.set j (.mr C (fs ++ [(f, p)])) ++ [.mp p []]⟩ sN ⟨R3, R.slen, fun k d hd => ?_⟩ (q p)⟩
  obtain ⟨u, e, z⟩ := R.slot k d hd
  exact ⟨u, e, z.stp sN⟩
/-- d[y] = v, d at a known place -/
theorem w_dputP (h : EW K X tv S fun v os1 => EW K X td ⟨S.s, os1⟩ fun x os2 => EW K X ty ⟨S.s, os2⟩ fun y os3 => ∃ k p kvs key z, v = .d z ∧ x = .o k ∧ os3[k]? = some (.mp p kvs) ∧ y = .d (keyD key) ∧ kvs.length < sizeLine ∧
    E.nx ⟨S.s, os3.set k (.mp p (putD kvs key z))⟩) : W K X (sDPut td ty tv) E S := fun as H σ D R x n r b c =>
  h as H σ _ R (x.h R) fun v H1 d os1 g1 R1 r1 q1 => q1 as H1 σ _ (R.go g1 R1) ((x.h R).go g1 R1) fun u H2 e os2 g2 R2 r2 q2 => q2 as H2 σ _ (R.go (g1.trans g2) R2) ((x.h R).go (g1.trans g2) R2) fun y H3 f os3 g3 R3 r3 ⟨j, p, kvs, key, z, ev, ex, eo, ey, hl, q3⟩ => by
    subst ev
    subst ex
    subst ey
    obtain ⟨a, ea, rfl⟩ := r2
    obtain ⟨vs, h1, hp, h2⟩ := R3.own j a _ ea eo
    have hk := key_v r3
    subst hk
    have hm : a ∈ as := List.mem_of_getElem? ea
    have rz : Dx K as H3 v z := (r1.go (g2.trans g3) : SvR K as H3 v (.d z))
    have R4 : Ro K as (upd H3 a (.dK (putK vs key v))) (os3.set j (.mp p (putD kvs key z))) := ro_set R3 ea ⟨_, upd_same, hp, DxP.way (Way.of_go (Go.at hm)) (h2.put rz)⟩
    have g4 : Go as H (upd H3 a (.dK (putK vs key v))) := ((g1.trans g2).trans g3).trans (Go.at hm)
    exact ⟨a, _, rfl, DPut.k h1 (by rw [h2.length]; exact hl), n as _ σ _ (Stp.of_go g4 R4) (R.go g4 R4) q3⟩
/-- d.update(e), d at a known place -/
theorem ew_updP {to te : TE} (h : EW K X to S fun x os1 => ∃ j p1 k1, x = .o j ∧ os1[j]? = some (.mp p1 k1) ∧ EW K X te ⟨S.s, os1⟩ fun y os2 => ∃ p k2 more, y = .d (.dk more) ∧ os2[j]? = some (.mp p k2) ∧ k2.length + more.length ≤ sizeLine ∧ Q (.d .non) (os2.set j (.mp p (mergeD k2 more)))) :
    EW K X (tBM K "dict" rUpd to (tCons te tNil)) S Q := fun as H σ Q' R x k =>
  h as H σ _ R x fun v H1 d os1 g1 R1 r1 ⟨j, p1, k1, ed, eo1, h2⟩ => by
    subst ed
    obtain ⟨a, ea, rfl⟩ := r1
    refine ⟨?_, h2 as H1 σ _ (R.go g1 R1) (x.go g1 R1) fun u H2 e os2 g2 R2 r2 ⟨p, k2, more, ey, eo, hl, q⟩ => ?_⟩
    · obtain ⟨ws, q1, _⟩ := R1.own j a _ ea eo1
      exact .inr (.inr (.inl ⟨rfl, .inl ⟨ws, q1⟩⟩))
    · subst ey
      obtain ⟨ws, h1, hp, h3⟩ := R2.own j a _ ea eo
      have hm : a ∈ as := List.mem_of_getElem? ea
      cases (show Dx K as H2 u (.dk more) from r2) with
      | @dk b kvs _ na hrd hpp =>
        have g3 : Go as H2 (upd H2 a (.dK (mergeK ws kvs))) := Go.at hm
        have R3 : Ro K as (upd H2 a (.dK (mergeK ws kvs))) (os2.set j (.mp p (mergeD k2 more))) := ro_set R2 ea ⟨_, upd_same, hp, DxP.way (Way.of_go g3) (merge_dx hpp h3)⟩
        exact ⟨a, b, ws, kvs, rfl, rfl, fun z => na (z ▸ hm), h1, hrd, by rw [h3.length, hpp.length]; exact hl, k .non _ (.d .non) _ ((g1.trans g2).trans g3) R3 Dx.non q⟩
/-! ### a lock -/
theorem ew_lock {t : TE} {j : Nat} {p : Addr} {kds : List (Key × D)} (hj : S.os[j]? = some (.mp p kds))
    (h : ∀ od vs, EW K X t ⟨S.s, S.os.set j (.lp p od vs kds)⟩ fun x os => os[j]? = some (.lp p od vs kds) ∧ Q x (os.set j (.mp p kds))) : EW K X (tLockE t) S Q := fun as H σ Q' R x k => by
  have hl : j < as.length := by rw [R.o.len]; exact (List.getElem?_eq_some_iff.mp hj).1
  have ea : as[j]? = some as[j] := List.getElem?_eq_getElem hl
  obtain ⟨vs, h1, hp, h2⟩ := R.o.own j as[j] _ ea hj
  rw [hp] at ea h1
  have hm : p ∈ as := List.mem_of_getElem? ea
  refine ⟨p, .dK vs, h1, trivial, fun od => ?_⟩
  have g1 : Go as H (upd H p (.frz od (.dK vs))) := Go.at hm
  have R1 : Ro K as (upd H p (.frz od (.dK vs))) (S.os.set j (.lp p od vs kds)) := ro_set R.o ea ⟨upd_same, rfl, DxP.way (Way.of_go g1) h2⟩
  refine h od vs as _ σ _ (R.go g1 R1) (x.go g1 R1) fun v H2 d os2 g2 R2 r2 ⟨eo, q⟩ => ?_
  obtain ⟨h3, _, h4⟩ := R2.own j p _ ea eo
  have g3 : Go as H2 (upd H2 p (.dK vs)) := Go.at hm
  have R3 : Ro K as (upd H2 p (.dK vs)) (os2.set j (.mp p kds)) := ro_set R2 ea ⟨vs, upd_same, rfl, DxP.way (Way.of_go g3) h4⟩
  exact ⟨h3, k v _ d _ ((g1.trans g2).trans g3) R3 (r2.go g3) q⟩
theorem w_lock {t : TS} {j : Nat} {p : Addr} {kds : List (Key × D)} (hj : S.os[j]? = some (.mp p kds))
    (h : ∀ od vs, W K X t { nx := fun S' => S'.os[j]? = some (.lp p od vs kds) ∧ E.nx ⟨S'.s, S'.os.set j (.mp p kds)⟩, rt := fun _ _ => False } ⟨S.s, S.os.set j (.lp p od vs kds)⟩) : W K X (tLock t) E S := fun as H σ D R x n r b c => by
  have hl : j < as.length := by rw [R.o.len]; exact (List.getElem?_eq_some_iff.mp hj).1
  have ea : as[j]? = some as[j] := List.getElem?_eq_getElem hl
  obtain ⟨vs, h1, hp, h2⟩ := R.o.own j as[j] _ ea hj
  rw [hp] at ea h1
  have hm : p ∈ as := List.mem_of_getElem? ea
  refine ⟨p, .dK vs, h1, trivial, fun od => ?_⟩
  have g1 : Go as H (upd H p (.frz od (.dK vs))) := Go.at hm
  have R1 : Ro K as (upd H p (.frz od (.dK vs))) (S.os.set j (.lp p od vs kds)) := ro_set R.o ea ⟨upd_same, rfl, DxP.way (Way.of_go g1) h2⟩
  refine h od vs as _ σ _ (R.go g1 R1) (x.stp (Stp.of_go g1 R1)) (fun bs H2 σ2 S2 s2 R2 ⟨eo, q⟩ => ?_) (fun _ _ _ _ _ _ _ _ z => z.elim) (fun _ _ _ _ _ _ z => z.elim) fun _ _ _ _ _ _ z => z.elim
  obtain ⟨nw, eb, _⟩ := s2.pre
  have eb2 : bs[j]? = some p := by rw [eb, List.getElem?_append_left hl]; exact ea
  obtain ⟨h3, _, h4⟩ := R2.o.own j p _ eb2 eo
  have hm2 : p ∈ bs := List.mem_of_getElem? eb2
  have g3 : Go bs H2 (upd H2 p (.dK vs)) := Go.at hm2
  have R3 : Ro K bs (upd H2 p (.dK vs)) (S2.os.set j (.mp p kds)) := ro_set R2.o eb2 ⟨vs, upd_same, rfl, DxP.way (Way.of_go g3) h4⟩
  exact ⟨h3, n bs _ σ2 _ (((Stp.of_go g1 R1).trans s2).trans (Stp.of_go g3 R3)) (R2.go g3 R3) q⟩
end
section
variable {K : PySem.W.Frag} {X : Xc} {S : Sa} {te : TE} {E : Ea}
theorem w_lockAsg {i : Nat} (h : EW K X (tLockE te) S fun d os => E.nx ⟨S.s.set i (some d), os⟩) : W K X (tLock (tAsg te (gName i))) E S := fun as H σ D R x n r b c =>
  h as H σ _ R (x.h R) fun v H1 d os1 g1 R1 r1 q1 => n as H1 _ _ (Stp.of_go g1 R1) ((R.go g1 R1).set i r1) q1
end
/-! ### a comprehension over what stays as it is -/
def ItS (K : PySem.W.Frag) (J : It) (as : List Addr) (H : Hp) (ds : List D) (C : Os → Prop) : Prop :=
  ∀ bs H2 os, Stp as H bs H2 → Ro K bs H2 os → C os → ∀ i, (∀ d, ds[i]? = some d → J.go i H2 ∧ ∀ x H3, J.yld i H2 x H3 → Go bs H2 H3 ∧ Ro K bs H3 os ∧ Dx K bs H3 x d) ∧ (ds.length ≤ i → J.stop i H2)
def IWs (K : PySem.W.Frag) (X : Xc) (wi : TI) (S : Sa) (Q : List D → (Os → Prop) → Os → Prop) : Prop :=
  ∀ as H σ (R' : It → Hp → Prop), Re K as H σ S → XH K X as H σ S.s → (∀ J H' ds C os', Go as H H' → Ro K as H' os' → ItS K J as H' ds C → Q ds C os' → R' J H') → wi σ H R'
section
variable {K : PySem.W.Frag} {X : Xc} {S : Sa} {td : TE} {Q : List D → (Os → Prop) → Os → Prop}
theorem dxp_get {as : List Addr} {H : Hp} {i : Nat} {kv : Key × D} : ∀ {vs : List (Key × V)} {ds : List (Key × D)}, DxP K as H vs ds → ds[i]? = some kv → ∃ v, vs[i]? = some (kv.1, v) ∧ Dx K as H v kv.2 := fun {vs ds} h => by
  induction i generalizing vs ds with
  | zero =>
    intro e
    cases h with
    | nil => simp at e
    | cons h r =>
      simp at e
      subst e
      exact ⟨_, rfl, h⟩
  | succ i ih =>
    intro e
    cases h with
    | nil => simp at e
    | cons h r =>
      obtain ⟨v, h1, h2⟩ := ih r (by simpa using e)
      exact ⟨v, by simpa using h1, h2⟩
theorem dx_key {as : List Addr} {H : Hp} (k : Key) : Dx K as H (kV k) (keyD k) := by
  cases k with
  | inl i => exact .int i
  | inr x => exact .str x
/-- for k in d, d locked -/
theorem iws_keys (h : EW K X td S fun x os => ∃ j p od vs kds, x = .o j ∧ os[j]? = some (.lp p od vs kds) ∧ Q (kds.map fun kv => keyD kv.1) (fun os => os[j]? = some (.lp p od vs kds)) os) : IWs K X (iKeys td) S Q := fun as H σ R' R x k =>
  h as H σ _ R x fun v H1 d os1 g1 R1 r1 ⟨j, p, od, vs, kds, ed, eo, q⟩ => by
    subst ed
    obtain ⟨a, ea, rfl⟩ := r1
    obtain ⟨h1, hp, h2⟩ := R1.own j a _ ea eo
    subst hp
    refine ⟨a, od, rfl, .inl ⟨vs, h1, k (Itk a od vs) H1 _ _ os1 g1 R1 (fun bs H2 os s R2 eC i => ?_) q⟩⟩
    obtain ⟨nw, eb, _⟩ := s.pre
    have eb2 : bs[j]? = some a := by rw [eb, List.getElem?_append_left (List.getElem?_eq_some_iff.mp ea).1]; exact ea
    obtain ⟨h3, _, h4⟩ := R2.own j a _ eb2 eC
    refine ⟨fun d hd => ?_, fun hn => ⟨h3, by rw [h4.length]; rw [List.length_map] at hn; exact hn⟩⟩
    rw [List.getElem?_map] at hd
    obtain ⟨kv, hk, rfl⟩ := Option.map_eq_some_iff.mp hd
    obtain ⟨w, e1, e2⟩ := dxp_get h4 hk
    refine ⟨⟨h3, (List.getElem?_eq_some_iff.mp e1).1⟩, fun y H3 hy => ?_⟩
    obtain ⟨rfl, k2, v2, e3, rfl⟩ := hy
    rw [e1] at e3
    cases e3
    exact ⟨Go.refl _ _, R2, dx_key _⟩
/-- for k, v in d.items(), d locked -/
theorem iws_items (h : EW K X td S fun x os => ∃ j p od vs kds, x = .o j ∧ os[j]? = some (.lp p od vs kds) ∧ Q (kds.map fun kv => .tup [keyD kv.1, kv.2]) (fun os => os[j]? = some (.lp p od vs kds)) os) : IWs K X (iItems td) S Q := fun as H σ R' R x k =>
  h as H σ _ R x fun v H1 d os1 g1 R1 r1 ⟨j, p, od, vs, kds, ed, eo, q⟩ => by
    subst ed
    obtain ⟨a, ea, rfl⟩ := r1
    obtain ⟨h1, hp, h2⟩ := R1.own j a _ ea eo
    subst hp
    refine ⟨a, od, vs, rfl, h1, k (Iti a od vs) H1 _ _ os1 g1 R1 (fun bs H2 os s R2 eC i => ?_) q⟩
    obtain ⟨nw, eb, _⟩ := s.pre
    have eb2 : bs[j]? = some a := by rw [eb, List.getElem?_append_left (List.getElem?_eq_some_iff.mp ea).1]; exact ea
    obtain ⟨h3, _, h4⟩ := R2.own j a _ eb2 eC
    refine ⟨fun d hd => ?_, fun hn => ⟨h3, by rw [h4.length]; rw [List.length_map] at hn; exact hn⟩⟩
    rw [List.getElem?_map] at hd
    obtain ⟨kv, hk, rfl⟩ := Option.map_eq_some_iff.mp hd
    obtain ⟨w, e1, e2⟩ := dxp_get h4 hk
    refine ⟨⟨h3, (List.getElem?_eq_some_iff.mp e1).1⟩, fun y H3 hy => ?_⟩
    obtain ⟨T, k2, v2, e3, rfl, hT, rfl⟩ := hy
    rw [e1] at e3
    cases e3
    exact ⟨Go.new hT, R2.new hT, dx_newT R2 hT (.cons (dx_key _) (.cons e2 .nil))⟩
end
section
variable {K : PySem.W.Frag} {X : Xc} {S : Sa} {Q : Sv → Os → Prop} {wi : TI} {g : TG} {tt : TT} {te tk tv : TE}
theorem ew_lcS {vs : List Nat} (hg : Wg g vs) (hm : Mg g) (h : IWs K X wi S fun ds C os => ∃ Pv : Nat → List D → Os → Prop, Pv 0 [] os ∧ (∀ i acc os', Pv i acc os' → C (os' ++ [.ml acc])) ∧
      (∀ i d acc os', ds[i]? = some d → Pv i acc os' → GW K g (.d d) ⟨wipeS S.s vs, os' ++ [.ml acc]⟩ fun S2 => TW K X0 tt S2 fun b os2 =>
        if b = true then EW K X0 te ⟨S2.s, os2⟩ fun y os3 => ∃ z os4, y = .d z ∧ os3 = os4 ++ [.ml acc] ∧ acc.length < sizeLine ∧ Pv (i + 1) (acc ++ [z]) os4 else ∃ os4, os2 = os4 ++ [.ml acc] ∧ Pv (i + 1) acc os4) ∧
      ∀ acc os', Pv ds.length acc os' → Q (.d (.lst acc)) os') : EW K X (tLc wi g tt te vs) S Q := fun as H σ Q' R x k =>
  h as H σ _ R x fun J H1 ds C os1 g1 R1 it ⟨Pv, p0, stay, turn, fin⟩ Dl hD => by
    have R1' := R.go g1 R1
    have sD : Stp as H1 (as ++ [Dl]) (upd H1 Dl (.lst [])) := stp_add hD
    refine ⟨fun i m H2 => m = ds.length - i ∧ i ≤ ds.length ∧ ∃ acc os2, Stp as H1 (as ++ [Dl]) H2 ∧ Re K (as ++ [Dl]) H2 σ ⟨S.s, os2 ++ [.ml acc]⟩ ∧ Pv i acc os2, ⟨_, rfl, Nat.zero_le _, [], os1, sD, ?_, p0⟩, ?_⟩
    · refine ⟨ro_add R1 hD, R1'.slen, fun i d hd => ?_⟩
      obtain ⟨u, e, r⟩ := R1'.slot i d hd
      exact ⟨u, e, (r.wayA hD).go (Go.at (by simp))⟩
    rintro i m H2 ⟨rfl, hi, acc, os2, s2, R2, p⟩
    by_cases hlt : i < ds.length
    · have hd : ds[i]? = some ds[i] := List.getElem?_eq_getElem hlt
      obtain ⟨hgo, hy⟩ := (it _ H2 _ s2 R2.o (stay i acc os2 p) i).1 _ hd
      refine .inr ⟨hgo, fun H' => ∃ acc os3, Stp as H1 (as ++ [Dl]) H' ∧ Re K (as ++ [Dl]) H' σ ⟨S.s, os3 ++ [.ml acc]⟩ ∧ Pv (i + 1) acc os3, fun H' z => ⟨ds.length - (i + 1), by omega, rfl, hlt, z⟩, fun y H3 hyl => ?_⟩
      obtain ⟨g3, R3, r3⟩ := hy y H3 hyl
      have R3' := R2.go g3 R3
      have s3 : Stp as H1 (as ++ [Dl]) H3 := s2.trans (Stp.of_go g3 R3)
      have base := turn i _ acc os2 hd p (as ++ [Dl]) H3 (wipe σ vs) y (fun σ2 H4 => H4 = H3 ∧ ∃ S2, Re K (as ++ [Dl]) H3 σ2 S2 ∧ TW K X0 tt S2 fun b os2 =>
        if b = true then EW K X0 te ⟨S2.s, os2⟩ fun y os3 => ∃ z os4, y = .d z ∧ os3 = os4 ++ [.ml acc] ∧ acc.length < sizeLine ∧ Pv (i + 1) (acc ++ [z]) os4 else ∃ os4, os2 = os4 ++ [.ml acc] ∧ Pv (i + 1) acc os4) (re_wipe R3') r3 fun σ2 S2 R4 q => ⟨rfl, S2, R4, q⟩
      refine hm _ _ _ _ _ ?_ (hg _ _ _ _ base)
      rintro σ2 H4 ⟨⟨rfl, S2, R4, tw⟩, hl, ho⟩
      refine ⟨(wipe_ext hl fun i hi => ho i hi).trans (wipe_ext (wipe_length σ vs) fun i hi => wipe_out1 hi), ?_⟩
      refine tw _ H4 σ2 _ R4 XH.x0 fun b H5 os5 g5 R5 q5 => ?_
      have s5 := s3.trans (Stp.of_go g5 R5)
      cases b with
      | false =>
        obtain ⟨os4, rfl, q6⟩ := (show ∃ os4, os5 = os4 ++ [.ml acc] ∧ Pv (i + 1) acc os4 from q5)
        show ∃ acc os3, _
        exact ⟨acc, os4, s5, R3'.go g5 R5, q6⟩
      | true =>
        show te σ2 H5 _
        refine (show EW K X0 te ⟨S2.s, os5⟩ _ from q5) _ H5 σ2 _ (R4.go g5 R5) XH.x0 fun u H6 e os6 g6 R6 r6 ⟨z, os7, ez, eo, hz, q7⟩ => ?_
        subst ez
        subst eo
        obtain ⟨ws, ew, rw'⟩ := (ro_drop R6).2.1
        refine ⟨ws, ew, by rw [rw'.length]; exact hz, acc ++ [z], os7, ?_, ?_, q7⟩
        · exact (s5.trans (Stp.of_go g6 R6)).trans (Stp.of_go (Go.at (by simp)) (ro_grow R6 ew r6))
        · exact (R3'.go (g5.trans g6) R6).go (Go.at (by simp)) (ro_grow R6 ew r6)
    · have e : i = ds.length := by omega
      subst e
      obtain ⟨Rd, ob, nin⟩ := ro_drop R2.o
      obtain ⟨ws, ew, rw'⟩ := ob
      exact .inl ⟨(it _ H2 _ s2 R2.o (stay _ acc os2 p) _).2 (Nat.le_refl _), k (.ref Dl) H2 (.d (.lst acc)) os2 (g1.trans s2.go) Rd (Dx.lst (.inl ⟨nin, .inl ew⟩) rw') (fin acc os2 p)⟩
/-! ### a dict by a comprehension -/
theorem ro_growD {as : List Addr} {H : Hp} {os : Os} {p : Addr} {vs : List (Key × V)} {kds : List (Key × D)} {key : Key} {v : V} {d : D} (R : Ro K (as ++ [p]) H (os ++ [.md kds])) (e : H p = some (.dK vs)) (r : Dx K (as ++ [p]) H v d) :
    Ro K (as ++ [p]) (upd H p (.dK (putK vs key v))) (os ++ [.md (putD kds key d)]) := by
  have hl : as.length = os.length := by
    have := R.len
    simpa using this
  have hpos : (as ++ [p])[as.length]? = some p := by simp
  obtain ⟨ws, e2, h2⟩ := R.own as.length p (.md kds) hpos (by rw [hl]; simp)
  rw [e] at e2
  cases e2
  have g : Go (as ++ [p]) H (upd H p (.dK (putK vs key v))) := Go.at (by simp)
  have z := ro_set (ob := .md (putD kds key d)) R hpos ⟨putK vs key v, upd_same, DxP.way (Way.of_go g) (h2.put r)⟩
  rw [hl, List.set_append_right _ _ (Nat.le_refl _)] at z
  simpa using z
theorem ew_dc {vs : List Nat} (hg : Wg g vs) (hm : Mg g) (h : IW K X wi S fun ds os => ∃ Pv : Nat → List (Key × D) → Os → Prop, Pv 0 [] os ∧
      (∀ i d acc os', ds[i]? = some d → Pv i acc os' → GW K g (.d d) ⟨wipeS S.s vs, os' ++ [.md acc]⟩ fun S2 => TW K X0 tt S2 fun b os2 =>
        if b = true then EW K X0 tk ⟨S2.s, os2⟩ fun y os3 => EW K X0 tv ⟨S2.s, os3⟩ fun z os4 => ∃ key zd os5, y = .d (keyD key) ∧ z = .d zd ∧ os4 = os5 ++ [.md acc] ∧ acc.length < sizeLine ∧ Pv (i + 1) (putD acc key zd) os5 else ∃ os4, os2 = os4 ++ [.md acc] ∧ Pv (i + 1) acc os4) ∧
      ∀ acc os', Pv ds.length acc os' → Q (.d (.dk acc)) os') : EW K X (tDc wi g tt tk tv vs) S Q := fun as H σ Q' R x k =>
  h as H σ _ R x fun J H1 ds os1 g1 R1 it ⟨Pv, p0, turn, fin⟩ Dl hD => by
    have R1' := R.go g1 R1
    have sD : Stp as H1 (as ++ [Dl]) (upd H1 Dl (.dK [])) := stp_add hD
    refine ⟨fun i m H2 => m = ds.length - i ∧ i ≤ ds.length ∧ ∃ acc os2, Stp as H1 (as ++ [Dl]) H2 ∧ Re K (as ++ [Dl]) H2 σ ⟨S.s, os2 ++ [.md acc]⟩ ∧ Pv i acc os2, ⟨_, rfl, Nat.zero_le _, [], os1, sD, ?_, p0⟩, ?_⟩
    · refine ⟨ro_addD R1 hD, R1'.slen, fun i d hd => ?_⟩
      obtain ⟨u, e, r⟩ := R1'.slot i d hd
      exact ⟨u, e, (r.wayA hD).go (Go.at (by simp))⟩
    rintro i m H2 ⟨rfl, hi, acc, os2, s2, R2, p⟩
    by_cases hlt : i < ds.length
    · have hd : ds[i]? = some ds[i] := List.getElem?_eq_getElem hlt
      obtain ⟨hgo, hy⟩ := (it _ H2 _ s2 R2.o i).1 _ hd
      refine .inr ⟨hgo, fun H' => ∃ acc os3, Stp as H1 (as ++ [Dl]) H' ∧ Re K (as ++ [Dl]) H' σ ⟨S.s, os3 ++ [.md acc]⟩ ∧ Pv (i + 1) acc os3, fun H' z => ⟨ds.length - (i + 1), by omega, rfl, hlt, z⟩, fun y H3 hyl => ?_⟩
      obtain ⟨g3, R3, r3⟩ := hy y H3 hyl
      have R3' := R2.go g3 R3
      have s3 : Stp as H1 (as ++ [Dl]) H3 := s2.trans (Stp.of_go g3 R3)
      have base := turn i _ acc os2 hd p (as ++ [Dl]) H3 (wipe σ vs) y (fun σ2 H4 => H4 = H3 ∧ ∃ S2, Re K (as ++ [Dl]) H3 σ2 S2 ∧ TW K X0 tt S2 fun b os2 =>
        if b = true then EW K X0 tk ⟨S2.s, os2⟩ fun y os3 => EW K X0 tv ⟨S2.s, os3⟩ fun z os4 => ∃ key zd os5, y = .d (keyD key) ∧ z = .d zd ∧ os4 = os5 ++ [.md acc] ∧ acc.length < sizeLine ∧ Pv (i + 1) (putD acc key zd) os5 else ∃ os4, os2 = os4 ++ [.md acc] ∧ Pv (i + 1) acc os4) (re_wipe R3') r3 fun σ2 S2 R4 q => ⟨rfl, S2, R4, q⟩
      refine hm _ _ _ _ _ ?_ (hg _ _ _ _ base)
      rintro σ2 H4 ⟨⟨rfl, S2, R4, tw⟩, hl, ho⟩
      refine ⟨(wipe_ext hl fun i hi => ho i hi).trans (wipe_ext (wipe_length σ vs) fun i hi => wipe_out1 hi), ?_⟩
      refine tw _ H4 σ2 _ R4 XH.x0 fun b H5 os5 g5 R5 q5 => ?_
      have s5 := s3.trans (Stp.of_go g5 R5)
      cases b with
      | false =>
        obtain ⟨os4, rfl, q6⟩ := (show ∃ os4, os5 = os4 ++ [.md acc] ∧ Pv (i + 1) acc os4 from q5)
        show ∃ acc os3, _
        exact ⟨acc, os4, s5, R3'.go g5 R5, q6⟩
      | true =>
        show tk σ2 H5 _
        refine (show EW K X0 tk ⟨S2.s, os5⟩ _ from q5) _ H5 σ2 _ (R4.go g5 R5) XH.x0 fun u H6 e os6 g6 R6 r6 q6 => ?_
        refine q6 _ H6 σ2 _ (R4.go (g5.trans g6) R6) XH.x0 fun w H7 f os7 g7 R7 r7 ⟨key, zd, os8, ey, ez, eo, hz, q7⟩ => ?_
        subst ey
        subst ez
        subst eo
        have hk := key_v r6
        subst hk
        obtain ⟨ws, ew, rw'⟩ := (ro_drop R7).2.1
        refine ⟨ws, key, rfl, ew, by rw [rw'.length]; exact hz, putD acc key zd, os8, ?_, ?_, q7⟩
        · exact ((s5.trans (Stp.of_go g6 R6)).trans (Stp.of_go g7 R7)).trans (Stp.of_go (Go.at (by simp)) (ro_growD R7 ew r7))
        · exact (R3'.go ((g5.trans g6).trans g7) R7).go (Go.at (by simp)) (ro_growD R7 ew r7)
    · have e : i = ds.length := by omega
      subst e
      obtain ⟨Rd, ob, nin⟩ := ro_drop R2.o
      obtain ⟨ws, ew, rw'⟩ := ob
      exact .inl ⟨(it _ H2 _ s2 R2.o _).2 (Nat.le_refl _), k (.ref Dl) H2 (.d (.dk acc)) os2 (g1.trans s2.go) Rd (Dx.dk nin (.inl ew) rw') (fin acc os2 p)⟩
end
/-! ### a def that makes things of the store -/
abbrev FGr := List Sv → Os → (Sv → Os → Prop) → Prop
def spG (K : PySem.W.Frag) (f : FGr) : Sp := fun vs H Q _ => ∃ (as : List Addr) (os : Os) (ds : List Sv) (QG : Sv → Os → Prop), Ro K as H os ∧ SvA K as H vs ds ∧ f ds os QG ∧
  ∀ bs v H' d os', Stp as H bs H' → Ro K bs H' os' → SvR K bs H' v d → QG d os' → Q v H'
theorem readG_of {K : PySem.W.Frag} {N : List Str} {f : FGr} {t : TS} {vs : List V} {H : Hp} {Q : VK} {E : XK} (h : spG K f vs H Q E)
    (w : ∀ ds os QG, f ds os QG → W K X0 t { nx := fun S => QG (.d .non) S.os, rt := QG } ⟨startS N ds, os⟩) : t { nx := fun _ H' => Q .non H', rt := Q } (L2.start N vs) H := by
  obtain ⟨as, os, ds, QG, R, r, hf, k⟩ := h
  exact w ds os QG hf as H _ _ (re_start R r) XS.x0 (fun bs H' σ' S' s R' q => k bs .non H' (.d .non) _ s R'.o Dx.non q) (fun bs H' v d os' s R' r' q => k bs v H' d os' s R' r' q) (fun _ _ _ _ _ _ q => q.elim) fun _ _ _ _ _ _ q => q.elim
section
variable {K : PySem.W.Frag} {X : Xc} {S : Sa} {Q : Sv → Os → Prop} {ta : TA} {E : Ea}
theorem ro_mr {as : List Addr} {H : Hp} {os : Os} {C : Addr} (R : Ro K as H (os ++ [.mi C []])) : Ro K as H (os ++ [.mr C []]) := by
  refine ⟨R.nd, by simpa using R.len, fun k a ob h1 h2 => ?_⟩
  by_cases hk : k < os.length
  · rw [List.getElem?_append_left hk] at h2
    exact R.own k a ob h1 (by rw [List.getElem?_append_left hk]; exact h2)
  · have hl := (List.getElem?_eq_some_iff.mp h2).1
    rw [List.length_append] at hl
    simp at hl
    have e : k = os.length := by omega
    subst e
    simp at h2
    subst h2
    obtain ⟨dx, fs, z1, z2, z3, z4⟩ := R.own os.length a (.mi C []) h1 (by simp)
    cases z4
    exact ⟨dx, z1, z2, z3⟩
/-- x = C(..), the instance and what it holds are things of the store -/
theorem w_asgMakeG {C : Addr} {f : FGr} {E0 : XK} {i : Nat} (h : AW K X ta S fun ds os => f (.o os.length :: ds) (os ++ [.mr C []]) fun d os' => d = .d .non ∧ E.nx ⟨S.s.set i (some (.o os.length)), os'⟩) : W K X (tAsg (tMake C (spG K f) [] E0 ta) (gName i)) E S := fun as H σ D R x n r b c =>
  h as H σ _ R (x.h R) fun vs H1 ds os1 g1 R1 r1 q1 x0 dx hx hdx hne => by
    have R2 := ro_mr (ro_addI (C := C) R1 hx hdx hne)
    have g2 : Go as H1 (upd (upd H1 dx (.own x0)) x0 (.ins C dx [])) := (Go.new hdx).trans (Go.new (by rw [upd_ne (Ne.symm hne)]; exact hx))
    have s2 : Stp as H1 (as ++ [x0]) (upd (upd H1 dx (.own x0)) x0 (.ins C dx [])) := ⟨⟨[x0], rfl, fun a ha => by rw [List.mem_singleton.mp ha]; exact hx⟩, g2, fun a ha => by
      by_cases e1 : a = x0
      · rw [e1]; exact hx
      · rw [upd_ne e1] at ha
        by_cases e2 : a = dx
        · rw [e2]; exact hdx
        · rw [upd_ne e2] at ha
          exact ha⟩
    have rs : ∀ {us : List V} {es : List Sv}, SvA K as H1 us es → SvA K (as ++ [x0]) (upd (upd H1 dx (.own x0)) x0 (.ins C dx [])) us es := fun {us es} r => by
      induction r with
      | nil => exact .nil
      | cons h _ ih => exact .cons (h.stp s2) ih
    refine ⟨as ++ [x0], os1 ++ [.mr C []], .o os1.length :: ds, _, R2, .cons ⟨x0, by rw [← R1.len]; simp, rfl⟩ (rs r1).nilr, q1, fun bs v H' d os' s3 R3 r3 ⟨ed, q⟩ => ?_⟩
    subst ed
    cases r3
    have sN := ((Stp.of_go g1 R1).trans s2).trans s3
    obtain ⟨nw, eb, _⟩ := s3.pre
    refine ⟨rfl, n bs H' _ _ sN (Re.set (S := ⟨S.s, os'⟩) i ⟨R3, R.slen, fun k d hd => ?_⟩ (v := .ref x0) (d := .o os1.length) ⟨x0, ?_, rfl⟩) q⟩
    · obtain ⟨u, e, z⟩ := R.slot k d hd
      exact ⟨u, e, z.stp sN⟩
    · rw [eb, List.append_assoc, List.getElem?_append_right (by rw [R1.len]; exact Nat.le_refl _), R1.len]
      simp
/-- x.m(..), x an instance of the store -/
theorem ew_meth {C : Addr} {m : Str} {f : FD} {tx : TE} (h : EW K X tx S fun x os1 => ∃ j fs, x = .o j ∧ os1[j]? = some (.mr C fs) ∧ fs.lookup m = none ∧ AW K X ta ⟨S.s, os1⟩ fun ds os2 => f (.o j :: ds) os2 (fun d os' => Q (.d d) os') fun _ _ _ => False) :
    EW K X (tMeth C m (spD K f) [] E0 tx ta) S Q := fun as H σ Q' R x k =>
  h as H σ _ R x fun v H1 d os1 g1 R1 r1 ⟨j, fs, ed, eo, hm, q1⟩ => by
    subst ed
    obtain ⟨a, ea, rfl⟩ := r1
    obtain ⟨dx, h1, h2, h3⟩ := R1.own j a _ ea eo
    refine ⟨a, dx, _, rfl, h1, lookup_refsN hm, q1 as H1 σ _ (R.go g1 R1) (x.go g1 R1) fun vs H2 ds os2 g2 R2 r2 q2 => ?_⟩
    exact ⟨as, os2, .o j :: ds, _, _, R2, .cons ⟨a, ea, rfl⟩ r2.nilr, q2, fun v H3 d os3 g3 R3 r3 q3 => k v H3 (.d d) os3 ((g1.trans g2).trans g3) R3 r3 q3, fun _ _ _ _ _ _ _ _ _ _ _ z => z.elim⟩
end
/-! ### a dict that changes is handed out as data -/
def RetOkD (n : Nat) (QA : D → Os → Prop) : Sv → Os → Prop := fun x os' => match x with
  | .d d => QA d (os'.take n)
  | .o k => n ≤ k ∧ ∃ xs, os'[k]? = some (.md xs) ∧ QA (.dk xs) (os'.take n)
  | .fn _ _ => False
theorem ret_backD {K : PySem.W.Frag} {as bs : List Addr} {H H' : Hp} {os os' : Os} {QA : D → Os → Prop} {v : V} {x : Sv} {Q : VK} (s : Stp as H bs H') (n : as.length = os.length) (R : Ro K bs H' os') (r : SvR K bs H' v x) (q : RetOkD os.length QA x os')
    (k : ∀ v H' d os', Go as H H' → Ro K as H' os' → Dx K as H' v d → QA d os' → Q v H') : Q v H' := by
  cases x with
  | d d => exact k v H' d _ s.go (R.back s n) (Dx.way (Way.of_sub s.sub) r) q
  | o j =>
    obtain ⟨hj, xs, e, q⟩ := q
    obtain ⟨a, ea, rfl⟩ := r
    obtain ⟨vs, h1, h2⟩ := R.own j a _ ea e
    obtain ⟨nw, eb, hf⟩ := s.pre
    have ha : a ∉ as := fun z => by
      obtain ⟨i, hi, ei⟩ := List.mem_iff_getElem.mp z
      have h3 : bs[i]? = some a := by rw [eb, List.getElem?_append_left hi, List.getElem?_eq_getElem hi, ei]
      have h4 : i = j := by
        obtain ⟨l1, m1⟩ := List.getElem?_eq_some_iff.mp h3
        obtain ⟨l2, m2⟩ := List.getElem?_eq_some_iff.mp ea
        exact (List.getElem_inj R.nd).mp (m1.trans m2.symm)
      omega
    exact k _ H' _ _ s.go (R.back s n) (.dk ha (.inl h1) (h2.way (Way.of_sub s.sub))) q
  | fn f r => exact q.elim
theorem readD_of {K : PySem.W.Frag} {N : List Str} {f : FD} {t : TS} {vs : List V} {H : Hp} {Q : VK} {E : XK} (h : spD K f vs H Q E)
    (w : ∀ ds os QA EA, f ds os QA EA → W K ⟨fun cls d _ H => E cls d H, fun C fds S => EA C fds (S.os.take os.length)⟩ t { nx := fun S => RetOk os.length QA (.d .non) S.os, rt := RetOkD os.length QA } ⟨startS N ds, os⟩) : t { nx := fun _ H' => Q .non H', rt := Q } (L2.start N vs) H := by
  obtain ⟨as, os, ds, QA, EA, R, r, hf, kq, ke⟩ := h
  refine w ds os QA EA hf as H _ _ (re_start R r) (fun bs H' σ' S' C dd fs fds s R' n e r' z => ?_) (fun bs H' σ' S' s R' q => ?_) (fun bs H' v d os' s R' r' q => ?_) (fun _ _ _ _ _ _ q => q.elim) fun _ _ _ _ _ _ q => q.elim
  · exact ke C dd H' fs fds _ s.go (R'.o.back s R.len) n e (DxF.way (Way.of_sub s.sub) r') z
  · exact ret_back s R.len R'.o (v := .non) (x := .d .non) Dx.non q kq
  · exact ret_backD s R.len R' r' q kq
theorem cw_minI {K : PySem.W.Frag} {os : Os} {Q : Sv → Os → Prop} {ns : List Int} (hn : 0 < ns.length) (q : ∀ m ∈ ns, (∀ y ∈ ns, m ≤ y) → Q (.d (.int m)) os) : CW K (rMin K) [.d (.lst (ns.map D.int))] os Q := fun as H vs Q' R r k => by
  cases r with
  | cons h t =>
    cases t
    cases (show Dx K as H _ (.lst (ns.map D.int)) from h) with
    | @lst a xs _ hl hr =>
      have e := DxA.of_ints hr
      subst e
      exact ⟨a, ns, rfl, hl.sq, hn, fun m hm hle => k _ H (.d (.int m)) os (Go.refl _ _) R (Dx.int m) (q m hm hle)⟩
/-- x = {} -/
theorem w_newD {K : PySem.W.Frag} {X : Xc} {S : Sa} {E : Ea} {i : Nat} (q : E.nx ⟨S.s.set i (some (.o S.os.length)), S.os ++ [.md []]⟩) : W K X (tAsg tDNewK (gName i)) E S := fun as H σ D R x n r b c => by
  intro p hp
  have s2 : Stp as H (as ++ [p]) (upd H p (.dK [])) := stp_add hp
  have R2 : Re K (as ++ [p]) (upd H p (.dK [])) σ ⟨S.s, S.os ++ [.md []]⟩ := ⟨ro_addD R.o hp, R.slen, fun j d hd => by
    obtain ⟨u, e, z⟩ := R.slot j d hd
    exact ⟨u, e, z.stp s2⟩⟩
  exact n _ _ _ _ s2 (R2.set i (v := .ref p) (d := .o S.os.length) ⟨p, by rw [← R.o.len]; simp, rfl⟩) q
end Br

/-! BrGT: the law's own def, with its table of code objects and the module table's place. -/
namespace Br
open PySem PySem.Spec PyProof.Rows L2
theorem calledT {P : Program} {w : World} {K : PySem.W.Frag} {mg mb : Str → Option Value} {k : Nat} {fa a ct PT : Addr} {fd : FuncData} {x : Str} {sp : Sp} {s : Shared} {vs : List Value} {ns : List Int}
    (inK : K.In s.heap) (gl : s.heap.Ns mainGlobals mg) (bl : s.heap.Ns builtinsNs mb) (blb : ∀ y : Str, y ≠ "__name__" → mb y = bootBuiltins y) (lim : s.heap.NoLimit) (gens : s.gens = #[])
    (at_P : s.heap.get? PT = some { cls := .none, data := .fields #[] }) (notP : K.lookup PT = none) (hd : PySem.W.codeHdIn K ct PT = true)
    (mods : ∃ (bm : Addr) (ob : Obj), mg "__builtins__" = some (.ref bm) ∧ bm ≠ builtinsNs ∧ s.heap.get? bm = some ob ∧ ob.cls = .type "module" ∧ ob.dict = some builtinsNs ∧ ob.data = .plain)
    (at_a : s.heap.get? a = some { cls := .type "list", data := .seq vs.toArray }) (nums : IntsAre vs ns) (short : ns.length ≤ sizeLine) (room : Room k callerA)
    (F : ∀ base : Heap, K.In base → base.Ns mainGlobals mg → (∀ b o, s.heap.get? b = some o → o.cls ≠ .type "list" → b ≠ PT → base.get? b = some o) → LamX.TabB base mg ct PT → FnG P w K mg base k fa fd [x] sp) (binds : ∀ (s : Shared) (u : Value), BindsTo s fd ⟨[u], []⟩ [(x, u)])
    (promise : ∀ H : Hp, H PT = some (.tbl #[]) → SqL K H a (ns.map V.int) → sp [.ref a] H (fun v _ => v = .bl true) fun _ _ _ => False) :
    codeAny (model P w) callerA (.call (.ref fa) ⟨[.ref a], []⟩) (fun r s' => r = .ok (.ret (.bool true)) ∧ OldK s.heap s'.heap ∧ s'.os = s.os ∧ AllBare s'.gens) s := by
  have lenV := nums.length
  have vals := vals_ints nums
  have aP : a ≠ PT := fun z => by
    rw [z, at_P] at at_a
    cases at_a
  have Pa : PT ≠ a := Ne.symm aP
  -- what is tracked: the table, and the script, unless it is written
  obtain ⟨H, only, tabH, seq, ok, fresh⟩ : ∃ H : Hp, (∀ b, H b = none ∨ (b = a ∧ H b = some (.frz { cls := .type "list", data := .seq vs.toArray } (.lst (ns.map V.int)))) ∨ (b = PT ∧ H b = some (.tbl #[]))) ∧ H PT = some (.tbl #[]) ∧ SqL K H a (ns.map V.int) ∧ HOk P w H s.heap ∧ (H a ≠ none → K.lookup a = none) := by
    cases hk : K.lookup a with
    | some o =>
      have e := inK a o hk
      rw [at_a] at e
      cases e
      have look : ∀ b, (if b = PT then some (HO.tbl #[]) else none) = none ∨ (b = PT ∧ (if b = PT then some (HO.tbl #[]) else none) = some (.tbl #[])) := fun b => by
        by_cases e : b = PT
        · exact .inr ⟨e, if_pos e⟩
        · exact .inl (if_neg e)
      refine ⟨fun b => if b = PT then some (.tbl #[]) else none, fun b => (look b).imp id fun z => .inr z, if_pos rfl, .inr ⟨_, vs.toArray, _, hk, rfl, rfl, rfl, by rw [List.size_toArray, lenV]; exact short, by simpa using vals⟩, fun b u z => ?_, fun z => absurd (if_neg aP) z⟩
      rcases look b with q | ⟨e, q⟩
      · have y := q.symm.trans z
        cases y
      · have y := q.symm.trans z
        cases y
        rw [e]
        exact at_P
    | none =>
      have look : ∀ b, (if b = a then some (HO.frz { cls := .type "list", data := .seq vs.toArray } (.lst (ns.map V.int))) else if b = PT then some (HO.tbl #[]) else none) = none ∨
          (b = a ∧ (if b = a then some (HO.frz { cls := .type "list", data := .seq vs.toArray } (.lst (ns.map V.int))) else if b = PT then some (HO.tbl #[]) else none) = some (.frz { cls := .type "list", data := .seq vs.toArray } (.lst (ns.map V.int)))) ∨
          (b = PT ∧ (if b = a then some (HO.frz { cls := .type "list", data := .seq vs.toArray } (.lst (ns.map V.int))) else if b = PT then some (HO.tbl #[]) else none) = some (.tbl #[])) := fun b => by
        by_cases e : b = a
        · exact .inr (.inl ⟨e, if_pos e⟩)
        · by_cases e2 : b = PT
          · exact .inr (.inr ⟨e2, by rw [if_neg e, if_pos e2]⟩)
          · exact .inl (by rw [if_neg e, if_neg e2])
      refine ⟨fun b => if b = a then some (.frz { cls := .type "list", data := .seq vs.toArray } (.lst (ns.map V.int))) else if b = PT then some (.tbl #[]) else none, look, (if_neg Pa).trans (if_pos rfl), .inl (.inr ⟨_, if_pos rfl⟩), fun b u z => ?_, fun _ => rfl⟩
      rcases look b with q | ⟨e, q⟩ | ⟨e, q⟩
      · have y := q.symm.trans z
        cases y
      · have y := q.symm.trans z
        cases y
        subst e
        exact ⟨at_a, by rw [List.length_map]; exact short, vs, _, vals, at_a⟩
      · have y := q.symm.trans z
        cases y
        rw [e]
        exact at_P
  -- what isn't tracked
  have free : ∀ {b : Addr} {o : Obj}, s.heap.get? b = some o → o.cls ≠ .type "list" → b ≠ PT → H b = none := fun {b o} e n n2 => by
    rcases only b with z | ⟨rfl, _⟩ | ⟨q, _⟩
    · exact z
    · rw [at_a] at e
      cases e
      exact absurd rfl n
    · exact absurd q n2
  have dicts : ∀ {b : Addr} {o : Obj} {es : Array DictEntry} {ep : Nat}, s.heap.get? b = some o → o.data = .dict es ep → H b = none := fun {b o es ep} e d => by
    rcases only b with z | ⟨rfl, _⟩ | ⟨rfl, _⟩
    · exact z
    · rw [at_a] at e
      cases e
      exact absurd d (by intro z; cases z)
    · rw [at_P] at e
      cases e
      exact absurd d (by intro z; cases z)
  have low : ∀ {b : Addr} {m : Str → Option Value}, s.heap.Ns b m → (hidT s.heap H).Ns b m := by
    rintro b m ⟨o, es, ep, e, d, r⟩
    exact ⟨o, es, ep, hidT_get e (dicts e d), d, r⟩
  have lowK : K.In (hidT s.heap H) := fun b o e => hidT_get (inK b o e) (by
    rcases only b with z | ⟨rfl, z⟩ | ⟨rfl, _⟩
    · exact z
    · have y := fresh (by rw [z]; intro q; cases q)
      rw [e] at y
      cases y
    · rw [e] at notP
      cases notP)
  have others : ∀ b o, s.heap.get? b = some o → o.cls ≠ .type "list" → b ≠ PT → (hidT s.heap H).get? b = some o := fun b o e n n2 => hidT_get e (free e n n2)
  have limL : (hidT s.heap H).NoLimit := by
    obtain ⟨mc, h1, h2⟩ := lim
    exact ⟨mc, low h1, h2⟩
  have gP : mainGlobals ≠ PT := fun z => by
    obtain ⟨o, es, ep, e, d, _⟩ := gl
    rw [z, at_P] at e
    cases e
    cases d
  have TB : LamX.TabB (hidT s.heap H) mg ct PT := by
    refine ⟨PySem.W.codeHd_of_K lowK hd, ?_, gP⟩
    obtain ⟨bm, ob, b1, b2, b3, b4, b5, b6⟩ := mods
    have n1 : bm ≠ mainGlobals := fun z => by
      obtain ⟨o, es, ep, e, d, _⟩ := gl
      rw [z, e] at b3
      cases b3
      rw [d] at b6
      cases b6
    have n2 : bm ≠ PT := fun z => by
      rw [z, at_P] at b3
      cases b3
      cases b6
    exact ⟨bm, ob, b1, b2, n1, n2, others _ _ b3 (by rw [b4]; intro z; injection z with z; exact absurd z (by decide)) n2, b4, b5, b6⟩
  have e0 : Env0 P w K mg (hidT s.heap H) callerA [] s H :=
    ⟨rfl, ⟨lowK, low gl, ⟨mb, low bl, blb⟩, limL⟩, fun b o e => of_hidT e, Nat.le_of_eq (hidT_size _ _), trivial, fun b hb => (by cases hb), ok, .of_eq gens⟩
  have run := (F _ lowK (low gl) others TB).run callerA [] s H ⟨[.ref a], []⟩ [.ref a] [.ref a] (fun v _ => v = .bl true) (fun _ _ _ => False) rfl room e0 (binds s (.ref a)) (.cons rfl .nil) (promise H tabH seq)
  refine codeAny_mono run fun r s' q => ?_
  cases r with
  | error e => exact q.elim
  | ok fl =>
    cases fl with
    | next => exact q.elim
    | brk => exact q.elim
    | cont => exact q.elim
    | ret u =>
      obtain ⟨v, H2, os, bare, un, ok2, rv, ev⟩ := q
      have ev' : v = .bl true := ev
      subst ev'
      have eu : u = Value.bool true := rv
      subst eu
      obtain ⟨more, z2⟩ := un.tbls PT #[] tabH
      have grown : s'.heap.get? PT = some { cls := .none, data := .fields (#[] ++ more) } := ok2 PT _ z2
      have stays : ∀ b o, b ≠ PT → s.heap.get? b = some o → s'.heap.get? b = some o := fun b o n e => by
        rcases only b with z | ⟨rfl, z⟩ | ⟨q, _⟩
        · exact un.keep b o e z (by intro q; cases q) (by intro q; cases q)
        · have z2 := un.frzs _ _ _ z
          have y1 := (ok _ _ z).1
          have y2 := (ok2 _ _ z2).1
          rw [e] at y1
          cases y1
          exact y2
        · exact absurd q n
      refine ⟨rfl, ⟨fun b o e => ?_, fun b o e => ?_⟩, os, bare⟩
      · by_cases n : b = PT
        · rw [n] at e ⊢
          rw [at_P] at e
          cases e
          exact .inr (.inl ⟨((PySem.W.codeHd_of_K inK hd).tab at_P).isCodeTable, rfl, #[], more, rfl, grown⟩)
        · exact .inl (stays b o n e)
      · by_cases n : b = PT
        · rw [n]
          exact ⟨_, grown⟩
        · exact ⟨o, stays b o n e⟩
/-- the goal that the head leaves, the module table's place and the law's table told to the defs -/
theorem walkGT {l : PySem.W.OpenLaw} {n k : Nat} {q : Program} {loose : List Str} {XP : (Str → Option Value) → Heap → Prop} {YP : World → Heap → Prop} {d : DefRec} {K : Params → PySem.W.Frag} {PT : Addr} {sp : World → Sp} {x : Str}
    (hn : l.most = some n) (hn2 : n ≤ sizeLine) (hdf : d.params.defaults = []) (room : Room k callerA) (hY : ∀ (w : World) (h : Heap), YP w h → (K w.params).In h ∧ SysOn h ∧ h.get? PT = some { cls := .none, data := .fields #[] }) (hsys : sysModules ≠ PT)
    (F : ∀ (w : World) (mg : Str → Option Value) (fa : Addr) (h : Heap), (K w.params).In h → h.Ns mainGlobals mg → mg d.name = some (.ref fa) →
      ∃ (fd : FuncData) (ct : Addr), (K w.params).lookup PT = none ∧ PySem.W.codeHdIn (K w.params) ct PT = true ∧ (∀ (s : Shared) (u : Value), BindsTo s fd ⟨[u], []⟩ [(x, u)]) ∧ ∀ base : Heap, SysOn base → LamX.TabB base mg ct PT → (K w.params).In base → base.Ns mainGlobals mg → FnG l.prog w (K w.params) mg base k fa fd [x] (sp w))
    (promise : ∀ (w : World) (H : Hp) (a : Addr) (ns : List Int), ns.length ≤ n → H PT = some (.tbl #[]) → SqL (K w.params) H a (ns.map V.int) → sp w [.ref a] H (fun v _ => v = .bl true) fun _ _ _ => False) :
    PySem.W.WalkO q loose XP YP l.row.toRowW d [] (fun f vs => PySem.call f vs) := by
  refine Att.attach_callB hn hdf ?_
  intro w s₀ s₁ mg mb fa o pm cd doc a vs ns G Y _ _ _ named obj nums len _ gens
  obtain ⟨inK, ⟨o2, e2, n2⟩, at_P⟩ := hY w _ Y
  obtain ⟨fd, ct, nP, hd, binds, hF⟩ := F w mg fa _ inK G.T.g named
  exact calledT inK G.T.g G.T.b G.T.builtins G.T.nolimit gens at_P nP hd G.T.bmain obj nums (Nat.le_trans len hn2) room (fun base kb nb old TB => hF base ⟨o2, old _ _ e2 n2 hsys, n2⟩ TB kb nb) binds fun H hp seq => promise w H a ns len hp seq
end Br

/-! BrRC: what is read as a list, data or a thing of the store; a def that may raise but doesn't here. -/
namespace Br
open PySem PySem.Spec PyProof.Rows L2
def lstS : Sv → Os → Option (List D)
  | .d (.lst ds), _ => some ds
  | .o k, os => os[k]?.bind fun ob => match ob with
    | .ml ds => some ds
    | _ => none
  | _, _ => none
section
variable {K : PySem.W.Frag} {as : List Addr} {H : Hp} {os : Os} {v : V} {x : Sv} {ds : List D}
theorem lst_rd (R : Ro K as H os) (r : SvR K as H v x) (e : lstS x os = some ds) : ∃ a vs, v = .ref a ∧ SqL K H a vs ∧ DxA K as H vs ds := by
  cases x with
  | d y =>
    cases y with
    | lst d2 =>
      cases e
      cases (show Dx K as H v (.lst ds) from r) with
      | @lst a vs _ hl hr => exact ⟨a, vs, rfl, hl.sq, hr⟩
    | _ => cases e
  | o k =>
    obtain ⟨a, ea, rfl⟩ := r
    have e1 : (os[k]?.bind fun ob => match ob with | .ml ds => some ds | _ => none) = some ds := e
    obtain ⟨ob, eo, ek⟩ := Option.bind_eq_some_iff.mp e1
    cases ob with
    | ml d2 =>
      cases ek
      obtain ⟨vs, h1, h2⟩ := R.own k a _ ea eo
      exact ⟨a, vs, rfl, .inl (.inl h1), h2⟩
    | _ => cases ek
  | fn f r => cases e
theorem lst_at {k : Nat} (h : os[k]? = some (.ml ds)) : lstS (.o k) os = some ds := by
  show os[k]?.bind _ = _
  rw [h]
  rfl
theorem lst_app {l : Os} (h : lstS x os = some ds) : lstS x (os ++ l) = some ds := by
  cases x with
  | d z => cases z <;> first | exact h | cases h
  | o k =>
    have e1 : (os[k]?.bind fun ob => match ob with | .ml ds => some ds | _ => none) = some ds := h
    obtain ⟨ob, e2, e3⟩ := Option.bind_eq_some_iff.mp e1
    show ((os ++ l)[k]?.bind _) = _
    rw [List.getElem?_append_left (List.getElem?_eq_some_iff.mp e2).1, e2]
    exact e3
  | fn a b => cases h
theorem lst_set {k : Nat} {ob : Ob} (h : lstS x os = some ds) (hne : x ≠ .o k) : lstS x (os.set k ob) = some ds := by
  cases x with
  | d z => cases z <;> first | exact h | cases h
  | o j =>
    show ((os.set k ob)[j]?.bind _) = _
    rw [List.getElem?_set_ne (fun e => hne (by rw [e]))]
    exact h
  | fn a b => cases h
end
section
variable {K : PySem.W.Frag} {X : Xc} {S : Sa} {os : Os} {Q : Sv → Os → Prop} {x : Sv} {ds : List D} {te : TE}
theorem cw_lenS2 (e : lstS x os = some ds) (q : Q (.d (.int (ds.length : Int))) os) : CW K (rLen K) [x] os Q :=
  cw_pure (fun as H vs Q' R r k => by
    cases r with
    | cons h t =>
      cases t
      obtain ⟨a, ws, rfl, hs, hr⟩ := lst_rd R h e
      refine ⟨a, ws, rfl, .inl hs, ?_⟩
      rw [hr.length]
      exact k _ (.int _)) q
theorem bw_ixS2 {i : Int} {z : D} (e : lstS x os = some ds) (h : L2.atI ds i = some z) (q : Q (.d z) os) : BW K (rIxL K) x (.d (.int i)) os Q :=
  bw_pure (fun as H v u Q' R rx ry k => by
    cases ry
    obtain ⟨a, ws, rfl, hs, hr⟩ := lst_rd R rx e
    obtain ⟨u, e1, r⟩ := hr.atI h
    exact ⟨a, ws, i, u, rfl, rfl, hs, e1, k _ r⟩) q
theorem cw_lstS2 (e : lstS x os = some ds) (q : Q (.d (.lst ds)) os) : CW K (rListOf K) [x] os Q :=
  cw_new (fun as H vs Q' R r k1 k2 => by
    cases r with
    | cons h t =>
      cases t
      obtain ⟨a, ws, rfl, hs, hr⟩ := lst_rd R h e
      exact ⟨a, ws, rfl, .inl hs, fun l hl => k1 l _ hl (dx_newL R hl hr)⟩) q
theorem sw_S2 {lo hi : Option Int} (e : lstS x os = some ds) (q : Q (.d (.lst (cutD ds lo hi))) os) : SW K (rSlL K) x lo hi os Q := fun as H v Q' R r k => by
  obtain ⟨a, ws, rfl, hs, hr⟩ := lst_rd R r e
  exact ⟨a, ws, rfl, hs, fun p hp => k _ _ (.d (.lst _)) os (Go.new hp) (R.new hp) (dx_newL R hp (cut_dx hr lo hi)) q⟩
theorem ew_revS2 (h : EW K X te S fun x os => ∃ xs, lstS x os = some xs ∧ Q (.d (.lst xs.reverse)) os) : EW K X (tRevL K te) S Q := fun as H σ Q' R x k =>
  h as H σ _ R x fun v H1 d os1 g1 R1 r1 ⟨xs, e, q⟩ => by
    obtain ⟨a, ws, rfl, hs, hr⟩ := lst_rd R1 r1 e
    exact ⟨_, _, rfl, hs, fun p hp => k (.ref p) _ (.d (.lst xs.reverse)) os1 (g1.trans (Go.new hp)) (R1.new hp) (dx_newL R1 hp hr.rev) q⟩
end
section
variable {K : PySem.W.Frag} {X : Xc} {S : Sa} {Q : Sv → Os → Prop} {ta : TA} {f : FD}
/-- a def that may raise, but not here -/
theorem ew_callS00 (h : AW K X ta S fun ds os => f ds os (fun d os' => Q (.d d) os') fun _ _ _ => False) : EW K X (tCallS (spD K f) (WE fun _ _ _ _ => False) ta) S Q := fun as H σ Q' R x k =>
  h as H σ _ R x fun vs H1 ds os1 g1 R1 r1 q1 => ⟨as, os1, ds, _, _, R1, r1, q1, fun v H2 d os2 g2 R2 r2 q2 => k v H2 (.d d) os2 (g1.trans g2) R2 r2 q2, fun _ _ _ _ _ _ _ _ _ _ _ z => z.elim⟩
end
section
variable {K : PySem.W.Frag} {X : Xc} {S : Sa} {E : Ea} {tl : TA}
/-- x, y = [e, ..], [], lists that change -/
theorem w_parDL {i j : Nat} (h : AW K X tl S fun xs os => ∃ ds, unD xs = some ds ∧ ds.length ≤ sizeLine ∧ E.nx ⟨(S.s.set i (some (.o os.length))).set j (some (.o (os.length + 1))), os ++ [.ml ds] ++ [.ml []]⟩) : W K X (tPar i j (tCons (tLst tl) (tCons (tLst tNil) tNil))) E S := fun as H σ D R x n r b c =>
  h as H σ _ R (x.h R) fun vs H1 xs os1 g1 R1 r1 ⟨ds, e, hl, q⟩ => by
    have hd := (unD_all e).dx r1
    refine ⟨by rw [hd.length]; exact hl, fun p hp => ⟨Nat.zero_le _, fun p2 hp2 => ⟨.ref p, .ref p2, rfl, ?_⟩⟩⟩
    have R2 := ro_addL R1 hp hd
    have s2 : Stp as H1 (as ++ [p]) (upd H1 p (.lst vs)) := stp_add hp
    have sN := (Stp.of_go g1 R1).trans s2
    have RR : Re K (as ++ [p]) (upd H1 p (.lst vs)) σ ⟨S.s, os1 ++ [.ml ds]⟩ := ⟨R2, R.slen, fun k d hd => by
      obtain ⟨u, e, z⟩ := R.slot k d hd
      exact ⟨u, e, z.stp sN⟩⟩
    have s3 : Stp (as ++ [p]) (upd H1 p (.lst vs)) (as ++ [p] ++ [p2]) (upd (upd H1 p (.lst vs)) p2 (.lst [])) := stp_add hp2
    have R3 : Re K (as ++ [p] ++ [p2]) (upd (upd H1 p (.lst vs)) p2 (.lst [])) σ ⟨S.s, os1 ++ [.ml ds] ++ [.ml []]⟩ := ⟨ro_add R2 hp2, RR.slen, fun k d hd => by
      obtain ⟨u, e, z⟩ := RR.slot k d hd
      exact ⟨u, e, z.stp s3⟩⟩
    have h1 : SvR K (as ++ [p] ++ [p2]) (upd (upd H1 p (.lst vs)) p2 (.lst [])) (.ref p) (.o os1.length) := ⟨p, by rw [← R1.len]; simp, rfl⟩
    have h2 : SvR K (as ++ [p] ++ [p2]) (upd (upd H1 p (.lst vs)) p2 (.lst [])) (.ref p2) (.o (os1.length + 1)) := ⟨p2, by rw [← R1.len]; simp, rfl⟩
    exact n _ _ _ _ (sN.trans s3) ((R3.set i h1).set j h2) q
end
end Br

/-! BrSk: sorted of a tuple of spots by a lambda (begin, end). -/
namespace Br
open PySem PySem.Spec PyProof.Rows L2
section
variable {prog : Program} {w : World} {A : Around} {E : Value → Shared → Prop} {s : Shared}
/-- a tuple's items, collected -/
theorem collect_tup {l : Addr} {vs : List Value} {Q : List Value → Shared → Prop} (hl : IsTup s.heap l vs.toArray)
    (h : Q vs { s with heap := (s.heap.push (seqObj "list" #[] 0)).update s.heap.objs.size (Obj.mapSeq (· ++ vs.toArray)) }) (hsz : vs.length ≤ sizeLine) : wpAny (model prog w) A (collect (.ref l)) Q E s := by
  obtain ⟨o, ho, hc, n, hd⟩ := hl
  unfold collect
  refine wpAny_bind (wpAny_runValue (codeAny_builtin entry_proto_collect' ?_))
  show wpAny _ _ (do again (.builtin "list.__iadd__" ⟨[← newList [], .ref l], []⟩)) _ _ s
  refine wpAny_bind (wpAny_newList (wpAny_pure ⟨Code.quiet_builtin _ (by decide +kernel), codeAny_builtin entry_list_iadd' ?_⟩))
  show wpAny _ _ (Builtin.List.listExtendWith (.ref s.heap.objs.size) (.ref l) (.ref s.heap.objs.size)) _ _ { s with heap := s.heap.push (seqObj "list" #[] 0) }
  unfold Builtin.List.listExtendWith
  have at1 : (s.heap.push (seqObj "list" #[] 0)).get? l = some o := Heap.get?_push_of_some _ ho
  refine wpAny_bind (wpAny_typeOf (T := "tuple") ⟨o, at1, hc⟩ ?_)
  have ht : (Value.type "tuple" == Value.type "tuple") = true := by rfl
  rw [if_pos (by rw [ht]; simp)]
  refine wpAny_bind (listItems_at at1 hd ?_)
  refine wpAny_bind (listItems_at (xs := #[]) (n := 0) (Heap.get?_push_size _ rfl) rfl ?_)
  rw [if_neg (by simp)]
  refine wpAny_bind (listUpdate_at (xs := #[]) (n := 0) (Heap.get?_push_size _ rfl) rfl ?_ (Nat.zero_le _) (by show (#[] ++ vs.toArray).size ≤ sizeLine + 1; simp only [Array.size_append, List.size_toArray, List.length_nil]; omega))
  refine wpAny_pure ?_
  show wpAny (model prog w) A (do
      let o ← load s.heap.objs.size
      match o.data with
      | .seq xs _ => pure xs.toList
      | _ => unsupported "internal:collect") Q E { s with heap := (s.heap.push (seqObj "list" #[] 0)).update s.heap.objs.size (Obj.mapSeq (· ++ vs.toArray)) }
  refine wpAny_bind (wpAny_load (get?_update_seq (Heap.get?_push_size _ rfl) _) ?_)
  show wpAny _ _ (pure ((#[] : Array Value) ++ vs.toArray).toList) Q E _
  rw [show ((#[] : Array Value) ++ vs.toArray).toList = vs by simp]
  exact wpAny_pure h
/-- sorted(t, key=f), t a tuple: f's calls keep what was there -/
theorem sorted_key_tup {β : Type} {vs : List Value} {bs : List β} {R : Value → β → Prop} {l f : Addr} {Q : Value → Shared → Prop} (k : β → PyData) (hl : IsTup s.heap l vs.toArray) (e : PySem.W.EachIs R vs bs) (hal : PySem.W.AllAlike (bs.map k)) (hk : PySem.W.Sortable (bs.map k)) (hL : bs.length ≤ sizeLine)
    (hu : ∀ x, x ∈ bs → A.units + 2 + (k x).depth < cLine)
    (turn : ∀ (v : Value) (x : β), R v x → x ∈ bs → ∀ (h : Heap) (tk : Nat), (∀ b o, s.heap.get? b = some o → h.get? b = some o) →
      wpAny (model prog w) A.in1.in1 (call (.ref f) [v]) (PySem.W.KeyPure (k x) { s with heap := h, toks := tk }) (fun _ _ => False) { s with heap := h, toks := tk })
    (h : ∀ out c h' tk, (∀ b o, s.heap.get? b = some o → h'.get? b = some o) → h'.get? (s.heap.objs.size + 1) = some (seqObj "list" (List.toArray out) c) → out.length = bs.length → PySem.W.EachIs R out (bs.mergeSort (PySem.W.dataLe false k)) →
      Q (.ref (s.heap.objs.size + 1)) { s with heap := h', toks := tk }) :
    wpAny (model prog w) A (call (.builtin "sorted") [.ref l] [(Str.ofString "key", .ref f)]) Q E s := by
  have hz : vs.length ≤ sizeLine := by rw [e.length]; exact hL
  have up : ∀ {g : Heap}, PySem.W.KeepsBut (s.heap.objs.size + 1) (PySem.W.copyHeap s.heap vs) g → ∀ b o, s.heap.get? b = some o → g.get? b = some o := fun {g} kp b o q =>
    kp b o (Nat.ne_of_lt (Nat.lt_succ_of_lt (Heap.lt_size q))) (PySem.W.copyHeap_old q)
  refine call_function_entry_kw kind_sorted plain_sorted entry_sorted (ksk_s1 _ _) ?_
  unfold Builtin.«sorted»
  refine wpAny_bind (m := checkCount "sorted" 1 1 _) (wpAny_pure ?_)
  refine wpAny_bind (collect_tup hl ?_ hz)
  refine wpAny_bind (wpAny_newList ?_ hz)
  have hsz : ((s.heap.push (seqObj "list" #[] 0)).update s.heap.objs.size (Obj.mapSeq (· ++ vs.toArray))).objs.size = s.heap.objs.size + 1 := by
    rw [Heap.size_update, size_push']
  show wpAny _ _ _ _ _ { s with heap := PySem.W.copyHeap s.heap vs }
  rw [hsz]
  refine wpAny_bind (wpAny_holding (wpAny_call_entry_kw slot_list_sort ⟨_, PySem.W.copyHeap_at s.heap vs, rfl⟩ entry_list_sort ?body (ksk_l1 _ _)))
  case body =>
    rw [ksk_t1]
    refine wpAny_mono (PySem.W.keyH_tree (P := fun fi s' => fi = .done (.ret .none) ∧ Q (.ref (s.heap.objs.size + 1)) s') (kz := bs.map k) (s := { s with heap := PySem.W.copyHeap s.heap vs }) (PySem.W.copyHeap_at s.heap vs) (by rw [List.length_map]; exact e.length.symm) hz hal hk (PySem.W.bound_map (A := A.in1.in1) hu)
      (PySem.W.keyH_turns (s := { s with heap := PySem.W.copyHeap s.heap vs }) e fun v x hR hx h tk kp => turn v x hR hx h tk (up kp)) fun h' tk out c kp hD ko => ⟨rfl, ?_⟩) (fun fi s' hf => ?_) fun _ _ z => z
    · exact h out c h' tk (up kp) hD ((ko.length (by rw [List.length_map]; exact e.length.symm)).trans e.length) (PySem.W.keyedOut_each k ko e)
    · obtain ⟨rfl, hq⟩ := hf
      exact ⟨_, rfl, wpAny_pure ⟨_, rfl, hq⟩⟩
end
/-! ### the key (begin, end) -/
/-- x[0], x[0] + len(x[1]) -/
abbrev keyE (x : Str) (p0 p1 p2 p3 p4 p5 p6 p7 p8 p9 p10 p11 p12 : Pos) (k0 k1 k2 k3 : Nat) : Expr := .Tuple [.Subscript (.Name x p0) (.Constant (.int 0) k0 p1) p2,
  .BinOp (.Subscript (.Name x p3) (.Constant (.int 0) k1 p4) p5) .Add (.Call (.Name "len" p6) [.Subscript (.Name x p7) (.Constant (.int 1) k2 p8) p9] [] p10) p11] k3 p12
section
variable {prog : Program} {w : World} {A : Around} {E : Value → Shared → Prop} {s : Shared} {env : Env} {m mg mb : Str → Option Value} {t to tn : Addr} {a : Int} {ta : Tok} {items its : Array Value}
theorem key_item {v sl : Expr} {i j : Nat} {u : Tok} {x : Value} {Q : Value → Shared → Prop} (ht : IsTup s.heap t items) (hj : items.size = 3) (hi : i < 3) (hx : items[i]? = some x) (hs : subscripted sl false (.ref t) (.int i u) = operate [.ref t, .int i u] (getItem (.ref t) (.int i u))) (h : Q x s) :
    wpAny (model prog w) A (subscriptTail v sl (.ref t) (.int i u)) Q E s :=
  subscriptTail_builtinR (x := x) ht.typeIs slot_tuple_getitem.lookup (getItem_tuple (j := i) (Q := fun r s' => r = x ∧ Q r s') ht (by omega) (by omega) (by rw [hj]; unfold seqIndex?; simp; omega) hx ⟨rfl, h⟩) hs
theorem key_body {x : Str} {p0 p1 p2 p3 p4 p5 p6 p7 p8 p9 p10 p11 p12 : Pos} {k0 k1 k2 k3 : Nat} {Q : Value → Shared → Prop} (kind : env.scope.kind = .function) (hk : env.kindOf x = some .local) (hl : env.kindOf "len" = some .globalImplicit) (hn : s.heap.Ns env.locals m) (hm : m x = some (.ref t))
    (hg : s.heap.Ns env.globals mg) (hmg : mg "len" = none) (hb : s.heap.Ns env.builtins mb) (hmb : mb "len" = some (.builtin "len")) (hd : (x == ("__debug__" : Str)) = false)
    (ht : IsTup s.heap t items) (h3 : items.size = 3) (i0 : items[0]? = some (.int a ta)) (i1 : items[1]? = some (.ref to)) (ho : IsTup s.heap to its) (hlen : its.size ≤ 1000000)
    (h : ∀ (h' : Heap) (tk : Nat) (c : Addr) (t1 t2 : Tok), (∀ b o, s.heap.get? b = some o → h'.get? b = some o) → h'.get? c = some { cls := .type "tuple", data := .seq (List.toArray [.int a t1, .int (a + its.size) t2]) } → Q (.ref c) { s with heap := h', toks := tk }) :
    wpAny (model prog w) A (eval (keyE x p0 p1 p2 p3 p4 p5 p6 p7 p8 p9 p10 p11 p12 k0 k1 k2 k3) env) Q E s := by
  have l63 := line63
  have hsl := sizeLine_eq
  refine wpAny_Tuple_spliced ?_
  have nm : ∀ {pos : Pos} {Q : Value → Shared → Prop} {tk : Nat}, Q (.ref t) { s with toks := tk } → wpAny (model prog w) A (eval (.Name x pos) env) Q E { s with toks := tk } := fun {pos Q tk} q =>
    wpAny_Name (wpAny_loadName_local (s := { s with toks := tk }) kind hk hn hm q) hd
  have sub0 : ∀ {k : Nat} {p1 p2 p3 : Pos} {Q : Value → Shared → Prop} {tk : Nat}, (∀ tk, Q (.int a ta) { s with toks := tk }) → wpAny (model prog w) A (eval (.Subscript (.Name x p1) (.Constant (.int 0) k p2) p3) env) Q E { s with toks := tk } := fun {k p1 p2 p3 Q tk} q =>
    Subscript_ (nm (wpAny_Constant_int (key_item (s := { s with toks := tk + 1 }) (i := 0) (j := 0) ht h3 (by decide) i0 (by with_unfolding_all rfl) (q _))))
  have sub1 : ∀ {k : Nat} {p1 p2 p3 : Pos} {Q : Value → Shared → Prop} {tk : Nat}, (∀ tk, Q (.ref to) { s with toks := tk }) → wpAny (model prog w) A (eval (.Subscript (.Name x p1) (.Constant (.int 1) k p2) p3) env) Q E { s with toks := tk } := fun {k p1 p2 p3 Q tk} q =>
    Subscript_ (nm (wpAny_Constant_int (key_item (s := { s with toks := tk + 1 }) (i := 1) (j := 1) ht h3 (by decide) i1 (by with_unfolding_all rfl) (q _))))
  refine Calls.spliced_cons (sub0 (tk := s.toks) fun tk => ?_)
  refine Calls.spliced_cons (wpAny_BinOp (sub0 fun tk => ?_))
  refine wpAny_Call_Name_kw (Calls.Name_function_global kind hl (Calls.loadGlobal_builtin (s := { s with toks := tk }) hg hmg hb hmb ?_))
  refine PyProof.Rows.callWith_builtin1 (Calls.spliced_cons (sub1 fun tk => Calls.spliced_nil ?_))
  refine len_tuple (s := { s with toks := tk }) ho (by omega) ?_
  refine add_int ?_
  refine Calls.spliced_nil ⟨Nat.le_of_ble_eq_true rfl, ?_⟩
  exact h _ _ _ _ _ (fun b o e => Heap.get?_push_of_some _ e) (Heap.get?_push_size _ rfl)
end
/-! ### sorted(t, key=lambda x: ..) -/
/-- what the lambda's names are -/
structure KeyS (x : Str) (scope : Scope) : Prop where
  kind : scope.kind = .function
  co : scope.isCoroutine = false
  gen : scope.isGenerator = false
  own : scope.names.lookup x = some .local
  len : scope.names.lookup ("len" : Str) = some .globalImplicit
  cell : ∀ y ∈ scope.names, y.2 ≠ .cell
  free : ∀ y ∈ scope.names, y.2 ≠ .free
  d : (x == ("__debug__" : Str)) = false
/-- an item is a tuple of three: a number, a tuple of a length, another thing -/
def Spot3 (K : PySem.W.Frag) (H : Hp) (v : V) (i : Int) (n : Nat) : Prop := ∃ (t o : Addr) (z : V) (ys : List V), v = .ref t ∧ SqT K H t [.int i, .ref o, z] ∧ SqT K H o ys ∧ ys.length = n ∧ n ≤ 1000000
def keyP (i : Int) (n : Nat) : PyData := .tuple [.int i, .int (i + n)]
def tSortK (K : PySem.W.Frag) (P : Addr) (q : Str) (te : TE) : TE := fun σ H Q => te σ H fun x1 H1 => LamX.TabS H1 P q ∧ ∃ (a : Addr) (ε : Type) (bs : List (V × ε)) (ka : ε → Int) (kl : ε → Nat), x1 = .ref a ∧ SqT K H1 a (bs.map Prod.fst) ∧ (∀ b ∈ bs, Spot3 K H1 b.1 (ka b.2) (kl b.2)) ∧
  ∀ c1 H2, LamN H1 H2 P c1 q → ∀ p, H2 p = none → Q (.ref p) (upd H2 p (.lst ((bs.mergeSort (PySem.W.dataLe false fun b => keyP (ka b.2) (kl b.2))).map Prod.fst)))
theorem rd_lam {H H1 : Hp} {P c1 : Addr} {q : Str} {a : Addr} {u : HO} (N : LamN H H1 P c1 q) (T : LamX.TabS H P q) (nu : ∀ ps, u ≠ .tbl ps) (h : Rd H a u) : Rd H1 a u := by
  obtain ⟨ps, hP, _⟩ := T
  rcases h with h | ⟨o, h⟩
  · exact .inl (N.ext a _ (fun z => by rw [z, hP] at h; exact nu ps (Option.some.inj h).symm) h)
  · exact .inr ⟨o, N.ext a _ (fun z => by rw [z, hP] at h; cases h) h⟩
theorem sqT_lam {K : PySem.W.Frag} {H H1 : Hp} {P c1 : Addr} {q : Str} {a : Addr} {xs : List V} (N : LamN H H1 P c1 q) (T : LamX.TabS H P q) (h : SqT K H a xs) : SqT K H1 a xs :=
  h.elim (fun z => .inl (rd_lam N T (fun _ z => by cases z) z)) .inr
theorem keyP_alike (i j : Int) (n m : Nat) : PySem.W.alike (keyP i n) (keyP j m) = true := by simp [keyP, PySem.W.alike, PySem.W.alikeAll]
section
variable {X : Cx}
/-- the lambda called by sorted -/
theorem lam_key {pins : List (Addr × Obj)} {σ : L2.St} {H : Hp} {s : Shared} {A : Around} {x : Str} {p0 p1 p2 p3 p4 p5 p6 p7 p8 p9 p10 p11 p12 : Pos} {k0 k1 k2 k3 : Nat} {q : Str} {params : Arguments} {scope : Scope} {cl : List (Str × Addr)} {pm ct : Value} {f c1 : Addr} {v : V} {u : Value} {i : Int} {n : Nat} {h : Heap} {tk : Nat}
    (I : Inv X pins σ H s) (S : KeyS x scope) (hlen : X.mg "len" = none) (hroom : A.depth < recursionLimit) (obj : s.heap.get? f = some (PySem.W.kla_obj "<lambda>" q params (keyE x p0 p1 p2 p3 p4 p5 p6 p7 p8 p9 p10 p11 p12 k0 k1 k2 k3) scope cl pm c1 ct)) (code : H c1 = some (LamX.CodeO c1 q))
    (binds : ∀ u, bindArgs (PySem.W.kla_fn "<lambda>" q params (keyE x p0 p1 p2 p3 p4 p5 p6 p7 p8 p9 p10 p11 p12 k0 k1 k2 k3) scope cl pm (.ref c1) ct) ⟨[u], []⟩ = pure [(x, u)]) (h3 : Spot3 X.K H v i n) (r : RelV v u) (kp : ∀ b o, s.heap.get? b = some o → h.get? b = some o) :
    wpAny (model X.prog X.w) A (call (.ref f) [u]) (PySem.W.KeyPure (keyP i n) { s with heap := h, toks := tk }) (fun _ _ => False) { s with heap := h, toks := tk } := by
  obtain ⟨t, o, z, ys, rfl, hs, ho, hn, hz⟩ := h3
  obtain rfl : u = Value.ref t := r
  obtain ⟨its, ri, ti, _⟩ := I.tuple hs
  obtain ⟨u1, u2, u3, rfl, r1, r2, r3⟩ : ∃ u1 u2 u3, its = [u1, u2, u3] ∧ RelV (.int i) u1 ∧ RelV (.ref o) u2 ∧ RelV z u3 := by
    cases ri with
    | cons r1 ri => cases ri with
      | cons r2 ri => cases ri with
        | cons r3 ri =>
          cases ri
          exact ⟨_, _, _, rfl, r1, r2, r3⟩
  obtain ⟨ta, rfl⟩ := r1
  obtain rfl : u2 = Value.ref o := r2
  obtain ⟨jts, rj, tj, _⟩ := I.tuple ho
  obtain ⟨⟨oc, vs, t0, atc, dc, nc⟩, _, _⟩ := I.hok c1 _ code
  refine wpAny_call (PySem.W.kla_callFunE hroom (kp _ _ obj) rfl S.co S.gen rfl ⟨c1, oc, vs, t0, rfl, kp _ _ atc, dc, nc⟩ ?_)
  rw [binds]
  refine wpAny_pure (wpAny_newFunctionEnv S.cell (fun y m => ?_) (fun h1 ns sub => ⟨((I.nolimit.keeps kp).fresh _ sub), ?_⟩) S.kind)
  · rw [List.mem_singleton.mp m]
    exact S.own
  · have k1 : ∀ b o, h.get? b = some o → h1.get? b = some o := fun b o e => sub.extBut b o (Nat.ne_of_lt (Heap.lt_size e)) (Heap.get?_push_of_some _ e)
    have k2 : ∀ b o, s.heap.get? b = some o → h1.get? b = some o := fun b o e => k1 b o (kp b o e)
    obtain ⟨mb, b1, b2⟩ := I.mod.blt
    have isT : ∀ {a : Addr} {vs : Array Value}, IsTup s.heap a vs → IsTup h1 a vs := fun {a vs} ⟨o, e, c, n, d⟩ => ⟨o, k2 _ _ e, c, n, d⟩
    apply PySem.W.kla_codeExpr
    refine key_body (mg := X.mg) (mb := mb) (its := jts.toArray) S.kind S.own S.len ns (by simp [List.lookup]) (I.mod.glob.keeps fun b o e => k2 b o (I.bk b o e)) hlen (b1.keeps fun b o e => k2 b o (I.bk b o e)) ((b2 _ (by decide)).trans rfl) S.d (isT ti) rfl rfl rfl (isT tj) (by rw [List.size_toArray, ← rj.length]; omega) fun h' tk' c t1 t2 kk hc => ?_
    refine ⟨h', tk', rfl, fun b o e => kk b o (k1 b o e), ?_⟩
    have el : jts.toArray.size = n := by rw [List.size_toArray, ← rj.length, hn]
    rw [el] at hc
    exact .tuple hc rfl rfl (.cons (.int _ _) (.cons (.int _ _) .nil))
theorem pe_sortK {x : Str} {p0 p1 p2 p3 p4 p5 p6 p7 p8 p9 p10 p11 p12 q0 lpos kpos pos : Pos} {k0 k1 k2 k3 : Nat} {params : Arguments} {scope : Scope} {c P : Addr} {e : Expr} {te : TE} (hg : Gl X "sorted") (hm : X.mg "sorted" = none) (hlen : X.mg "len" = none) (he : PE X e te) (B : LamX.TabB X.base X.mg c P) (here : X.env.code = .ref c)
    (hd2 : X.A.depth < recursionLimit) (hu : X.A.units + 64 < cLine) (S : KeyS x scope) (noD : defaultsOf params X.env = ([], []))
    (binds : ∀ (q : Str) (cl : List (Str × Addr)) (pm cv ct u : Value), bindArgs (PySem.W.kla_fn "<lambda>" q params (keyE x p0 p1 p2 p3 p4 p5 p6 p7 p8 p9 p10 p11 p12 k0 k1 k2 k3) scope cl pm cv ct) ⟨[u], []⟩ = pure [(x, u)]) (hs : starEach [e] X.env = (false, eval e X.env) :: starEach [] X.env := by rfl) :
    PE X (.Call (.Name "sorted" q0) [e] [⟨some "key", .Lambda params (keyE x p0 p1 p2 p3 p4 p5 p6 p7 p8 p9 p10 p11 p12 k0 k1 k2 k3) scope lpos, kpos⟩] pos) (tSortK X.K P (X.env.qual ++ "<lambda>") te) := by
  refine ⟨fun pins s σ H Q I h => ?_⟩
  refine wpAny_Call_Name_kw (ld_blt I hg hm (u := .builtin "sorted") (by first | rfl | decide +kernel) ?_ (by decide) (by decide))
  refine PyProof.Rows.callWith_kw ?_ (by rw [hs]; rfl) (by rw [hs]; rfl) rfl rfl
  rw [hs]
  show wpAny _ _ (spliced ((false, eval e X.env) :: backTo pos (starEach [] X.env))) _ _ s
  refine Calls.spliced_cons (thn (he.run pins s σ H _ I h) fun u s1 ⟨x1, H1, I1, r1, tab, a, ε, bs, ka, kl, ex, ha, h3, q⟩ => Calls.spliced_nil ?_)
  subst ex
  obtain rfl : u = Value.ref a := r1
  show wpAny _ _ (evalAll [do let v ← eval (.Lambda params (keyE x p0 p1 p2 p3 p4 p5 p6 p7 p8 p9 p10 p11 p12 k0 k1 k2 k3) scope lpos) X.env; standAt pos; pure v]) _ _ s1
  refine PyProof.Rows.evalAll_cons (wpAny_bind ?_)
  refine lam_new I1 B here tab noD (fun y m z => absurd z (S.free y m)) ?_
  intro f c1 pm1 ct1 H2 s2 I2 grown obj new noFr
  refine wpAny_bind (wpAny_standAt (wpAny_pure (PyProof.Rows.evalAll_nil ?_)))
  show wpAny _ _ (call (.builtin "sorted") [.ref a] [(Str.ofString "key", .ref f)]) _ _ s2
  obtain ⟨its, rv, ht, hz⟩ := I2.tuple (sqT_lam grown tab ha)
  rw [List.length_map] at hz
  have ev := each_vals rv
  refine sorted_key_tup (fun b : V × ε => keyP (ka b.2) (kl b.2)) ht ev (PySem.W.AllAlike.of fun b b' => keyP_alike _ _ _ _) (PySem.W.Sortable.tuples fun b => ⟨_, _, rfl⟩) hz (fun b _ => ?_) (fun v b rb hb h tk kp => ?_) fun out cc h' tk kp hD hl eo => ?_
  · have : (keyP (ka b.2) (kl b.2)).depth = 1 := by simp [keyP, PyData.depth, PyData.depthAll]
    omega
  · obtain ⟨t, o, z, ys, e1, e2, e3, e4, e5⟩ := h3 b hb
    exact lam_key (A := X.A.in1.in1) I2 S hlen hd2 obj grown.co (fun u => binds _ _ _ _ _ u) ⟨t, o, z, ys, e1, sqT_lam grown tab e2, sqT_lam grown tab e3, e4, e5⟩ rb kp
  · refine ⟨.ref _, upd H2 (s2.heap.objs.size + 1) (.lst ((bs.mergeSort (PySem.W.dataLe false fun b => keyP (ka b.2) (kl b.2))).map Prod.fst)), I2.laid (t' := tk) kp (Nat.le_succ _) ⟨?_, out, cc, vals_each eo, hD⟩, rfl, q c1 H2 grown _ (I2.hok.fresh (Nat.le_succ _))⟩
    rw [List.length_map, List.length_mergeSort]
    exact hz
end
section
variable {K : PySem.W.Frag} {X : Xc} {S : Sa} {Q : Sv → Os → Prop}
/-- the store stands when a lambda is made -/
theorem ro_lam {as : List Addr} {H H1 : Hp} {os : Os} {j : Nat} {P c1 : Addr} {q : Str} (R : Ro K as H os) (hk : os[j]? = some (.tb P q)) (N : LamN H H1 P c1 q) : Go as H H1 ∧ Ro K as H1 os := by
  have hj : j < as.length := by
    rw [R.len]
    exact (List.getElem?_eq_some_iff.mp hk).1
  have atj : as[j]? = some as[j] := List.getElem?_eq_getElem hj
  obtain ⟨ps, e1, eP, e2, e3⟩ := R.own j as[j] _ atj hk
  rw [eP] at e1
  have inP : P ∈ as := by
    rw [← eP]
    exact List.getElem_mem hj
  have g1 : Go as H H1 := fun a o e n => N.ext a o (fun z => n (z ▸ inP)) e
  refine ⟨g1, ⟨R.nd, R.len, fun i a ob h1 h2 => ?_⟩⟩
  by_cases ea : a = P
  · have ei : i = j := by
      obtain ⟨l1, m1⟩ := List.getElem?_eq_some_iff.mp h1
      exact (List.getElem_inj R.nd).mp (m1.trans (ea.trans eP.symm))
    subst ei
    rw [hk] at h2
    cases h2
    obtain ⟨ps2, a1, a2, a3⟩ := N.tab
    refine ⟨ps2, by rw [ea]; exact a1, ea, a2, fun pos cv hc => ?_⟩
    obtain ⟨c, b1, b2⟩ := a3 pos cv hc
    refine ⟨c, b1, fun z => ?_, b2⟩
    obtain ⟨i2, hi2, ei2⟩ := List.mem_iff_getElem.mp z
    have hc1 : as[i2]? = some c := by rw [List.getElem?_eq_getElem hi2, ei2]
    have hc2 : i2 < os.length := R.len ▸ hi2
    have w := R.own i2 c os[i2] hc1 (List.getElem?_eq_getElem hc2)
    by_cases ec : c = P
    · rw [ec, a1] at b2
      exact LamX.codeO_ne _ (Option.some.inj b2).symm
    · have nn : ∃ o, H c = some o ∧ ∀ q, o ≠ LamX.CodeO c q := by
        unfold LamX.CodeO
        cases eo : os[i2] with
        | ml xs =>
          rw [eo] at w
          obtain ⟨_, u, _⟩ := w
          exact ⟨_, u, fun _ z => by cases z⟩
        | md xs =>
          rw [eo] at w
          obtain ⟨_, u, _⟩ := w
          exact ⟨_, u, fun _ z => by cases z⟩
        | mi C fs =>
          rw [eo] at w
          obtain ⟨_, _, u, _⟩ := w
          exact ⟨_, u, fun _ z => by cases z⟩
        | tb P q =>
          rw [eo] at w
          obtain ⟨_, u, _⟩ := w
          exact ⟨_, u, fun _ z => by cases z⟩
        | mp p xs =>
          rw [eo] at w
          obtain ⟨_, u, _⟩ := w
          exact ⟨_, u, fun _ z => by cases z⟩
        | lp p od vs xs =>
          rw [eo] at w
          obtain ⟨u, _⟩ := w
          exact ⟨_, u, fun _ z => by cases z⟩
        | mr C fs =>
          rw [eo] at w
          obtain ⟨_, u, _⟩ := w
          exact ⟨_, u, fun _ z => by cases z⟩
      obtain ⟨o, u, no⟩ := nn
      have b3 := N.ext c o ec u
      rw [b2] at b3
      exact no _ (Option.some.inj b3).symm
  · exact (R.own i a ob h1 h2).way (Way.of_go g1) fun u e => N.ext a u ea e
theorem spot3_of {as : List Addr} {H : Hp} {v : V} {i : Int} {xs : List D} {z : D} (h : Dx K as H v (.tup [.int i, .tup xs, z])) (hz : xs.length ≤ 1000000) : Spot3 K H v i xs.length := by
  cases h with
  | @tup t vs _ hl hr =>
    cases hr with
    | cons r1 hr => cases hr with
      | cons r2 hr => cases hr with
        | cons r3 hr =>
          cases hr
          cases r1
          cases r2 with
          | tup hl2 hr2 => exact ⟨t, _, _, _, rfl, hl.sq, hl2.sq, hr2.length, hz⟩
/-- sorted(t, key=lambda x: (x[0], x[0] + len(x[1]))) -/
theorem ew_sortK {P : Addr} {q : Str} {te : TE} (h : EW K X te S fun x os => ∃ (j : Nat) (ε : Type) (es : List ε) (f : ε → D) (ka : ε → Int) (xs : ε → List D) (z : ε → D), os[j]? = some (.tb P q) ∧ x = .d (.tup (es.map f)) ∧ (∀ e ∈ es, f e = .tup [.int (ka e), .tup (xs e), z e] ∧ (xs e).length ≤ 1000000) ∧
      Q (.d (.lst ((es.mergeSort (PySem.W.dataLe false fun e => keyP (ka e) (xs e).length)).map f))) os) : EW K X (tSortK K P q te) S Q := fun as H σ Q' R x k =>
  h as H σ _ R x fun v H1 d os1 g1 R1 r1 ⟨j, ε, es, f, ka, xs, z, hk, ed, hf, q⟩ => by
    subst ed
    cases (show Dx K as H1 _ (.tup (es.map f)) from r1) with
    | @tup a ws _ hl hr =>
      obtain ⟨e1, e2, e3⟩ := dxA_zip hr
      have em : ∀ b ∈ ws.zip es, b.2 ∈ es := fun b hb => by rw [← e2]; exact List.mem_map.mpr ⟨b, hb, rfl⟩
      have hj : j < as.length := by
        rw [R1.len]
        exact (List.getElem?_eq_some_iff.mp hk).1
      obtain ⟨ps, t1, eP, t2, t3⟩ := R1.own j as[j] _ (List.getElem?_eq_getElem hj) hk
      rw [eP] at t1
      refine ⟨⟨ps, t1, t2, fun pos cv hc => ?_⟩, a, ε, ws.zip es, ka, fun e => (xs e).length, rfl, by rw [e1]; exact hl.sq, fun b hb => ?_, fun c1 H2 N p hp => ?_⟩
      · obtain ⟨c, b1, _, b2⟩ := t3 pos cv hc
        exact ⟨c, b1, b2⟩
      · have d := e3 b hb
        rw [(hf b.2 (em b hb)).1] at d
        exact spot3_of d (hf b.2 (em b hb)).2
      · obtain ⟨g2, R2⟩ := ro_lam R1 hk N
        have es2 : ((ws.zip es).mergeSort (PySem.W.dataLe false fun b => keyP (ka b.2) (xs b.2).length)).map Prod.snd = es.mergeSort (PySem.W.dataLe false fun e => keyP (ka e) (xs e).length) :=
          (List.map_mergeSort (r := PySem.W.dataLe false fun b : V × ε => keyP (ka b.2) (xs b.2).length) (s := PySem.W.dataLe false fun e => keyP (ka e) (xs e).length) (f := Prod.snd) (fun _ _ _ _ => rfl)).trans (by rw [e2])
        have w := dxA_each (bs := (ws.zip es).mergeSort (PySem.W.dataLe false fun b => keyP (ka b.2) (xs b.2).length)) (f := f) (K := K) (as := as) (H := H2) fun b hb => Dx.way (Way.of_go g2) (e3 b (List.mem_mergeSort.mp hb))
        rw [es2] at w
        exact k (.ref p) _ (.d (.lst _)) os1 ((g1.trans g2).trans (Go.new hp)) (R2.new hp) (dx_newL R2 hp w) q
end
end Br

/-! BrSx: an item of a list of the store is set. -/
namespace Br
open PySem PySem.Spec PyProof.Rows L2
section
variable {K : PySem.W.Frag} {X : Xc} {S : Sa} {te to ti : TE}
theorem w_setIx {E : Ea} (h : EW K X te S fun d os => EW K X to ⟨S.s, os⟩ fun o os2 => EW K X ti ⟨S.s, os2⟩ fun i os3 => ∃ j k n z xs, d = .d z ∧ o = .o j ∧ i = .d (.int k) ∧ os3[j]? = some (.ml xs) ∧ L2.ixN xs.length k = some n ∧ E.nx ⟨S.s, os3.set j (.ml (xs.set n z))⟩) :
    W K X (tAsg te (gSub to ti rSetL)) E S := fun as H σ D R x n r b c =>
  h as H σ _ R (x.h R) fun v H1 d os1 g1 R1 r1 q1 => q1 as H1 σ _ (R.go g1 R1) ((x.h R).go g1 R1) fun o H2 eo os2 g2 R2 r2 q2 => q2 as H2 σ _ ((R.go g1 R1).go g2 R2) (((x.h R).go g1 R1).go g2 R2) fun i H3 ei os3 g3 R3 r3 ⟨j, k, m, z, xs, ed, eo', ei', ej, hx, q⟩ => by
    subst ed
    subst eo'
    subst ei'
    obtain ⟨a, ea, rfl⟩ := r2
    obtain ⟨vs, h1, h2⟩ := R3.own j a _ ea ej
    cases r3
    have hm : a ∈ as := List.mem_of_getElem? ea
    have rz : Dx K as H3 v z := (r1.go g2).go g3
    have g4 : Go as H3 (upd H3 a (.lst (vs.set m v))) := Go.at hm
    have R4 : Ro K as (upd H3 a (.lst (vs.set m v))) (os3.set j (.ml (xs.set m z))) := ro_set R3 ea ⟨_, upd_same, DxA.way (Way.of_go g4) (DxA.set rz m h2)⟩
    have g := ((g1.trans g2).trans g3).trans g4
    exact ⟨a, vs, k, m, rfl, rfl, h1, by rw [h2.length]; exact hx, n as _ _ _ (Stp.of_go g R4) (R.go g R4) q⟩
end
end Br

/-! BrTk: an exception of either of two classes, caught and kept. -/
namespace Br
open PySem PySem.Spec PyProof.Rows L2
theorem flying_kept {base h h' : Heap} {l : List Env} {e : Addr} {Z : Obj → Prop} (x : HandSPX.FlyingZ base l e Z h) (k : ∀ b o, h.get? b = some o → h'.get? b = some o) : HandSPX.FlyingZ base l e Z h' := by
  obtain ⟨x1, x2, x3, oe, vs, T, oT, ts, y1, y2, y3, y4, y5, y6, y7, y8, y9⟩ := x
  exact ⟨fun b o q => k b o (x1 b o q), x2, Heap.FunFrames.of_keeps (fun b o q _ => ⟨o, k b o q, rfl⟩) x3, oe, vs, T, oT, ts, k _ _ y1, y2, y3, y4, y5, y6, k _ _ y7, y8, y9⟩
/-- except (x, x2) as n: y = n -/
def wKeep2 (K : PySem.W.Frag) (c c2 : Value) (i j : Nat) (D : Ends) : WX := fun cls d σ H =>
  PySem.W.exmAny K cls [c, c2] = some true ∧ ∃ C dd, cls = .ref C ∧ d = some dd ∧ i < σ.length ∧ ∀ a, H a = none → D.nx (((σ.set i (some (.ref a))).set j (some (.ref a))).set i none) (upd H a (Exk C dd a))
section
variable {X : Cx} {x x2 n y : Str} {c c2 : Value} {i j kk : Nat} {body : List Stmt} {np np2 tpos p1 p2 p3 pos pos' : Pos} {tb : WX → TS}
theorem ps_try_keep2 (hs : X.stack = X.env :: X.outer) (hf : X.env.frame = some X.env.locals) (hN : X.N.Nodup) (hi : X.N[i]? = some n) (hln : X.env.kindOf n = some .local) (hlv : X.env.scope.names.lookup n = some .local) (hj : X.N[j]? = some y) (hjl : X.env.scope.names.lookup y = some .local) (hc : Names X x c) (hc2 : Names X x2 c2) (hex : X.ex = [])
    (hb : ∀ (W : WX) (pn : List (Addr × Obj)) (xe : Value → Shared → Prop), Takes (X.tr pn xe) W → PassesOwn (model X.prog X.w) X.A X.env xe → PSs (X.tr pn xe) body (tb W))
    (hsw : swapsWith (.Name n p1) (some (.Name y p2)) p3.line X.env = pure false := by rfl) (hd1 : (n == ("__debug__" : Str)) = false := by decide) (hd2 : (n == ("__classdict__" : Str)) = false := by decide) :
    PS X (.Try body [.ExceptHandler (some (.Tuple [.Name x np, .Name x2 np2] kk tpos)) (some n) [.Assign [.Name y p2] (.Name n p1) p3] pos'] [] [] pos) (fun D σ H => tb (wKeep2 X.K c c2 i j D) D σ H) := by
  refine ⟨fun pins s σ H D I h => ?_⟩
  have ok := I.ok
  have hfr : X.A.frames = some (X.env :: X.outer) := by rw [ok.frames, hs]
  have hloc : Loc X.env.scope n := .inl hln
  refine wpAny_Try_except ?_
  refine wpAny_mono ((hb (wKeep2 X.K c c2 i j D) (X.pn ++ pins) (fun e s₁ => wpAny (model X.prog X.w) X.A (noteFrame e X.env) (fun _ s₂ => wpAny (model X.prog X.w) X.A (setFlight e none) (fun _ s₃ =>
    wpAny (model X.prog X.w) X.A (handleBy e X.env [.ExceptHandler (some (.Tuple [.Name x np, .Name x2 np2] kk tpos)) (some n) [.Assign [.Name y p2] (.Name n p1) p3] pos']) (SP X pins D) X.xe s₃) X.xe s₂) X.xe s₁) (fun u s' xx => ?_) PassesOwn.looking).run [] s σ H D (I.toTry _) h) (fun f s1 hsp => ?_) (fun e s1 he => he)
  · obtain ⟨a, B, sI, pins', σ', H', cls, d, rfl, J', nb, up, sky, na, os, ag, hb1, C, dd, rfl, rfl, hil, hyes⟩ := xx
    have J : Inv X pins σ' H' sI := J'.ofTry ok
    have sky' : Sky B (X.env :: X.outer) a (Zc (.ref C) (some dd)) X.env.locals s'.heap := by rw [← hs]; exact sky
    show wpAny (model X.prog X.w) X.A (noteFrame (.ref a) X.env) _ _ _
    refine Sky.land Zc.steady hfr hf sky' fun h3 fl3 up3 => ?_
    have J3 : Inv X pins σ' H' { s' with heap := h3 } := J.landed nb fl3.1 (up.trans up3) os ag
    obtain ⟨oe3, vs3, he3, hz3, hd3⟩ := fl3.there
    have notFr : ∀ {h : Heap} {o : Obj} {vs : Array Value}, h.FunFrames B (X.env :: X.outer) → h.get? a = some o → o.data = .fields vs → a ∉ frs (X.env :: X.outer) := fun {h o vs} ff e dd hm => by
      obtain ⟨_, o', e', hnf⟩ := ff.mem hm
      rw [e] at e'; cases e'
      exact hnf _ dd
    have nfr := notFr fl3.2.2.1 he3 hd3
    have nL : a ≠ X.env.locals := fun z => nfr (List.mem_filterMap.mpr ⟨X.env, List.mem_cons_self, by rw [hf, z]⟩)
    have nF : a ∉ X.fs := fun hm => by
      obtain ⟨e, he, q⟩ := List.mem_filterMap.mp hm
      exact nfr (List.mem_filterMap.mpr ⟨e, List.mem_cons_of_mem _ he, q⟩)
    have nI : sI.heap.get? a = none := by
      cases e : sI.heap.get? a with
      | none => rfl
      | some o =>
        have z := nb a o e (by rw [hs]; exact nfr)
        rw [fl3.2.1] at z
        cases z
    have n0 : X.s_0.heap.get? a = none := by
      cases e : X.s_0.heap.get? a with
      | none => rfl
      | some o =>
        obtain ⟨o', z⟩ := J.base.there a o e (by rw [hex]; exact fun z => nomatch z)
        rw [nI] at z
        cases z
    have np' : ∀ p ∈ X.pn ++ pins, p.1 ≠ a := fun p hp z => by
      have e := (J.pin p hp).1
      rw [z, nI] at e
      cases e
    have S3 := J3.suite he3 hd3 na nL nF
    refine wpAny_handleBy_cons (codeAny_handlers_test ?_) (by intro q; cases q)
    have LT : PySem.W.Looks (model X.prog X.w) h3 (typeOf (.ref a)) (.ref C) := fun A Q E s k q => wpAny_typeOf_ref (k _ _ he3) (by rw [hz3.1]; exact q)
    have test : ∀ {y : Str} {cv : Value} {yp : Pos} {Q : Value → Shared → Prop} {E : Value → Shared → Prop}, Names X y cv → Q cv { s' with heap := h3 } → wpAny (model X.prog X.w) (X.A.mark (some (.ref a))) (eval (.Name y yp) X.env) Q E { s' with heap := h3 } := fun {y cv yp Q E} hc q => by
      obtain ⟨hg, hdbg, hm | ⟨hm, hv, hnn⟩⟩ := hc
      · exact ld_glob (X := X.suite a ((a, oe3) :: (X.pn ++ pins))) S3 hg hm q hdbg
      · exact ld_blt (X := X.suite a ((a, oe3) :: (X.pn ++ pins))) S3 hg hm hv q hnn hdbg
    refine wpAny_Tuple (wpAny_items_cons (test hc (wpAny_items_cons (test hc2 (wpAny_items_nil ⟨Nat.le_of_ble_eq_true rfl, ?_⟩)))))
    have kp : ∀ b o, h3.get? b = some o → (h3.push { cls := .type "tuple", data := .seq [c, c2].toArray }).get? b = some o := fun _ _ z => Heap.get?_push_of_some _ z
    have LM := PySem.W.exm_tup2 (M := model X.prog X.w) (J3.kIn.keeps kp) (LT.keeps kp) (Heap.get?_push_size h3 rfl) hb1
    refine LM.here ?_
    have fl5 := flying_kept fl3 kp
    have up35 : h3.UpToSlots (h3.push { cls := .type "tuple", data := .seq [c, c2].toArray }) := fun b o e _ => ⟨o.slots, kp b o e⟩
    refine codeAny_handlers_suite_as ?_
    refine HandSPX.lands_againZ fl5 fun h4 fl4 up4 => ?_
    have J4 : Inv X pins σ' H' { s' with heap := h4 } := J.landed nb fl4.1 (((up.trans up3).trans up35).trans up4) os ag
    obtain ⟨oe4, vs4, he4, hz4, hd4⟩ := fl4.there
    have S4 := J4.suite he4 hd4 na nL nF
    refine store_ok (X := X.suite a ((a, oe4) :: (X.pn ++ pins))) (v := .ref a) S4 hN hi hloc rfl (fun s5 S5 => ?_) (.inr hln)
    have suite : PSs (X.suite a ((a, oe4) :: (X.pn ++ pins))) [.Assign [.Name y p2] (.Name n p1) p3] (tAsg (tVar i) (gName j)) :=
      pss_one (ps_set (X := X.suite a ((a, oe4) :: (X.pn ++ pins))) hN hj (.inl hjl) (pe_var (X := X.suite a ((a, oe4) :: (X.pn ++ pins))) hi (.inl hlv) hd1 hd2) hsw (.inr hjl))
    refine wpAny_mono (suite.run [] s5 _ H' { nx := fun σ6 H6 => H6 = H' ∧ σ6 = (σ'.set i (some (.ref a))).set j (some (.ref a)), rt := fun _ _ => False, bk := fun _ _ => False, ct := fun _ _ => False } S5 ⟨.ref a, by rw [List.getElem?_set_self hil], rfl, rfl⟩) (fun f s6 hsp => ?_) (fun _ _ z => False.elim z)
    cases f with
    | next =>
      obtain ⟨σ6, H6, S6, q6, q7⟩ := hsp
      subst q6
      have pinA := S6.pin (a, oe4) (List.mem_append_left _ List.mem_cons_self)
      have S7 : Inv X ((a, oe4) :: pins) σ6 H6 s6 := (Inv.unsuite S6 ok).pins_of fun p hp => by
        rcases List.mem_cons.mp hp with e | z
        · rw [e]
          exact pinA
        · exact S6.pin p (List.mem_append_left _ (List.mem_cons_of_mem _ (List.mem_append_right _ z)))
      refine gone_ok S7 hN hi hln fun s7 J7 => ?_
      have e7 := (J7.pin (a, oe4) (List.mem_append_right _ List.mem_cons_self)).1
      refine ⟨_, _, inv_keep J7 n0 np' (exk_ok e7 hz4 hd4), ?_⟩
      rw [q7]
      exact hyes a na
    | brk =>
      obtain ⟨σ6, H6, S6, q6⟩ := hsp
      exact q6.elim
    | cont =>
      obtain ⟨σ6, H6, S6, q6⟩ := hsp
      exact q6.elim
    | ret u =>
      obtain ⟨v6, σ6, H6, S6, r6, q6⟩ := hsp
      exact q6.elim
  · cases f with
    | next =>
      obtain ⟨σ', H', J', q⟩ := hsp
      exact wpAny_execs_nil ⟨σ', H', J'.ofTry ok, q⟩
    | brk =>
      obtain ⟨σ', H', J', q⟩ := hsp
      exact ⟨σ', H', J'.ofTry ok, q⟩
    | cont =>
      obtain ⟨σ', H', J', q⟩ := hsp
      exact ⟨σ', H', J'.ofTry ok, q⟩
    | ret u =>
      obtain ⟨v, σ', H', J', r, q⟩ := hsp
      exact ⟨v, σ', H', J'.ofTry ok, r, q⟩
end
section
variable {K : PySem.W.Frag} {X : Xc} {S : Sa} {Q : Sv → Os → Prop} {te : TE} {E : Ea}
/-- try: .. except c as n: y = n -/
theorem w_try_keep2 {c c2 : Value} {i j : Nat} {tb : WX → TS} {xe : Addr → List (Str × D) → Sa → Prop} (hi : i < S.s.length) (h : ∀ wx, W K ⟨wx, xe⟩ (tb wx) { nx := E.nx, rt := E.rt, bk := E.bk, ct := E.ct } S)
    (hx : ∀ C fds S', xe C fds S' → PySem.W.exmAny K (.ref C) [c, c2] = some true ∧ i < S'.s.length ∧ E.nx ⟨((S'.s.set i (some (.d (.xo C fds)))).set j (some (.d (.xo C fds)))).set i none, S'.os⟩) :
    W K X (fun D σ H => tb (wKeep2 K c c2 i j D) D σ H) E S := fun as H σ D R x n r b ct => by
  refine h (wKeep2 K c c2 i j D) as H σ D R ?_ n r b ct
  intro bs H' σ' S' C dd fs fds s R' hdd e rf z
  obtain ⟨h1, h2, h3⟩ := hx C fds S' z
  refine ⟨h1, C, dd, rfl, rfl, by rw [R'.slen]; exact h2, fun a ha => ?_⟩
  have g : Go bs H' (upd H' a (Exk C dd a)) := Go.new ha
  have R2 : Re K bs (upd H' a (Exk C dd a)) σ' S' := R'.go g (R'.o.new ha)
  have hdn : dd ∉ bs := fun hm => by
    obtain ⟨k, hk, ek⟩ := List.mem_iff_getElem.mp hm
    have h1 : bs[k]? = some dd := by rw [List.getElem?_eq_getElem hk, ek]
    have h2 : k < S'.os.length := R'.o.len ▸ hk
    have z := R'.o.own k dd S'.os[k] h1 (List.getElem?_eq_getElem h2)
    cases eo : S'.os[k] with
    | ml xs =>
      rw [eo] at z
      obtain ⟨vs, q, _⟩ := z
      rw [e] at q
      cases q
    | md xs =>
      rw [eo] at z
      obtain ⟨vs, q, _⟩ := z
      rw [e] at q
      cases q
    | mi C fs =>
      rw [eo] at z
      obtain ⟨dx, vs, q, _⟩ := z
      rw [e] at q
      cases q
    | tb P q =>
      rw [eo] at z
      obtain ⟨ps, q, _⟩ := z
      rw [e] at q
      cases q
    | mp p xs =>
      rw [eo] at z
      obtain ⟨vs, q, _⟩ := z
      rw [e] at q
      cases q
    | lp p od vs xs =>
      rw [eo] at z
      obtain ⟨q, _⟩ := z
      rw [e] at q
      cases q
    | mr C fs =>
      rw [eo] at z
      obtain ⟨dx, q, _⟩ := z
      rw [e] at q
      cases q
  have had : dd ≠ a := ne_of_none e ha
  have rx : Dx K bs (upd H' a (Exk C dd a)) (.ref a) (.xo C fds) := .xo (R'.o.notin ha) hdn upd_same (by rw [upd_ne had]; exact e) (DxF.way (Way.of_go g) rf)
  have R3 := (R2.set i (v := .ref a) (d := .d (.xo C fds)) rx).set j (v := .ref a) (d := .d (.xo C fds)) rx
  have R4 : Re K bs (upd H' a (Exk C dd a)) (((σ'.set i (some (.ref a))).set j (some (.ref a))).set i none) ⟨((S'.s.set i (some (.d (.xo C fds)))).set j (some (.d (.xo C fds)))).set i none, S'.os⟩ := by
    refine ⟨R3.o, by simpa using R3.slen, fun k d hd => ?_⟩
    have hd' : ((((S'.s.set i (some (Sv.d (.xo C fds)))).set j (some (Sv.d (.xo C fds)))).set i none)[k]? = some (some d)) := hd
    by_cases hk : i = k
    · subst hk
      rw [List.getElem?_set] at hd'
      split at hd'
      · split at hd' <;> cases hd'
      · exact absurd rfl ‹_›
    · rw [List.getElem?_set_ne hk] at hd'
      obtain ⟨u, e1, e2⟩ := R3.slot k d hd'
      exact ⟨u, by rw [List.getElem?_set_ne hk]; exact e1, e2⟩
  exact n bs _ _ _ (s.trans (Stp.of_go g R2.o)) R4 h3
end
end Br

/-! BrFl: {(b, b, b): s, (b, b, b): s}.get(x, s), the keys tuples of three truths. -/
namespace Br
open PySem PySem.Spec PyProof.Rows L2
/-- the key that three truths make -/
def key3 (a b c : Bool) : NestedKey := .tup [.num (if a = true then 1 else 0), .num (if b = true then 1 else 0), .num (if c = true then 1 else 0)]
theorem bit_inj (a b : Bool) : ((if a = true then (1 : Int) else 0) = if b = true then 1 else 0) ↔ a = b := by cases a <;> cases b <;> simp
theorem key3_iff (a b c a' b' c' : Bool) : key3 a b c = key3 a' b' c' ↔ (a, b, c) = (a', b', c') := by
  unfold key3
  constructor
  · intro h
    injection h with h
    injection h with h1 h
    injection h with h2 h
    injection h with h3 h
    injection h1 with h1
    injection h2 with h2
    injection h3 with h3
    rw [(bit_inj _ _).mp h1, (bit_inj _ _).mp h2, (bit_inj _ _).mp h3]
  · intro h
    injection h with h1 h
    injection h with h2 h3
    rw [h1, h2, h3]
theorem key3_depth (a b c : Bool) : (key3 a b c).depth ≤ 8 := by simp [key3, NestedKey.depth, NestedKey.depthAll]
theorem key3_is {h : Heap} {t : Addr} {o : Obj} {n : Nat} {a b c : Bool} (ho : h.get? t = some o) (hc : o.cls = .type "tuple") (hd : o.data = .seq (List.toArray [.bool a, .bool b, .bool c]) n) : NestedIs h (key3 a b c) (.ref t) :=
  .tup ho hc hd (.cons (.bool rfl) (.cons (.bool rfl) (.cons (.bool rfl) .nil)))
theorem look3 {a b c a1 b1 c1 a2 b2 c2 : Bool} {x y : Addr} (hne : (a1, b1, c1) ≠ (a2, b2, c2)) (w1 w2 w3 : Value) : (valueAt (merged [] (pairsH [(key3 a1 b1 c1, x, w1), (key3 a2 b2 c2, y, w2)])) (key3 a b c)).getD w3 = if (a, b, c) = (a1, b1, c1) then w1 else if (a, b, c) = (a2, b2, c2) then w2 else w3 := by
  have n12 : ¬ key3 a1 b1 c1 = key3 a2 b2 c2 := fun z => hne ((key3_iff _ _ _ _ _ _).mp z)
  have e1 : merged [] (pairsH [(key3 a1 b1 c1, x, w1), (key3 a2 b2 c2, y, w2)]) = [(key3 a1 b1 c1, w1), (key3 a2 b2 c2, w2)] := by
    simp [merged, pairsH, stored, n12]
  rw [e1]
  unfold valueAt
  by_cases h1 : (a, b, c) = (a1, b1, c1)
  · have k1 : key3 a1 b1 c1 = key3 a b c := (key3_iff _ _ _ _ _ _).mpr h1.symm
    rw [if_pos h1, List.find?_cons_of_pos (by simpa using k1)]
    rfl
  · have k1 : ¬ key3 a1 b1 c1 = key3 a b c := fun z => h1 ((key3_iff _ _ _ _ _ _).mp z).symm
    rw [if_neg h1, List.find?_cons_of_neg (by simpa using k1)]
    by_cases h2 : (a, b, c) = (a2, b2, c2)
    · have k2 : key3 a2 b2 c2 = key3 a b c := (key3_iff _ _ _ _ _ _).mpr h2.symm
      rw [if_pos h2, List.find?_cons_of_pos (by simpa using k2)]
      rfl
    · have k2 : ¬ key3 a2 b2 c2 = key3 a b c := fun z => h2 ((key3_iff _ _ _ _ _ _).mp z).symm
      rw [if_neg h2, List.find?_cons_of_neg (by simpa using k2)]
      rfl
/-- what is found -/
def pick3 (k1 k2 k : Bool × Bool × Bool) (v1 v2 v3 : Str) : Str := if k = k1 then v1 else if k = k2 then v2 else v3
def tFlags (K : PySem.W.Frag) (i : Nat) (k1 k2 : Bool × Bool × Bool) (v1 v2 v3 : Str) : TE := fun σ H Q => ∃ t a b c, σ[i]? = some (some (.ref t)) ∧ SqT K H t [.bl a, .bl b, .bl c] ∧ Q (.str (pick3 k1 k2 (a, b, c) v1 v2 v3)) H
section
variable {X : Cx}
theorem pe_flags {i : Nat} {x : Str} {a1 b1 c1 a2 b2 c2 : Bool} {v1 v2 v3 : Str} {p1 p2 p3 p4 p5 p6 p7 p8 p9 p10 p11 ap xp p12 cp : Pos} {n1 n2 n3 n4 n5 n6 n7 n8 n9 n10 n11 : Nat} (hN : X.N[i]? = some x) (hk : X.env.kindOf x = some .local) (hu : X.A.units + 64 < cLine) (hne : (a1, b1, c1) ≠ (a2, b2, c2)) (hd : (x == ("__debug__" : Str)) = false := by decide)
    (hline : (ap.endLine == cp.line) = true := by rfl)
    (hbase : attributeBase (.Dict [some (.Tuple [.Constant (.bool a1) n1 p1, .Constant (.bool b1) n2 p2, .Constant (.bool c1) n3 p3] n4 p4), some (.Tuple [.Constant (.bool a2) n5 p5, .Constant (.bool b2) n6 p6, .Constant (.bool c2) n7 p7] n8 p8)] [.Constant (.str v1) n9 p9, .Constant (.str v2) n10 p10] p11) "get" X.env (eval (.Dict [some (.Tuple [.Constant (.bool a1) n1 p1, .Constant (.bool b1) n2 p2, .Constant (.bool c1) n3 p3] n4 p4), some (.Tuple [.Constant (.bool a2) n5 p5, .Constant (.bool b2) n6 p6, .Constant (.bool c2) n7 p7] n8 p8)] [.Constant (.str v1) n9 p9, .Constant (.str v2) n10 p10] p11) X.env) = eval (.Dict [some (.Tuple [.Constant (.bool a1) n1 p1, .Constant (.bool b1) n2 p2, .Constant (.bool c1) n3 p3] n4 p4), some (.Tuple [.Constant (.bool a2) n5 p5, .Constant (.bool b2) n6 p6, .Constant (.bool c2) n7 p7] n8 p8)] [.Constant (.str v1) n9 p9, .Constant (.str v2) n10 p10] p11) X.env := by rfl) :
    PE X (.Call (.Attribute (.Dict [some (.Tuple [.Constant (.bool a1) n1 p1, .Constant (.bool b1) n2 p2, .Constant (.bool c1) n3 p3] n4 p4), some (.Tuple [.Constant (.bool a2) n5 p5, .Constant (.bool b2) n6 p6, .Constant (.bool c2) n7 p7] n8 p8)] [.Constant (.str v1) n9 p9, .Constant (.str v2) n10 p10] p11) "get" ap) [.Name x xp, .Constant (.str v3) n11 p12] [] cp)
      (tFlags X.K i (a1, b1, c1) (a2, b2, c2) v1 v2 v3) := by
  refine ⟨fun pins s σ H Q I h => ?_⟩
  obtain ⟨t, a, b, c, hs, ht, q⟩ := h
  obtain ⟨m, hn, hl⟩ := I.loc
  obtain ⟨u, ru, lk⟩ := hl i x _ hN hs (.inl hk)
  obtain rfl : u = Value.ref t := ru
  have hm : m x = some (.ref t) := by
    rcases lk with ⟨_, e⟩ | ⟨z, _⟩
    · exact e
    · rcases z with z | z <;> rw [hk] at z <;> cases z
  obtain ⟨its, ri, ⟨ot, et, ct, nt, dt⟩, _⟩ := I.tuple ht
  have eits : its = [.bool a, .bool b, .bool c] := by
    cases ri with
    | cons r1 ri => cases ri with
      | cons r2 ri => cases ri with
        | cons r3 ri =>
          cases ri
          cases r1
          cases r2
          cases r3
          rfl
  subst eits
  have big := I.big
  refine wpAny_Call_method_late hbase rfl hline rfl ?_
  let knd := nestedKind X.prog X.w
  refine wpAny_Dict_pairsH (knd := knd) (pairs := [(eval (.Tuple [.Constant (.bool a1) n1 p1, .Constant (.bool b1) n2 p2, .Constant (.bool c1) n3 p3] n4 p4) X.env, do let x ← eval (.Constant (.str v1) n9 p9) X.env; standAt p11; pure x),
    (eval (.Tuple [.Constant (.bool a2) n5 p5, .Constant (.bool b2) n6 p6, .Constant (.bool c2) n7 p7] n8 p8) X.env, do let x ← eval (.Constant (.str v2) n10 p10) X.env; standAt p11; pure x)]) (show X.A.units + 8 < cLine by omega) rfl (List.cons_ne_nil _ _) (Nat.le_of_ble_eq_true rfl) ?_
  show wpAny _ _ (evalPairs _) _ _ _
  unfold evalPairs
  have tup : ∀ {x y z : Bool} {i1 i2 i3 i4 : Nat} {q1 q2 q3 q4 : Pos} {s : Shared} {Q : Value → Shared → Prop}, Q (.ref s.heap.objs.size) { s with heap := s.heap.push { cls := .type "tuple", data := .seq (List.toArray [.bool x, .bool y, .bool z]) } } →
      wpAny (model X.prog X.w) X.A (eval (.Tuple [.Constant (.bool x) i1 q1, .Constant (.bool y) i2 q2, .Constant (.bool z) i3 q3] i4 q4) X.env) Q X.xe s := fun {x y z i1 i2 i3 i4 q1 q2 q3 q4 s Q} q =>
    wpAny_Tuple (wpAny_items_cons (Constant_bool (wpAny_items_cons (Constant_bool (wpAny_items_cons (Constant_bool (wpAny_items_nil ⟨Nat.le_of_ble_eq_true rfl, q⟩)))))))
  refine wpAny_bind (tup ?_)
  refine wpAny_bind (wpAny_holding (wpAny_bind (Calls.Constant_str (wpAny_bind (wpAny_standAt (wpAny_pure ?_))))))
  refine wpAny_bind (wpAny_holding ?_)
  unfold evalPairs
  refine wpAny_bind (tup ?_)
  refine wpAny_bind (wpAny_holding (wpAny_bind (Calls.Constant_str (wpAny_bind (wpAny_standAt (wpAny_pure ?_))))))
  refine wpAny_bind (wpAny_holding ?_)
  unfold evalPairs
  refine wpAny_pure (wpAny_pure (wpAny_pure ?_))
  refine ⟨[(key3 a1 b1 c1, _, _), (key3 a2 b2 c2, _, _)], ⟨rfl, rfl, ⟨key3_is (Heap.get?_push_of_some _ (Heap.get?_push_size _ rfl)) rfl rfl, key3_depth _ _ _⟩, rfl, rfl, ⟨key3_is (Heap.get?_push_size _ rfl) rfl rfl, key3_depth _ _ _⟩, trivial⟩, ?_, fun h' tk hk' sb => ?_⟩
  · obtain ⟨o, es, ep, e1, e2, e3, e4, _, e6⟩ := Heap.DictOfH.new (knd := knd) s.heap
    exact ⟨o, es, ep, Heap.get?_push_of_some _ (Heap.get?_push_of_some _ e1), e2, e3, e4, fun x hx => (nomatch hx), e6⟩
  · have kp : ∀ b o, s.heap.get? b = some o → h'.get? b = some o := fun b o e => (sb.2 b (Nat.ne_of_lt (Heap.lt_size e))).trans (Heap.get?_push_of_some _ (Heap.get?_push_of_some _ (Heap.get?_push_of_some _ e)))
    have I1 : Inv X pins σ H { s with heap := h', toks := tk } := I.kept kp
    refine ⟨"dict", "dict.get", PySem.F.plainAttrs_dict, PySem.F.slot_dict_get, PySem.F.type_dict_get, hk'.typeIs, fun a e => ?_, ?_⟩
    · obtain ⟨xs, ⟨o, es, ep, e1, e2, _⟩, _⟩ := hk'
      cases e
      exact ⟨o, e1, e2.2.1⟩
    · refine Calls.callWith_builtin rfl (Calls.evalArgs_plain ?_)
      refine Calls.spliced_cons (wpAny_Name (wpAny_loadName_local (s := { s with heap := h', toks := tk }) I.ok.kind hk (hn.keeps kp) hm ?_) hd)
      refine Calls.spliced_cons (Calls.Constant_str (k := n11) (pos := p12) (Calls.spliced_nil ?_))
      refine PySem.getOr_keyed (knd := knd) (k := key3 a b c) (show X.A.units + 1 + 8 < cLine by omega) ⟨key3_is (kp _ _ et) ct dt, key3_depth _ _ _⟩ ?_ hk' ?_
      · have : s.heap.objs.size ≠ sysModules := Nat.ne_of_gt big
        simpa using this
      · have ev : ∀ (w1 w2 w3 : Value), (valueAt (merged [] (pairsH [(key3 a1 b1 c1, (s.heap.push { cls := .type "dict", data := .dict #[] }).objs.size, w1), (key3 a2 b2 c2, ((s.heap.push { cls := .type "dict", data := .dict #[] }).push { cls := .type "tuple", data := .seq (List.toArray [.bool a1, .bool b1, .bool c1]) }).objs.size, w2)])) (key3 a b c)).getD w3 = if (a, b, c) = (a1, b1, c1) then w1 else if (a, b, c) = (a2, b2, c2) then w2 else w3 := fun w1 w2 w3 => look3 hne w1 w2 w3
        rw [ev]
        unfold pick3 at q
        by_cases h1 : (a, b, c) = (a1, b1, c1)
        · rw [if_pos h1] at q ⊢
          exact ⟨.str v1, H, I1.tok _, ⟨_, rfl⟩, q⟩
        · rw [if_neg h1] at q ⊢
          by_cases h2 : (a, b, c) = (a2, b2, c2)
          · rw [if_pos h2] at q ⊢
            exact ⟨.str v2, H, I1.tok _, ⟨_, rfl⟩, q⟩
          · rw [if_neg h2] at q ⊢
            exact ⟨.str v3, H, I1.tok _, ⟨_, rfl⟩, q⟩
end
end Br

/-! BrK2: what is asked of a kept exception of either of two classes. -/
namespace Br
open PySem PySem.Spec PyProof.Rows L2
def rIs2 (K : PySem.W.Frag) (C D : Addr) : List V → Hp → VK → Prop := fun xs H Q => rIsK K C xs H Q ∨ rIsK K D xs H Q
def tXk2 (C D : Addr) (f : Str) (te : TE) : TE := fun σ H Q => te σ H fun x H1 => ∃ (B a dd : Addr) (fs : List (Str × V)) (v : V), (B = C ∨ B = D) ∧ x = .ref a ∧ H1 a = some (Exk B dd a) ∧ H1 dd = some (.xd fs) ∧ fs.lookup f = some v ∧ Q v H1
section
variable {X : Cx}
theorem call_is2 {C D : Addr} (hC : ExcC X.K C) (cC : (PySem.W.clsIn X.K C).isSome = true) (hD : ExcC X.K D) (cD : (PySem.W.clsIn X.K D).isSome = true) : CallR X (.builtin "isinstance") (rIs2 X.K C D) := CallR.or (call_isK hC cC) (call_isK hD cD)
theorem pe_xk2 {C D : Addr} {e : Expr} {te : TE} {pos : Pos} {n : Str} (T : XfC X.K C) (hno : PySem.W.findIn X.K (.ref C) n = some none) (T' : XfC X.K D) (hno' : PySem.W.findIn X.K (.ref D) n = some none) (he : PE X e te) (hb : attributeBase e n X.env (eval e X.env) = eval e X.env := by rfl) :
    PE X (.Attribute e n pos) (tXk2 C D n te) := by
  refine ⟨fun pins s σ H Q I h => ?_⟩
  refine attr_of hb (thn (he.run pins s σ H _ I h) fun u s1 hh => ?_)
  obtain ⟨x, H1, I1, rx, B, a, dd, fs, v, hB, ex, ea, ed, l, q⟩ := hh
  subst ex
  obtain rfl : u = Value.ref a := rx
  have TB : XfC X.K B ∧ PySem.W.findIn X.K (.ref B) n = some none := by
    rcases hB with rfl | rfl
    · exact ⟨T, hno⟩
    · exact ⟨T', hno'⟩
  obtain ⟨oe, od, mA, J, hr, hl⟩ := inst_exk I1 ea ed
  obtain ⟨u, hu, ru⟩ := RelO.some_of (v := v) (o := mA n) (by rw [← l]; exact hr n)
  exact HandSPX.exc_get I1.kIn J TB.1.ga TB.1.gg TB.1.exC (PySem.W.findObj_own TB.1.hdC TB.2 rfl (by rw [hl, hu])) (handed_of ru) ⟨v, H1, I1.tok _, ru, q⟩
end
section
variable {K : PySem.W.Frag} {X : Xc} {S : Sa} {Q : Sv → Os → Prop} {te : TE}
theorem ew_xk2 {C D : Addr} {f : Str} (h : EW K X te S fun x os => ∃ B fds d, (B = C ∨ B = D) ∧ x = .d (.xo B fds) ∧ lookF fds f = some d ∧ Q (.d d) os) : EW K X (tXk2 C D f te) S Q := fun as H σ Q' R x k =>
  h as H σ _ R x fun v H1 d os1 g1 R1 r1 ⟨B, fds, z, hB, ed, el, q⟩ => by
    subst ed
    cases r1 with
    | xo n1 n2 h1 h2 hr =>
      obtain ⟨u, e1, e2⟩ := dxf_look hr el
      exact ⟨B, _, _, _, u, hB, rfl, h1, h2, e1, k u H1 (.d z) os1 g1 R1 e2 q⟩
theorem ew_is2 {C D : Addr} {n : String} (h : EW K X te S fun x os => ∃ B fds r, (B = C ∨ B = D) ∧ x = .d (.xo B fds) ∧ PySem.W.kitOne K (.ref B) (.type n) = some r ∧ Q (.d (.bl r)) os) : EW K X (tCB (rIs2 K C D) (tCons te (tCons (tC (.ty n)) tNil))) S Q := fun as H σ Q' R x k =>
  h as H σ _ R x fun v H1 d os1 g1 R1 r1 ⟨B, fds, r, hB, ed, er, q⟩ => by
    subst ed
    cases r1 with
    | xo n1 n2 h1 h2 hr =>
      rcases hB with rfl | rfl
      · exact .inl ⟨_, _, _, .ty n, .type n, r, rfl, h1, h2, .ty n, er, k (.bl r) H1 (.d (.bl r)) os1 g1 R1 (Dx.bl r) q⟩
      · exact .inr ⟨_, _, _, .ty n, .type n, r, rfl, h1, h2, .ty n, er, k (.bl r) H1 (.d (.bl r)) os1 g1 R1 (Dx.bl r) q⟩
theorem ew_is2R {C D C2 : Addr} (h : EW K X te S fun x os => ∃ B fds r, (B = C ∨ B = D) ∧ x = .d (.xo B fds) ∧ PySem.W.kitOne K (.ref B) (.ref C2) = some r ∧ Q (.d (.bl r)) os) : EW K X (tCB (rIs2 K C D) (tCons te (tCons (tC (.ref C2)) tNil))) S Q := fun as H σ Q' R x k =>
  h as H σ _ R x fun v H1 d os1 g1 R1 r1 ⟨B, fds, r, hB, ed, er, q⟩ => by
    subst ed
    cases r1 with
    | xo n1 n2 h1 h2 hr =>
      rcases hB with rfl | rfl
      · exact .inl ⟨_, _, _, .ref C2, .ref C2, r, rfl, h1, h2, .own C2, er, k (.bl r) H1 (.d (.bl r)) os1 g1 R1 (Dx.bl r) q⟩
      · exact .inr ⟨_, _, _, .ref C2, .ref C2, r, rfl, h1, h2, .own C2, er, k (.bl r) H1 (.d (.bl r)) os1 g1 R1 (Dx.bl r) q⟩
theorem ew_flags {i : Nat} {k1 k2 : Bool × Bool × Bool} {v1 v2 v3 : Str} {a b c : Bool} (hs : S.s[i]? = some (some (.d (.tup [.bl a, .bl b, .bl c])))) (q : Q (.d (.str (pick3 k1 k2 (a, b, c) v1 v2 v3))) S.os) : EW K X (tFlags K i k1 k2 v1 v2 v3) S Q := fun as H σ Q' R x k => by
  obtain ⟨v, e, r⟩ := R.slot i _ hs
  cases (show Dx K as H v (.tup [.bl a, .bl b, .bl c]) from r) with
  | @tup t ws _ hl hr =>
    have ew : ws = [.bl a, .bl b, .bl c] := by
      cases hr with
      | cons r1 hr => cases hr with
        | cons r2 hr => cases hr with
          | cons r3 hr =>
            cases hr
            cases r1
            cases r2
            cases r3
            rfl
    subst ew
    exact ⟨t, a, b, c, e, hl.sq, k _ H (.d (.str _)) S.os (Go.refl _ _) R.o (Dx.str _) q⟩
end
end Br

/-! Pm: spots between rows, over plain lists. -/
namespace Pm
abbrev Spot := Nat × List Int × List Int
/-- how many are alike from the first on -/
def lcp : List Int → List Int → Nat
  | x :: a, y :: b => if x = y then lcp a b + 1 else 0
  | _, _ => 0
theorem lcp_le : ∀ (a b : List Int), lcp a b ≤ a.length ∧ lcp a b ≤ b.length
  | [], b => by simp [lcp]
  | x :: a, [] => by simp [lcp]
  | x :: a, y :: b => by
    have ih := lcp_le a b
    unfold lcp
    split <;> simp only [List.length_cons] <;> omega
theorem lcp_take : ∀ (a b : List Int), a.take (lcp a b) = b.take (lcp a b)
  | [], b => by simp [lcp]
  | x :: a, [] => by simp [lcp]
  | x :: a, y :: b => by
    unfold lcp
    split
    · rename_i h
      rw [List.take_succ_cons, List.take_succ_cons, h, lcp_take a b]
    · simp
/-- a count that goes on as long as the two are alike -/
theorem lcp_of : ∀ {a b : List Int} {n : Nat}, n ≤ a.length → n ≤ b.length → (∀ j, j < n → a[j]? = b[j]?) → (n = a.length ∨ n = b.length ∨ a[n]? ≠ b[n]?) → lcp a b = n
  | [], b, n, h1, h2, _, _ => by simp at h1; subst h1; simp [lcp]
  | x :: a, [], n, h1, h2, _, _ => by simp at h2; subst h2; simp [lcp]
  | x :: a, y :: b, 0, _, _, _, h4 => by
    have hxy : x ≠ y := by
      rcases h4 with h | h | h
      · simp at h
      · simp at h
      · intro e
        apply h
        simp [e]
    simp [lcp, hxy]
  | x :: a, y :: b, n + 1, h1, h2, h3, h4 => by
    have e : x = y := by
      have := h3 0 (by omega)
      simpa using this
    have ih := lcp_of (a := a) (b := b) (n := n) (by simpa using h1) (by simpa using h2) (fun j hj => by have := h3 (j + 1) (by omega); simpa using this) (by simpa using h4)
    simp [lcp, e, ih]
/-- neighbours glued -/
def glue (s : Spot) : List Spot → List Spot
  | (a, o, n) :: g => if a = s.1 + s.2.1.length then (s.1, s.2.1 ++ o, s.2.2 ++ n) :: g else s :: (a, o, n) :: g
  | [] => [s]
/-- the stretches that are unlike, from k on -/
def grp (k : Nat) : List Int → List Int → List Spot
  | x :: l, y :: r => if x = y then grp (k + 1) l r else glue (k, [x], [y]) (grp (k + 1) l r)
  | _, _ => []
/-- the single ones -/
def uns (k : Nat) : List Int → List Int → List Spot
  | x :: l, y :: r => if x = y then uns (k + 1) l r else (k, [x], [y]) :: uns (k + 1) l r
  | _, _ => []
/-- one more is put to those that are put together -/
def stepT (w : List Spot) (s : Spot) : List Spot := match w.getLast? with
  | some (a, o, n) => if a + o.length = s.1 then w.dropLast ++ [(a, o ++ s.2.1, n ++ s.2.2)] else w ++ [s]
  | none => w ++ [s]
theorem grp_ge : ∀ {l r : List Int} {k : Nat}, ∀ s ∈ (grp k l r).head?, k ≤ s.1
  | [], r, k => by simp [grp]
  | x :: l, [], k => by simp [grp]
  | x :: l, y :: r, k => by
    have ih := grp_ge (l := l) (r := r) (k := k + 1)
    intro s hs
    unfold grp at hs
    split at hs
    · have := ih s hs
      omega
    · revert hs
      cases hg : grp (k + 1) l r with
      | nil =>
        simp only [glue, List.head?_cons, Option.mem_some_iff]
        rintro rfl
        exact Nat.le_refl _
      | cons t g =>
        obtain ⟨a, o, n⟩ := t
        simp only [glue]
        split
        · simp only [List.head?_cons, Option.mem_some_iff]
          rintro rfl
          exact Nat.le_refl _
        · simp only [List.head?_cons, Option.mem_some_iff]
          rintro rfl
          exact Nat.le_refl _
theorem glue_far {s : Spot} {g : List Spot} (h : ∀ t ∈ g.head?, s.1 + s.2.1.length < t.1) : glue s g = s :: g := by
  cases g with
  | nil => rfl
  | cons t g =>
    obtain ⟨a, o, n⟩ := t
    have := h (a, o, n) rfl
    simp only [glue]
    rw [if_neg (by simp only at this; omega)]
theorem glue_glue {k : Nat} {x y : Int} {a : Nat} {o n : List Int} {g : List Spot} (h : a + o.length = k) : glue (a, o, n) (glue (k, [x], [y]) g) = glue (a, o ++ [x], n ++ [y]) g := by
  cases g with
  | nil => simp [glue, h]
  | cons t g =>
    obtain ⟨a2, o2, n2⟩ := t
    by_cases e : a2 = k + 1
    · simp [glue, e, ← h, Nat.add_assoc]
    · simp [glue, e, ← h, Nat.add_assoc]
      rw [if_neg (by omega), if_neg (by omega)]
      simp [glue]
theorem fold_uns : ∀ {l r : List Int} {k : Nat} {w : List Spot} {a : Nat} {o n : List Int},
    (a + o.length = k → (uns k l r).foldl stepT (w ++ [(a, o, n)]) = w ++ glue (a, o, n) (grp k l r)) ∧ (a + o.length < k → (uns k l r).foldl stepT (w ++ [(a, o, n)]) = w ++ (a, o, n) :: grp k l r)
  | [], r, k, w, a, o, n => by simp [uns, grp, glue]
  | x :: l, [], k, w, a, o, n => by simp [uns, grp, glue]
  | x :: l, y :: r, k, w, a, o, n => by
    by_cases e : x = y
    · have ih := fold_uns (l := l) (r := r) (k := k + 1) (w := w) (a := a) (o := o) (n := n)
      have hu : uns k (x :: l) (y :: r) = uns (k + 1) l r := by simp [uns, e]
      have hg : grp k (x :: l) (y :: r) = grp (k + 1) l r := by simp [grp, e]
      rw [hu, hg]
      refine ⟨fun h => ?_, fun h => ih.2 (by omega)⟩
      rw [ih.2 (by omega), glue_far (s := (a, o, n))]
      intro t ht
      have := grp_ge t ht
      show a + o.length < t.1
      omega
    · have hu : uns k (x :: l) (y :: r) = (k, [x], [y]) :: uns (k + 1) l r := by simp [uns, e]
      have hg : grp k (x :: l) (y :: r) = glue (k, [x], [y]) (grp (k + 1) l r) := by simp [grp, e]
      rw [hu, hg, List.foldl_cons]
      refine ⟨fun h => ?_, fun h => ?_⟩
      · have hs : stepT (w ++ [(a, o, n)]) (k, [x], [y]) = w ++ [(a, o ++ [x], n ++ [y])] := by
          simp [stepT, h]
        have ih := fold_uns (l := l) (r := r) (k := k + 1) (w := w) (a := a) (o := o ++ [x]) (n := n ++ [y])
        rw [hs, ih.1 (by simp; omega), glue_glue h]
      · have hs : stepT (w ++ [(a, o, n)]) (k, [x], [y]) = (w ++ [(a, o, n)]) ++ [(k, [x], [y])] := by
          simp [stepT]
          omega
        have ih := fold_uns (l := l) (r := r) (k := k + 1) (w := w ++ [(a, o, n)]) (a := k) (o := [x]) (n := [y])
        rw [hs, ih.1 (by simp)]
        simp
/-- put together, one by one -/
theorem tog_uns : ∀ {l r : List Int} {k : Nat}, (uns k l r).foldl stepT [] = grp k l r
  | [], r, k => by simp [uns, grp]
  | x :: l, [], k => by simp [uns, grp]
  | x :: l, y :: r, k => by
    by_cases e : x = y
    · have hu : uns k (x :: l) (y :: r) = uns (k + 1) l r := by simp [uns, e]
      have hg : grp k (x :: l) (y :: r) = grp (k + 1) l r := by simp [grp, e]
      rw [hu, hg]
      exact tog_uns
    · have hu : uns k (x :: l) (y :: r) = (k, [x], [y]) :: uns (k + 1) l r := by simp [uns, e]
      have hg : grp k (x :: l) (y :: r) = glue (k, [x], [y]) (grp (k + 1) l r) := by simp [grp, e]
      rw [hu, hg, List.foldl_cons]
      have ih := (fold_uns (l := l) (r := r) (k := k + 1) (w := []) (a := k) (o := [x]) (n := [y])).1 (by simp)
      simpa [stepT] using ih
/-- a run of m that are unlike, then one that is alike or the end -/
theorem grp_run : ∀ {m : Nat} {l r : List Int} {k : Nat}, l.length = r.length → m ≤ l.length → (∀ j, j < m → l[j]? ≠ r[j]?) → (m = l.length ∨ l[m]? = r[m]?) →
    grp k l r = (if m = 0 then [] else [(k, l.take m, r.take m)]) ++ grp (k + m + 1) (l.drop (m + 1)) (r.drop (m + 1))
  | 0, [], r, k, h1, _, _, h4 => by
    have : r = [] := by simpa using h1.symm
    subst this
    simp [grp]
  | 0, x :: l, [], k, h1, _, _, _ => by simp at h1
  | 0, x :: l, y :: r, k, _, _, _, h4 => by
    have e : x = y := by
      rcases h4 with h | h
      · simp at h
      · simpa using h
    simp [grp, e]
  | m + 1, [], r, k, _, h2, _, _ => by simp at h2
  | m + 1, x :: l, [], k, h1, _, _, _ => by simp at h1
  | m + 1, x :: l, y :: r, k, h1, h2, h3, h4 => by
    have e : x ≠ y := by
      have := h3 0 (by omega)
      simpa using this
    have ih := grp_run (m := m) (l := l) (r := r) (k := k + 1) (by simpa using h1) (by simpa using h2) (fun j hj => by have := h3 (j + 1) (by omega); simpa using this) (by simpa using h4)
    have hg : grp k (x :: l) (y :: r) = glue (k, [x], [y]) (grp (k + 1) l r) := by simp [grp, e]
    have far : ∀ t ∈ (grp (k + 1 + m + 1) (l.drop (m + 1)) (r.drop (m + 1))).head?, k + 1 + m + 1 ≤ t.1 := fun t ht => grp_ge t ht
    have ek : k + 1 + m + 1 = k + (m + 1) + 1 := by omega
    rw [hg, ih, if_neg (show ¬ (m + 1 = 0) by omega), List.drop_succ_cons, List.drop_succ_cons, List.take_succ_cons, List.take_succ_cons, ← ek]
    by_cases hm : m = 0
    · subst hm
      rw [if_pos rfl, List.nil_append, glue_far]
      · simp
      · intro t ht
        have := far t ht
        show k + 1 < t.1
        omega
    · rw [if_neg hm]
      simp [glue]
/-- spots that are as they have to be within a row of so many -/
def okS (len : Nat) : Nat → List Spot → Prop
  | _, [] => True
  | least, (a, o, n) :: g => least ≤ a ∧ a + o.length ≤ len ∧ 0 < o.length + n.length ∧ (∀ b ∈ o, 0 ≤ b ∧ b < 256) ∧ (∀ b ∈ n, 0 ≤ b ∧ b < 256) ∧ okS len (a + o.length + 1) g
/-- a row fitted, from e on -/
def fitF (row : List Int) : Nat → List Spot → List Int
  | e, [] => row.drop e
  | e, (a, o, n) :: g => (row.drop e).take (a - e) ++ n ++ fitF row (a + o.length) g
/-- the row has what is taken out -/
def hasO (row : List Int) (s : Spot) : Prop := ∀ j, j < s.2.1.length → row[s.1 + j]? = s.2.1[j]?
theorem okS_grp : ∀ {l r : List Int} {k len least : Nat}, l.length = r.length → k + l.length ≤ len → (∀ b ∈ l, 0 ≤ b ∧ b < 256) → (∀ b ∈ r, 0 ≤ b ∧ b < 256) → least ≤ k → okS len least (grp k l r)
  | [], r, k, len, least, _, _, _, _, _ => by simp [grp, okS]
  | x :: l, [], k, len, least, h, _, _, _, _ => by simp at h
  | x :: l, y :: r, k, len, least, h1, h2, h3, h4, h5 => by
    rw [List.length_cons] at h2
    have ih := fun le hle => okS_grp (l := l) (r := r) (k := k + 1) (len := len) (least := le) (by simpa using h1) (by omega) (fun b hb => h3 b (List.mem_cons_of_mem _ hb)) (fun b hb => h4 b (List.mem_cons_of_mem _ hb)) hle
    by_cases e : x = y
    · simp only [grp, if_pos e]
      exact ih least (by omega)
    · have hg : grp k (x :: l) (y :: r) = glue (k, [x], [y]) (grp (k + 1) l r) := by simp [grp, e]
      have far := grp_ge (l := l) (r := r) (k := k + 1)
      have i1 := ih (k + 1) (Nat.le_refl _)
      rw [hg]
      have bx : ∀ b ∈ [x], 0 ≤ b ∧ b < 256 := fun b hb => by rw [List.mem_singleton.mp hb]; exact h3 x List.mem_cons_self
      have bY : ∀ b ∈ [y], 0 ≤ b ∧ b < 256 := fun b hb => by rw [List.mem_singleton.mp hb]; exact h4 y List.mem_cons_self
      cases hq : grp (k + 1) l r with
      | nil => exact ⟨h5, by simp; omega, by simp, bx, bY, True.intro⟩
      | cons t g =>
        obtain ⟨a, o, n⟩ := t
        rw [hq] at i1 far
        obtain ⟨j1, j2, j3, j4, j5, j6⟩ := i1
        have fa : k + 1 ≤ a := far (a, o, n) rfl
        simp only [glue]
        by_cases ha : a = k + 1
        · rw [if_pos (by simpa using ha)]
          refine ⟨h5, by simp; omega, by simp; omega, fun b hb => ?_, fun b hb => ?_, ?_⟩
          · rcases List.mem_append.mp hb with z | z
            · exact bx b z
            · exact j4 b z
          · rcases List.mem_append.mp hb with z | z
            · exact bY b z
            · exact j5 b z
          · have e2 : k + ([x] ++ o).length + 1 = a + o.length + 1 := by simp; omega
            show okS len (k + ([x] ++ o).length + 1) g
            rw [e2]
            exact j6
        · rw [if_neg (by simpa using ha)]
          exact ⟨h5, by simp; omega, by simp, bx, bY, by show k + [x].length + 1 ≤ a; simp; omega, j2, j3, j4, j5, j6⟩
theorem fit_grp : ∀ {l r : List Int} {P Z : List Int} {e : Nat}, l.length = r.length → e ≤ P.length → fitF (P ++ l ++ Z) e (grp P.length l r) = P.drop e ++ r ++ Z
  | [], r, P, Z, e, h, he => by
    have : r = [] := by simpa using h.symm
    subst this
    simp only [grp, fitF, List.append_nil]
    rw [List.drop_append_of_le_length he]
  | x :: l, [], P, Z, e, h, _ => by simp at h
  | x :: l, y :: r, P, Z, e, h, he => by
    have hrow : P ++ x :: l ++ Z = (P ++ [x]) ++ l ++ Z := by simp
    have hk : P.length + 1 = (P ++ [x]).length := by simp
    have ih := fun e' he' => fit_grp (l := l) (r := r) (P := P ++ [x]) (Z := Z) (e := e') (by simpa using h) he'
    have hcut : (P ++ x :: l ++ Z).drop e = P.drop e ++ (x :: l ++ Z) := by
      rw [List.append_assoc, List.drop_append_of_le_length he]
    have htk : ((P ++ x :: l ++ Z).drop e).take (P.length - e) = P.drop e := by
      rw [hcut, List.take_left' (by simp)]
    by_cases q : x = y
    · have hg : grp P.length (x :: l) (y :: r) = grp (P ++ [x]).length l r := by rw [← hk]; simp [grp, q]
      rw [hg, hrow, ih e (by simp; omega), List.drop_append_of_le_length he]
      simp [q]
    · have hg : grp P.length (x :: l) (y :: r) = glue (P.length, [x], [y]) (grp (P ++ [x]).length l r) := by rw [← hk]; simp [grp, q]
      rw [hg]
      have i1 := ih (P.length + 1) (by simp)
      rw [List.drop_of_length_le (by simp), List.nil_append, ← hrow] at i1
      cases hq : grp (P ++ [x]).length l r with
      | nil =>
        rw [hq] at i1
        simp only [glue, fitF] at i1 ⊢
        rw [htk]
        simp only [List.length_cons, List.length_nil, Nat.zero_add]
        rw [i1]
        simp
      | cons t g =>
        obtain ⟨a, o, n⟩ := t
        rw [hq] at i1
        have fa : (P ++ [x]).length ≤ a := grp_ge (l := l) (r := r) (k := (P ++ [x]).length) (a, o, n) (by rw [hq]; rfl)
        rw [← hk] at fa
        simp only [glue, List.length_cons, List.length_nil, Nat.zero_add]
        by_cases ha : a = P.length + 1
        · rw [if_pos ha]
          simp only [fitF] at i1 ⊢
          rw [htk]
          rw [ha, Nat.sub_self, List.take_zero, List.nil_append] at i1
          have e2 : P.length + ([x] ++ o).length = P.length + 1 + o.length := by simp; omega
          rw [e2, List.append_assoc, List.append_assoc, i1]
          simp
        · rw [if_neg ha]
          have e2 : fitF (P ++ x :: l ++ Z) e ((P.length, [x], [y]) :: (a, o, n) :: g) = P.drop e ++ [y] ++ fitF (P ++ x :: l ++ Z) (P.length + 1) ((a, o, n) :: g) := by
            rw [fitF, htk]
            rfl
          rw [e2, i1]
          simp
theorem has_grp : ∀ {l r : List Int} {P Z : List Int}, ∀ s ∈ grp P.length l r, hasO (P ++ l ++ Z) s
  | [], r, P, Z => by simp [grp]
  | x :: l, [], P, Z => by simp [grp]
  | x :: l, y :: r, P, Z => by
    have hrow : P ++ x :: l ++ Z = (P ++ [x]) ++ l ++ Z := by simp
    have hk : P.length + 1 = (P ++ [x]).length := by simp
    have ih := has_grp (l := l) (r := r) (P := P ++ [x]) (Z := Z)
    by_cases q : x = y
    · have hg : grp P.length (x :: l) (y :: r) = grp (P ++ [x]).length l r := by rw [← hk]; simp [grp, q]
      rw [hg, hrow]
      exact ih
    · have hg : grp P.length (x :: l) (y :: r) = glue (P.length, [x], [y]) (grp (P ++ [x]).length l r) := by rw [← hk]; simp [grp, q]
      have one : (P ++ x :: l ++ Z)[P.length]? = some x := by simp
      rw [hg]
      cases hq : grp (P ++ [x]).length l r with
      | nil =>
        intro s hs
        simp only [glue, List.mem_singleton] at hs
        subst hs
        intro j hj
        simp at hj
        subst hj
        simp
      | cons t g =>
        obtain ⟨a, o, n⟩ := t
        rw [hq] at ih
        rw [hrow]
        simp only [glue, List.length_cons, List.length_nil, Nat.zero_add]
        by_cases ha : a = P.length + 1
        · rw [if_pos ha]
          intro s hs
          rcases List.mem_cons.mp hs with z | z
          · subst z
            intro j hj
            have i1 := ih (a, o, n) List.mem_cons_self
            cases j with
            | zero => simp
            | succ j =>
              have hj2 : j < o.length := by simpa using hj
              have i2 := i1 j hj2
              simp only at i2
              rw [ha] at i2
              show (P ++ [x] ++ l ++ Z)[P.length + (j + 1)]? = ([x] ++ o)[j + 1]?
              rw [show P.length + (j + 1) = P.length + 1 + j by omega, i2]
              simp
          · exact ih s (List.mem_cons_of_mem _ z)
        · rw [if_neg ha]
          intro s hs
          rcases List.mem_cons.mp hs with z | z
          · subst z
            intro j hj
            simp at hj
            subst hj
            simp
          · exact ih s z
end Pm

/-! Pm2: the patch between two rows. -/
namespace Pm
def headN (a b : List Int) : Nat := lcp a b
def tailN (a b : List Int) : Nat := lcp (a.drop (lcp a b)).reverse (b.drop (lcp a b)).reverse
def midL (a b : List Int) : List Int := (a.drop (lcp a b)).take (a.length - tailN a b - lcp a b)
def midR (a b : List Int) : List Int := (b.drop (lcp a b)).take (b.length - tailN a b - lcp a b)
def dueS (a b : List Int) : List Spot := if (midL a b).length = (midR a b).length then grp (lcp a b) (midL a b) (midR a b) else [(lcp a b, midL a b, midR a b)]
theorem tail_le (a b : List Int) : tailN a b + lcp a b ≤ a.length ∧ tailN a b + lcp a b ≤ b.length := by
  have h := lcp_le (a.drop (lcp a b)).reverse (b.drop (lcp a b)).reverse
  have h2 := lcp_le a b
  simp only [List.length_reverse, List.length_drop] at h
  unfold tailN
  omega
theorem mid_len (a b : List Int) : (midL a b).length = a.length - tailN a b - lcp a b ∧ (midR a b).length = b.length - tailN a b - lcp a b := by
  unfold midL midR
  simp only [List.length_take, List.length_drop]
  omega
/-- the end that is alike -/
theorem tail_eq (a b : List Int) : a.drop (a.length - tailN a b) = b.drop (b.length - tailN a b) := by
  have h := lcp_take (a.drop (lcp a b)).reverse (b.drop (lcp a b)).reverse
  have hl := tail_le a b
  rw [show lcp (a.drop (lcp a b)).reverse (b.drop (lcp a b)).reverse = tailN a b from rfl, List.take_reverse, List.take_reverse] at h
  have h2 := congrArg List.reverse h
  rw [List.reverse_reverse, List.reverse_reverse, List.length_drop, List.length_drop, List.drop_drop, List.drop_drop] at h2
  have e1 : lcp a b + (a.length - lcp a b - tailN a b) = a.length - tailN a b := by omega
  have e2 : lcp a b + (b.length - lcp a b - tailN a b) = b.length - tailN a b := by omega
  rw [e1, e2] at h2
  exact h2
theorem split3 (a : List Int) (h t : Nat) (hl : t + h ≤ a.length) : a = a.take h ++ (a.drop h).take (a.length - t - h) ++ a.drop (a.length - t) := by
  have e : a.drop (a.length - t) = (a.drop h).drop (a.length - t - h) := by
    rw [List.drop_drop]
    congr 1
    omega
  rw [e, List.append_assoc, List.take_append_drop, List.take_append_drop]
theorem due_split (a b : List Int) : a = a.take (lcp a b) ++ midL a b ++ a.drop (a.length - tailN a b) ∧ b = a.take (lcp a b) ++ midR a b ++ a.drop (a.length - tailN a b) := by
  have hl := tail_le a b
  refine ⟨split3 a _ _ hl.1, ?_⟩
  rw [tail_eq a b, lcp_take a b]
  exact split3 b _ _ hl.2
def isR (row : List Int) : Prop := ∀ b ∈ row, 0 ≤ b ∧ b < 256
theorem mid_isR {a b : List Int} (ha : isR a) (hb : isR b) : isR (midL a b) ∧ isR (midR a b) :=
  ⟨fun x hx => ha x (List.mem_of_mem_drop (List.mem_of_mem_take hx)), fun x hx => hb x (List.mem_of_mem_drop (List.mem_of_mem_take hx))⟩
/-- how much is told -/
def wt (ss : List Spot) : Nat := (ss.map fun s => 1 + s.2.1.length + s.2.2.length).sum
theorem wt_cons (s : Spot) (g : List Spot) : wt (s :: g) = 1 + s.2.1.length + s.2.2.length + wt g := by simp [wt]
theorem wt_glue (s : Spot) (g : List Spot) : wt (glue s g) ≤ 1 + s.2.1.length + s.2.2.length + wt g := by
  cases g with
  | nil => simp [glue, wt]
  | cons t g =>
    obtain ⟨a, o, n⟩ := t
    simp only [glue]
    split
    · simp only [wt_cons, List.length_append]
      omega
    · simp only [wt_cons]
      omega
theorem wt_grp : ∀ (l r : List Int) (k : Nat), wt (grp k l r) ≤ 3 * l.length
  | [], r, k => by simp [grp, wt]
  | x :: l, [], k => by simp [grp, wt]
  | x :: l, y :: r, k => by
    have ih := wt_grp l r (k + 1)
    rw [List.length_cons]
    unfold grp
    split
    · omega
    · have h := wt_glue (k, [x], [y]) (grp (k + 1) l r)
      simp only [List.length_cons, List.length_nil] at h
      omega
theorem due_ok {a b : List Int} (ha : isR a) (hb : isR b) : okS a.length 0 (dueS a b) ∧ fitF a 0 (dueS a b) = b ∧ (∀ s ∈ dueS a b, hasO a s) ∧ wt (dueS a b) ≤ 3 * (a.length + b.length) + 1 := by
  have hl := tail_le a b
  have hm := mid_len a b
  obtain ⟨s1, s2⟩ := due_split a b
  obtain ⟨r1, r2⟩ := mid_isR ha hb
  have hP : (a.take (lcp a b)).length = lcp a b := by rw [List.length_take]; omega
  unfold dueS
  by_cases he : (midL a b).length = (midR a b).length
  · rw [if_pos he]
    refine ⟨okS_grp he (by omega) r1 r2 (Nat.zero_le _), ?_, ?_, ?_⟩
    · have h := fit_grp (l := midL a b) (r := midR a b) (P := a.take (lcp a b)) (Z := a.drop (a.length - tailN a b)) (e := 0) he (Nat.zero_le _)
      rw [hP, ← s1, List.drop_zero, ← s2] at h
      exact h
    · have h := has_grp (l := midL a b) (r := midR a b) (P := a.take (lcp a b)) (Z := a.drop (a.length - tailN a b))
      rw [hP, ← s1] at h
      exact h
    · have h := wt_grp (midL a b) (midR a b) (lcp a b)
      omega
  · rw [if_neg he]
    refine ⟨⟨Nat.zero_le _, by omega, by omega, r1, r2, True.intro⟩, ?_, ?_, ?_⟩
    · show (a.drop 0).take (lcp a b - 0) ++ midR a b ++ a.drop (lcp a b + (midL a b).length) = b
      rw [hm.1, show lcp a b + (a.length - tailN a b - lcp a b) = a.length - tailN a b by omega, List.drop_zero, Nat.sub_zero]
      exact s2.symm
    · intro s hs
      rw [List.mem_singleton.mp hs]
      intro j hj
      show a[lcp a b + j]? = (midL a b)[j]?
      have hj2 : j < (midL a b).length := hj
      unfold midL
      rw [List.getElem?_take_of_lt (by omega), List.getElem?_drop]
    · simp only [wt, List.map_cons, List.map_nil, List.sum_cons, List.sum_nil]
      omega
theorem uns_snoc : ∀ {l r : List Int} {k : Nat} {x y : Int}, l.length = r.length → uns k (l ++ [x]) (r ++ [y]) = uns k l r ++ (if x = y then [] else [(k + l.length, [x], [y])])
  | [], [], k, x, y, _ => by
    show uns k [x] [y] = _
    by_cases e : x = y <;> simp [uns, e]
  | [], _ :: _, k, x, y, h => by simp at h
  | _ :: _, [], k, x, y, h => by simp at h
  | a :: l, b :: r, k, x, y, h => by
    have ih := uns_snoc (l := l) (r := r) (k := k + 1) (x := x) (y := y) (by simpa using h)
    have e2 : k + 1 + l.length = k + (a :: l).length := by rw [List.length_cons]; omega
    rw [e2] at ih
    show uns k (a :: (l ++ [x])) (b :: (r ++ [y])) = _
    by_cases e : a = b
    · simp only [uns, if_pos e, ih]
    · simp only [uns, if_neg e, ih, List.cons_append]
theorem uns_one : ∀ {l r : List Int} {k : Nat}, ∀ s ∈ uns k l r, s.2.1.length = 1 ∧ s.2.2.length = 1
  | [], r, k => by simp [uns]
  | x :: l, [], k => by simp [uns]
  | x :: l, y :: r, k => by
    intro s hs
    unfold uns at hs
    split at hs
    · exact uns_one s hs
    · rcases List.mem_cons.mp hs with z | z
      · subst z
        exact ⟨rfl, rfl⟩
      · exact uns_one s z
theorem uns_len : ∀ (l r : List Int) (k : Nat), (uns k l r).length ≤ l.length
  | [], r, k => by simp [uns]
  | x :: l, [], k => by simp [uns]
  | x :: l, y :: r, k => by
    have ih := uns_len l r (k + 1)
    unfold uns
    split
    · rw [List.length_cons]; omega
    · rw [List.length_cons, List.length_cons]; omega
end Pm

/-! Pm3: which spots clash, spots of two patches in one, spots put behind others. -/
namespace Pm
def en (s : Spot) : Nat := s.1 + s.2.1.length
/-- two spots clash -/
def clP (s t : Spot) : Prop := s ≠ t ∧ (max s.1 t.1 < min (en s) (en t) ∨ (s.2.1.length = 0 ∧ t.1 < s.1 ∧ s.1 < en t) ∨ (t.2.1.length = 0 ∧ s.1 < t.1 ∧ t.1 < en s) ∨ (s.2.1.length = 0 ∧ t.2.1.length = 0 ∧ s.1 = t.1))
instance (s t : Spot) : Decidable (clP s t) := inferInstanceAs (Decidable (_ ∧ _))
def clB (s t : Spot) : Bool := decide (clP s t)
/-- what no clash says, and what one says -/
theorem cl_no {s t : Spot} (h : clB s t = false) : s = t ∨ (min (en s) (en t) ≤ max s.1 t.1 ∧ ¬(s.2.1.length = 0 ∧ t.1 < s.1 ∧ s.1 < en t) ∧ ¬(t.2.1.length = 0 ∧ s.1 < t.1 ∧ t.1 < en s) ∧ ¬(s.2.1.length = 0 ∧ t.2.1.length = 0 ∧ s.1 = t.1)) := by
  have h := of_decide_eq_false h
  by_cases e : s = t
  · exact .inl e
  · right
    have h1 : ¬(max s.1 t.1 < min (en s) (en t)) := fun z => h ⟨e, .inl z⟩
    exact ⟨by omega, fun z => h ⟨e, .inr (.inl z)⟩, fun z => h ⟨e, .inr (.inr (.inl z))⟩, fun z => h ⟨e, .inr (.inr (.inr z))⟩⟩
theorem cl_yes {s t : Spot} (h : clB s t = true) : s ≠ t ∧ s.1 ≤ en t ∧ t.1 ≤ en s := by
  have h := of_decide_eq_true h
  unfold clP en at h
  unfold en
  refine ⟨h.1, ?_⟩
  have := h.2
  omega
/-- the first two that clash: the greater begin -/
def fcIn (s : Spot) : List Spot → Option Nat
  | [] => none
  | t :: B => if clB s t then some (max s.1 t.1) else fcIn s B
def fc : List Spot → List Spot → Option Nat
  | [], _ => none
  | s :: A, B => match fcIn s B with
    | some n => some n
    | none => fc A B
theorem fcIn_none {s : Spot} : ∀ {B : List Spot}, fcIn s B = none → ∀ t ∈ B, clB s t = false
  | [], _, t, ht => nomatch ht
  | u :: B, h, t, ht => by
    rw [fcIn] at h
    split at h
    · cases h
    · rcases List.mem_cons.mp ht with z | z
      · rw [z]
        exact Bool.eq_false_iff.mpr ‹¬clB s u = true›
      · exact fcIn_none h t z
theorem fc_none : ∀ {A B : List Spot}, fc A B = none → ∀ s ∈ A, ∀ t ∈ B, clB s t = false
  | [], _, _, s, hs => nomatch hs
  | u :: A, B, h, s, hs => by
    rw [fc] at h
    split at h
    · cases h
    · rcases List.mem_cons.mp hs with rfl | z
      · exact fcIn_none ‹_›
      · exact fc_none h s z
/-- the pairs that clash, the lesser begin ahead -/
def prIn (s : Spot) (B : List Spot) : List (Nat × Nat) := (B.filter (clB s)).map fun t => (min s.1 t.1, max s.1 t.1)
def prs (A B : List Spot) : List (Nat × Nat) := A.flatMap fun s => prIn s B
def leP (p q : Nat × Nat) : Prop := p.1 < q.1 ∨ (p.1 = q.1 ∧ p.2 ≤ q.2)
theorem okS_ge {len : Nat} : ∀ {g : List Spot} {l : Nat}, okS len l g → ∀ s ∈ g, l ≤ s.1
  | [], _, _, s, hs => nomatch hs
  | (a, o, n) :: g, l, h, s, hs => by
    obtain ⟨h1, _, _, _, _, h2⟩ := h
    rcases List.mem_cons.mp hs with rfl | z
    · exact h1
    · have := okS_ge h2 s z
      show l ≤ s.1
      omega
theorem okS_pw {len : Nat} : ∀ {g : List Spot} {l : Nat}, okS len l g → g.Pairwise fun s t => en s < t.1
  | [], _, _ => .nil
  | (a, o, n) :: g, l, h => by
    obtain ⟨_, _, _, _, _, h2⟩ := h
    refine .cons (fun t ht => ?_) (okS_pw h2)
    have := okS_ge h2 t ht
    show a + o.length < t.1
    omega
theorem prs_nil {A B : List Spot} : prs A B = [] ↔ fc A B = none := by
  constructor
  · intro h
    induction A with
    | nil => rfl
    | cons s A ih =>
      have h1 : prIn s B ++ prs A B = [] := by simpa [prs] using h
      obtain ⟨h2, h3⟩ := List.append_eq_nil_iff.mp h1
      rw [fc]
      have : fcIn s B = none := by
        have h4 : B.filter (clB s) = [] := by simpa [prIn] using h2
        clear h h1 h2 h3 ih
        induction B with
        | nil => rfl
        | cons t B ih =>
          rw [fcIn]
          have h5 := List.filter_eq_nil_iff.mp h4
          rw [if_neg (by simpa using h5 t List.mem_cons_self)]
          exact ih (List.filter_eq_nil_iff.mpr fun u hu => h5 u (List.mem_cons_of_mem _ hu))
      rw [this]
      exact ih h3
  · intro h
    have hn := fc_none h
    have : ∀ s ∈ A, prIn s B = [] := fun s hs => by
      unfold prIn
      rw [List.filter_eq_nil_iff.mpr fun t ht => by simp [hn s hs t ht]]
      rfl
    unfold prs
    rw [List.flatMap_eq_nil_iff]
    exact this
/-- the first pair is that of the first two, and none is less -/
theorem prs_first {len l1 l2 : Nat} : ∀ {A B : List Spot}, okS len l1 A → okS len l2 B → ∀ n, fc A B = some n → ∃ lo r, prs A B = (lo, n) :: r ∧ ∀ q ∈ r, leP (lo, n) q := by
  intro A B hA hB
  have pB := okS_pw hB
  -- of one spot
  have one : ∀ s, ∀ {B : List Spot}, B.Pairwise (fun s t => en s < t.1) → ∀ n, fcIn s B = some n → ∃ t r, t ∈ B ∧ clB s t = true ∧ n = max s.1 t.1 ∧ prIn s B = (min s.1 t.1, n) :: r ∧ (∀ q ∈ r, leP (min s.1 t.1, n) q) := by
    intro s B pB n h
    induction B with
    | nil => cases h
    | cons t B ih =>
      obtain ⟨p1, p2⟩ := List.pairwise_cons.mp pB
      rw [fcIn] at h
      by_cases hc : clB s t = true
      · rw [if_pos hc] at h
        cases h
        refine ⟨t, prIn s B, List.mem_cons_self, hc, rfl, by simp [prIn, hc], fun q hq => ?_⟩
        obtain ⟨u, hu, rfl⟩ := List.mem_map.mp hq
        have := p1 u (List.mem_filter.mp hu).1
        unfold en at this
        unfold leP
        show min s.1 t.1 < min s.1 u.1 ∨ (min s.1 t.1 = min s.1 u.1 ∧ max s.1 t.1 ≤ max s.1 u.1)
        omega
      · rw [if_neg hc] at h
        obtain ⟨u, r, h1, h2, h3, h4, h5⟩ := ih p2 h
        exact ⟨u, r, List.mem_cons_of_mem _ h1, h2, h3, by unfold prIn at h4 ⊢; rw [List.filter_cons_of_neg hc]; exact h4, h5⟩
  revert hA
  induction A generalizing l1 with
  | nil => intro _ n h; cases h
  | cons s A ih =>
    intro hA n h
    have pA := okS_pw hA
    obtain ⟨q1, q2⟩ := List.pairwise_cons.mp pA
    have e : prs (s :: A) B = prIn s B ++ prs A B := by simp [prs]
    rw [fc] at h
    cases hf : fcIn s B with
    | some m =>
      rw [hf] at h
      cases h
      obtain ⟨t, r, h1, h2, h3, h4, h5⟩ := one s pB _ hf
      refine ⟨min s.1 t.1, r ++ prs A B, by rw [e, h4]; rfl, fun q hq => ?_⟩
      rcases List.mem_append.mp hq with z | z
      · exact h5 q z
      · obtain ⟨s2, hs2, hq2⟩ := List.mem_flatMap.mp z
        obtain ⟨t2, ht2, rfl⟩ := List.mem_map.mp hq2
        obtain ⟨ht3, hc3⟩ := List.mem_filter.mp ht2
        have c1 := cl_yes h2
        have c2 := cl_yes hc3
        have o1 := q1 s2 hs2
        -- t2 does not lie ahead of t
        have o2 : t = t2 ∨ en t < t2.1 ∨ en t2 < t.1 := by
          obtain ⟨i, hi, ei⟩ := List.mem_iff_getElem.mp h1
          obtain ⟨j, hj, ej⟩ := List.mem_iff_getElem.mp ht3
          have pw := List.pairwise_iff_getElem.mp pB
          rcases Nat.lt_trichotomy i j with k | k | k
          · exact .inr (.inl (by rw [← ei, ← ej]; exact pw i j hi hj k))
          · subst k
            exact .inl (ei.symm.trans ej)
          · exact .inr (.inr (by rw [← ei, ← ej]; exact pw j i hj hi k))
        subst h3
        unfold leP
        show min s.1 t.1 < min s2.1 t2.1 ∨ (min s.1 t.1 = min s2.1 t2.1 ∧ max s.1 t.1 ≤ max s2.1 t2.1)
        have e1 : s.1 ≤ en s := Nat.le_add_right _ _
        have e2 : t.1 ≤ en t := Nat.le_add_right _ _
        have e3 : t2.1 ≤ en t2 := Nat.le_add_right _ _
        rcases o2 with rfl | o2 | o2 <;> omega
    | none =>
      rw [hf] at h
      obtain ⟨_, _, _, _, _, hA2⟩ := (show okS len l1 ((s.1, s.2.1, s.2.2) :: A) from hA)
      obtain ⟨lo, r, h1, h2⟩ := ih hA2 n h
      have : prIn s B = [] := by
        unfold prIn
        rw [List.filter_eq_nil_iff.mpr fun t ht => by simp [fcIn_none hf t ht]]
        rfl
      exact ⟨lo, r, by rw [e, this, h1]; rfl, h2⟩
end Pm

/-! Pm4: spots of two patches in one; spots put behind others. -/
namespace Pm
def leK (s t : Spot) : Bool := decide (s.1 < t.1 ∨ (s.1 = t.1 ∧ en s ≤ en t))
theorem leK_trans (a b c : Spot) (h : leK a b = true) (g : leK b c = true) : leK a c = true := by
  have h := of_decide_eq_true h
  have g := of_decide_eq_true g
  exact decide_eq_true (by omega)
theorem leK_total (a b : Spot) : (leK a b || leK b a) = true := by
  unfold leK
  rw [← Bool.decide_or]
  exact decide_eq_true (by omega)
/-- a spot that may stand in a row of so many -/
def okO (len : Nat) (s : Spot) : Prop := en s ≤ len ∧ 0 < s.2.1.length + s.2.2.length ∧ (∀ b ∈ s.2.1, 0 ≤ b ∧ b < 256) ∧ ∀ b ∈ s.2.2, 0 ≤ b ∧ b < 256
theorem okS_each {len : Nat} : ∀ {g : List Spot} {l : Nat}, okS len l g → ∀ s ∈ g, okO len s
  | [], _, _, s, hs => nomatch hs
  | (a, o, n) :: g, l, h, s, hs => by
    obtain ⟨_, h1, h2, h3, h4, h5⟩ := h
    rcases List.mem_cons.mp hs with rfl | z
    · exact ⟨h1, h2, h3, h4⟩
    · exact okS_each h5 s z
theorem okS_of {len : Nat} : ∀ {g : List Spot} {l : Nat}, (∀ s ∈ g, okO len s) → (∀ s ∈ g, l ≤ s.1) → g.Pairwise (fun s t => en s < t.1) → okS len l g
  | [], _, _, _, _ => trivial
  | (a, o, n) :: g, l, h, hl, hp => by
    obtain ⟨h1, h2, h3, h4⟩ := h (a, o, n) List.mem_cons_self
    obtain ⟨p1, p2⟩ := List.pairwise_cons.mp hp
    exact ⟨hl _ List.mem_cons_self, h1, h2, h3, h4, okS_of (fun s hs => h s (List.mem_cons_of_mem _ hs)) (fun s hs => p1 s hs) p2⟩
/-- glued: none touches the next one -/
theorem stepT_nil (s : Spot) : stepT [] s = [s] := rfl
theorem stepT_last (w : List Spot) (t s : Spot) : stepT (w ++ [t]) s = if en t = s.1 then w ++ [(t.1, t.2.1 ++ s.2.1, t.2.2 ++ s.2.2)] else w ++ [t] ++ [s] := by
  obtain ⟨a, o, n⟩ := t
  simp [stepT, en]
theorem pw_snoc {α : Type} {R : α → α → Prop} {w : List α} {t : α} (h : w.Pairwise R) (g : ∀ s ∈ w, R s t) : (w ++ [t]).Pairwise R :=
  List.pairwise_append.mpr ⟨h, List.pairwise_singleton _ _, fun a ha b hb => by rw [List.mem_singleton.mp hb]; exact g a ha⟩
theorem glue_ok {len : Nat} : ∀ {S : List Spot} {w : List Spot}, (∀ s ∈ S, okO len s) → S.Pairwise (fun s t => en s ≤ t.1) → (∀ s ∈ w, okO len s) → w.Pairwise (fun s t => en s < t.1) → (∀ s ∈ w, ∀ t ∈ S, en s ≤ t.1) →
    (∀ s ∈ S.foldl stepT w, okO len s) ∧ (S.foldl stepT w).Pairwise (fun s t => en s < t.1)
  | [], w, _, _, hw, pw, _ => ⟨hw, pw⟩
  | s :: S, w, hS, pS, hw, pw, hc => by
    obtain ⟨p1, p2⟩ := List.pairwise_cons.mp pS
    have hs := hS s List.mem_cons_self
    have hS2 : ∀ t ∈ S, okO len t := fun t ht => hS t (List.mem_cons_of_mem _ ht)
    rw [List.foldl_cons]
    rcases List.eq_nil_or_concat w with rfl | ⟨w, t, rfl⟩
    · rw [stepT_nil]
      exact glue_ok hS2 p2 (fun x hx => by rw [List.mem_singleton.mp hx]; exact hs) (List.pairwise_singleton _ _) fun x hx y hy => by rw [List.mem_singleton.mp hx]; exact p1 y hy
    · rw [List.concat_eq_append] at *
      obtain ⟨q1, _, q2⟩ := List.pairwise_append.mp pw
      have q3 : ∀ x ∈ w, en x < t.1 := fun x hx => q2 x hx t (List.mem_singleton.mpr rfl)
      have ht := hw t (by simp)
      have ct := hc t (by simp) s List.mem_cons_self
      have hw2 : ∀ x ∈ w, okO len x := fun x hx => hw x (List.mem_append_left _ hx)
      have es : s.1 ≤ en s := Nat.le_add_right _ _
      have et : t.1 ≤ en t := Nat.le_add_right _ _
      rw [stepT_last]
      by_cases e : en t = s.1
      · rw [if_pos e]
        have em : en (t.1, t.2.1 ++ s.2.1, t.2.2 ++ s.2.2) = en s := by
          unfold en at e ⊢
          simp only [List.length_append]
          omega
        refine glue_ok hS2 p2 (fun x hx => ?_) (pw_snoc q1 fun x hx => q3 x hx) fun x hx y hy => ?_
        · rcases List.mem_append.mp hx with z | z
          · exact hw2 x z
          · rw [List.mem_singleton.mp z]
            refine ⟨by rw [em]; exact hs.1, ?_, fun b hb => ?_, fun b hb => ?_⟩
            · have := ht.2.1
              simp only [List.length_append]
              omega
            · exact (List.mem_append.mp hb).elim (ht.2.2.1 b) (hs.2.2.1 b)
            · exact (List.mem_append.mp hb).elim (ht.2.2.2 b) (hs.2.2.2 b)
        · have py := p1 y hy
          rcases List.mem_append.mp hx with z | z
          · have := q3 x z
            omega
          · rw [List.mem_singleton.mp z, em]
            exact py
      · rw [if_neg e]
        refine glue_ok hS2 p2 (fun x hx => ?_) (pw_snoc pw fun x hx => ?_) fun x hx y hy => ?_
        · rcases List.mem_append.mp hx with z | z
          · exact hw x z
          · rw [List.mem_singleton.mp z]
            exact hs
        · rcases List.mem_append.mp hx with z | z
          · have := q3 x z
            omega
          · rw [List.mem_singleton.mp z]
            omega
        · have py := p1 y hy
          rcases List.mem_append.mp hx with z | z
          · rcases List.mem_append.mp z with z | z
            · have := q3 x z
              omega
            · rw [List.mem_singleton.mp z]
              omega
          · rw [List.mem_singleton.mp z]
            exact py
theorem glue_okS {len : Nat} {S : List Spot} (h : ∀ s ∈ S, okO len s) (p : S.Pairwise fun s t => en s ≤ t.1) : okS len 0 (S.foldl stepT []) := by
  obtain ⟨a, b⟩ := glue_ok h p (w := []) (fun s hs => nomatch hs) .nil fun s hs => nomatch hs
  exact okS_of a (fun s _ => Nat.zero_le _) b
/-- what is glued already stays -/
theorem glue_id : ∀ {S w : List Spot}, (w ++ S).Pairwise (fun s t => en s < t.1) → S.foldl stepT w = w ++ S
  | [], w, _ => by simp
  | s :: S, w, h => by
    have h2 : (w ++ [s] ++ S).Pairwise fun s t => en s < t.1 := by rw [List.append_assoc]; exact h
    rw [List.foldl_cons]
    have e : stepT w s = w ++ [s] := by
      rcases List.eq_nil_or_concat w with rfl | ⟨w, t, rfl⟩
      · rfl
      · rw [List.concat_eq_append] at *
        rw [stepT_last, if_neg]
        have := (List.pairwise_append.mp h).2.2 t (by simp) s List.mem_cons_self
        omega
    rw [e, glue_id h2, List.append_assoc]
    rfl
/-- both patches' spots, each once -/
def both (A B : List Spot) : List Spot := A ++ B.filter fun t => !decide (t ∈ A)
/-- the spots of both, those that touch as one -/
def uni (A B : List Spot) : List Spot := ((both A B).mergeSort leK).foldl stepT []
theorem pw_nodup {A : List Spot} (h : A.Pairwise fun s t => en s < t.1) : A.Nodup := h.imp fun {a b} h e => by
  subst e
  have : a.1 ≤ en a := Nat.le_add_right _ _
  omega
theorem pw_tri {A : List Spot} (h : A.Pairwise fun s t => en s < t.1) {s t : Spot} (hs : s ∈ A) (ht : t ∈ A) : s = t ∨ en s < t.1 ∨ en t < s.1 := by
  obtain ⟨i, hi, ei⟩ := List.mem_iff_getElem.mp hs
  obtain ⟨j, hj, ej⟩ := List.mem_iff_getElem.mp ht
  have pw := List.pairwise_iff_getElem.mp h
  rcases Nat.lt_trichotomy i j with k | k | k
  · exact .inr (.inl (by rw [← ei, ← ej]; exact pw i j hi hj k))
  · subst k
    exact .inl (ei.symm.trans ej)
  · exact .inr (.inr (by rw [← ei, ← ej]; exact pw j i hj hi k))
/-- of two spots of both: the lesser one ends ahead of the other -/
theorem both_le {A B : List Spot} (pA : A.Pairwise fun s t => en s < t.1) (pB : B.Pairwise fun s t => en s < t.1) (h : fc A B = none) {s t : Spot} (hs : s ∈ both A B) (ht : t ∈ both A B) (hne : s ≠ t) (hle : leK s t = true) : en s ≤ t.1 := by
  have hle := of_decide_eq_true hle
  have e1 : s.1 ≤ en s := Nat.le_add_right _ _
  have e2 : t.1 ≤ en t := Nat.le_add_right _ _
  have inB : ∀ {x : Spot}, x ∈ both A B → x ∈ A ∨ x ∈ B := fun {x} hx => (List.mem_append.mp hx).imp id fun z => (List.mem_filter.mp z).1
  have mixed : ∀ {x y : Spot}, x ∈ A → y ∈ B → x = y ∨ (min (en x) (en y) ≤ max x.1 y.1 ∧ ¬(x.2.1.length = 0 ∧ y.1 < x.1 ∧ x.1 < en y) ∧ ¬(y.2.1.length = 0 ∧ x.1 < y.1 ∧ y.1 < en x) ∧ ¬(x.2.1.length = 0 ∧ y.2.1.length = 0 ∧ x.1 = y.1)) := fun {x y} hx hy => cl_no (fc_none h x hx y hy)
  have len1 : en s = s.1 + s.2.1.length := rfl
  have len2 : en t = t.1 + t.2.1.length := rfl
  rcases inB hs with a | a <;> rcases inB ht with b | b
  · rcases pw_tri pA a b with z | z | z
    · exact absurd z hne
    · omega
    · omega
  · rcases mixed a b with z | z
    · exact absurd z hne
    · omega
  · rcases mixed b a with z | z
    · exact absurd z.symm hne
    · omega
  · rcases pw_tri pB a b with z | z | z
    · exact absurd z hne
    · omega
    · omega
theorem both_nodup {A B : List Spot} (pA : A.Pairwise fun s t => en s < t.1) (pB : B.Pairwise fun s t => en s < t.1) : (both A B).Nodup := by
  refine List.nodup_append.mpr ⟨pw_nodup pA, (pw_nodup pB).filter _, fun a ha b hb e => ?_⟩
  have := (List.mem_filter.mp hb).2
  rw [← e] at this
  simp [ha] at this
theorem sort_pw {A B : List Spot} (pA : A.Pairwise fun s t => en s < t.1) (pB : B.Pairwise fun s t => en s < t.1) (h : fc A B = none) : ((both A B).mergeSort leK).Pairwise fun s t => en s ≤ t.1 := by
  have p1 := List.pairwise_mergeSort (le := leK) leK_trans leK_total (both A B)
  have p2 : ((both A B).mergeSort leK).Nodup := (List.mergeSort_perm _ _).nodup_iff.mpr (both_nodup pA pB)
  have p3 := List.pairwise_and_iff.mpr ⟨p1, p2⟩
  refine p3.imp_of_mem fun {a b} ha hb hab => ?_
  exact both_le pA pB h (List.mem_mergeSort.mp ha) (List.mem_mergeSort.mp hb) hab.2 hab.1
theorem both_each {len : Nat} {A B : List Spot} (hA : ∀ s ∈ A, okO len s) (hB : ∀ s ∈ B, okO len s) : ∀ s ∈ both A B, okO len s := fun s hs => (List.mem_append.mp hs).elim (hA s) fun z => hB s (List.mem_filter.mp z).1
theorem uni_ok {len l1 l2 : Nat} {A B : List Spot} (hA : okS len l1 A) (hB : okS len l2 B) (h : fc A B = none) : okS len 0 (uni A B) :=
  glue_okS (fun s hs => both_each (okS_each hA) (okS_each hB) s (List.mem_mergeSort.mp hs)) (sort_pw (okS_pw hA) (okS_pw hB) h)
/-- one alone -/
theorem pw_leK {A : List Spot} (h : A.Pairwise fun s t => en s ≤ t.1) : A.Pairwise fun s t => leK s t = true := h.imp fun {a b} h => by
  have e1 : a.1 ≤ en a := Nat.le_add_right _ _
  have e2 : b.1 ≤ en b := Nat.le_add_right _ _
  exact decide_eq_true (by omega)
theorem both_self {A : List Spot} : both A A = A := by
  unfold both
  rw [List.filter_eq_nil_iff.mpr fun t ht => by simp [ht], List.append_nil]
theorem both_nil {A : List Spot} : both A [] = A := by simp [both]
theorem uni_self {len l : Nat} {A : List Spot} (h : okS len l A) : uni A A = A := by
  have p := okS_pw h
  unfold uni
  rw [both_self, List.mergeSort_of_pairwise (pw_leK (p.imp fun {a b} h => Nat.le_of_lt h)), glue_id (w := []) (by simpa using p), List.nil_append]
theorem fc_self {len l : Nat} {A : List Spot} (h : okS len l A) : fc A A = none := by
  have p := okS_pw h
  have none_of : ∀ {X : List Spot}, (∀ s ∈ X, ∀ t ∈ A, clB s t = false) → fc X A = none := fun {X} hX => by
    induction X with
    | nil => rfl
    | cons s X ih =>
      have one : ∀ {Y : List Spot}, (∀ t ∈ Y, clB s t = false) → fcIn s Y = none := fun {Y} hY => by
        induction Y with
        | nil => rfl
        | cons t Y ih =>
          rw [fcIn, if_neg (by simp [hY t List.mem_cons_self])]
          exact ih fun u hu => hY u (List.mem_cons_of_mem _ hu)
      rw [fc, one (hX s List.mem_cons_self)]
      exact ih fun x hx => hX x (List.mem_cons_of_mem _ hx)
  refine none_of fun s hs t ht => ?_
  cases hc : clB s t with
  | false => rfl
  | true =>
    obtain ⟨h1, h2, h3⟩ := cl_yes hc
    rcases pw_tri p hs ht with z | z | z
    · exact absurd z h1
    · omega
    · omega
/-! ### behind other spots -/
def gr (B : List Spot) : Int := (B.map fun u => (u.2.2.length : Int) - u.2.1.length).sum
/-- where the byte at x is behind the spots B -/
def bh (B : List Spot) (x : Nat) : Int := x + gr (B.filter fun u => decide (en u ≤ x))
theorem gr_cons (u : Spot) (B : List Spot) : gr (u :: B) = (u.2.2.length : Int) - u.2.1.length + gr B := by simp [gr]
/-- of spots from p on, those that end beyond x, at y at most, take away y - p bytes at most -/
theorem gr_low {len : Nat} : ∀ {B : List Spot} {l p x y : Nat}, okS len l B → x ≤ y → p ≤ y → (∀ u ∈ B, x < en u → en u ≤ y → u.2.1.length = 0 ∨ p ≤ u.1) →
    gr (B.filter fun u => decide (en u ≤ x)) - gr (B.filter fun u => decide (en u ≤ y)) ≤ (y : Int) - max p (min l y)
  | [], l, p, x, y, _, _, hp, _ => by
    show (0 : Int) - 0 ≤ _
    omega
  | (a, o, n) :: B, l, p, x, y, h, hxy, hp, hu => by
    obtain ⟨h1, h2, h3, h4, h5, h6⟩ := h
    have ih := gr_low (p := p) (x := x) h6 hxy hp fun u hm => hu u (List.mem_cons_of_mem _ hm)
    have hc := hu (a, o, n) List.mem_cons_self
    have he : en (a, o, n) = a + o.length := rfl
    simp only [he] at hc
    by_cases c1 : a + o.length ≤ x
    · have c2 : a + o.length ≤ y := by omega
      rw [List.filter_cons_of_pos (by rw [he]; exact decide_eq_true c1), List.filter_cons_of_pos (by rw [he]; exact decide_eq_true c2), gr_cons, gr_cons]
      omega
    · by_cases c2 : a + o.length ≤ y
      · rw [List.filter_cons_of_neg (by rw [he]; simpa using c1), List.filter_cons_of_pos (by rw [he]; exact decide_eq_true c2), gr_cons]
        have hc := hc (by omega) c2
        simp only at *
        omega
      · rw [List.filter_cons_of_neg (by rw [he]; simpa using c1), List.filter_cons_of_neg (by rw [he]; simpa using c2)]
        omega
end Pm

/-! Pm5: a patch's spots behind another patch. -/
namespace Pm
/-- the spots of A, but those of B, at their places behind B -/
def sh (A B : List Spot) : List Spot := (A.filter fun s => !decide (s ∈ B)).map fun s => ((bh B s.1).toNat, s.2.1, s.2.2)
theorem gr_zero : ∀ (B : List Spot), 0 ≤ gr (B.filter fun u => decide (en u ≤ 0))
  | [] => Int.le_refl _
  | u :: B => by
    have ih := gr_zero B
    by_cases c : en u ≤ 0
    · rw [List.filter_cons_of_pos (by exact decide_eq_true c), gr_cons]
      have : u.2.1.length = 0 := by
        unfold en at c
        omega
      omega
    · rw [List.filter_cons_of_neg (by simpa using c)]
      exact ih
theorem bh_nn {len l : Nat} {B : List Spot} (h : okS len l B) (x : Nat) : 0 ≤ bh B x := by
  have g := gr_low (p := 0) (x := 0) (y := x) h (Nat.zero_le _) (Nat.zero_le _) fun u _ _ _ => .inr (Nat.zero_le _)
  have z := gr_zero B
  unfold bh
  omega
/-- spots that don't clash with s: those that end behind its begin begin behind its end -/
theorem behind_of {s u : Spot} (h : clB s u = false) (hne : s ≠ u) (hx : s.1 < en u) : u.2.1.length = 0 ∨ en s ≤ u.1 := by
  have e1 : en s = s.1 + s.2.1.length := rfl
  have e2 : en u = u.1 + u.2.1.length := rfl
  rcases cl_no h with z | z
  · exact absurd z hne
  · omega
theorem bh_step {len l1 l2 : Nat} {A B : List Spot} (hB : okS len l2 B) (h : fc A B = none) {s : Spot} (hs : s ∈ A) (nB : s ∉ B) {y : Nat} (hy : en s ≤ y) : bh B s.1 + s.2.1.length ≤ bh B y := by
  have e1 : en s = s.1 + s.2.1.length := rfl
  have g := gr_low (p := en s) (x := s.1) (y := y) hB (by omega) hy fun u hu h1 _ => behind_of (fc_none h s hs u hu) (fun e => nB (e ▸ hu)) h1
  unfold bh
  omega
theorem gr_all {len l : Nat} {B : List Spot} (h : okS len l B) : bh B len = len + gr B := by
  unfold bh
  rw [List.filter_eq_self.mpr fun u hu => decide_eq_true (okS_each h u hu).1]
theorem len_nn {len l : Nat} {B : List Spot} (h : okS len l B) : 0 ≤ (len : Int) + gr B := by
  rw [← gr_all h]
  exact bh_nn h len
theorem sh_pw {len l1 l2 : Nat} {A B : List Spot} (hA : okS len l1 A) (hB : okS len l2 B) (h : fc A B = none) : (sh A B).Pairwise fun s t => en s ≤ t.1 := by
  refine List.pairwise_map.mpr ?_
  refine (((okS_pw hA).filter _).imp_of_mem fun {s t} hs ht hlt => ?_)
  obtain ⟨s1, s2⟩ := List.mem_filter.mp hs
  have nB : s ∉ B := by simpa using s2
  have st := bh_step (l1 := l1) hB h s1 nB (y := t.1) (Nat.le_of_lt hlt)
  have n1 := bh_nn hB s.1
  show (bh B s.1).toNat + s.2.1.length ≤ (bh B t.1).toNat
  omega
theorem sh_each {len l1 l2 : Nat} {A B : List Spot} (hA : okS len l1 A) (hB : okS len l2 B) (h : fc A B = none) : ∀ s ∈ sh A B, okO ((len : Int) + gr B).toNat s := fun t ht => by
  obtain ⟨s, hs, rfl⟩ := List.mem_map.mp ht
  obtain ⟨s1, s2⟩ := List.mem_filter.mp hs
  have nB : s ∉ B := by simpa using s2
  obtain ⟨o1, o2, o3, o4⟩ := okS_each hA s s1
  have st := bh_step (l1 := l1) hB h s1 nB (y := len) o1
  rw [gr_all hB] at st
  have n1 := bh_nn hB s.1
  refine ⟨?_, o2, o3, o4⟩
  show (bh B s.1).toNat + s.2.1.length ≤ _
  omega
/-- the patch behind -/
def mv (A B : List Spot) : List Spot := (sh A B).foldl stepT []
theorem mv_ok {len l1 l2 : Nat} {A B : List Spot} (hA : okS len l1 A) (hB : okS len l2 B) (h : fc A B = none) : okS ((len : Int) + gr B).toNat 0 (mv A B) := glue_okS (sh_each hA hB h) (sh_pw hA hB h)
theorem uni_one {M : List Spot} (h : M.Pairwise fun s t => en s ≤ t.1) : uni M [] = M.foldl stepT [] := by
  unfold uni
  rw [both_nil, List.mergeSort_of_pairwise (pw_leK h)]
/-! ### how great they are -/
theorem wt_app (a b : List Spot) : wt (a ++ b) = wt a + wt b := by simp [wt]
theorem wt_step (w : List Spot) (s : Spot) : wt (stepT w s) ≤ wt w + (1 + s.2.1.length + s.2.2.length) := by
  rcases List.eq_nil_or_concat w with rfl | ⟨w, t, rfl⟩
  · simp [stepT, wt]
  · rw [List.concat_eq_append, stepT_last]
    split
    · rw [wt_app, wt_app]
      simp [wt]
      omega
    · rw [wt_app]
      simp [wt]
theorem wt_fold : ∀ (S w : List Spot), wt (S.foldl stepT w) ≤ wt w + wt S
  | [], w => by simp [wt]
  | s :: S, w => by
    rw [List.foldl_cons, wt_cons]
    have := wt_fold S (stepT w s)
    have := wt_step w s
    omega
theorem wt_sub {a b : List Spot} (h : a.Sublist b) : wt a ≤ wt b := by
  induction h with
  | slnil => exact Nat.le_refl _
  | cons x _ ih => rw [wt_cons]; omega
  | cons_cons x _ ih => rw [wt_cons, wt_cons]; omega
theorem wt_perm {a b : List Spot} (h : a.Perm b) : wt a = wt b := (h.map _).sum_nat
theorem wt_both (A B : List Spot) : wt (both A B) ≤ wt A + wt B := by
  unfold both
  rw [wt_app]
  have := wt_sub (List.filter_sublist (p := fun t => !decide (t ∈ A)) (l := B))
  omega
theorem wt_uni (A B : List Spot) : wt (uni A B) ≤ wt A + wt B := by
  have h1 := wt_fold ((both A B).mergeSort leK) []
  have h2 := wt_perm (List.mergeSort_perm (both A B) leK)
  have h3 := wt_both A B
  have h4 : wt [] = 0 := rfl
  unfold uni
  omega
theorem wt_sh (A B : List Spot) : wt (sh A B) ≤ wt A := by
  have h := wt_sub (List.filter_sublist (p := fun t => !decide (t ∈ B)) (l := A))
  have e : wt (sh A B) = wt (A.filter fun s => !decide (s ∈ B)) := by
    unfold wt sh
    rw [List.map_map]
    rfl
  omega
theorem wt_mv (A B : List Spot) : wt (mv A B) ≤ wt A := by
  have h1 := wt_fold (sh A B) []
  have h2 := wt_sh A B
  have h4 : wt [] = 0 := rfl
  unfold mv
  omega
theorem gr_hi : ∀ (B : List Spot), gr B ≤ wt B ∧ -(wt B : Int) ≤ gr B
  | [] => ⟨by decide, by decide⟩
  | u :: B => by
    have := gr_hi B
    rw [gr_cons, wt_cons]
    omega
end Pm

/-! Pm6: spots as data; their order as data is their order by begin and end. -/
namespace Pm
open PySem PySem.W PyProof.Rows
def spP (s : Spot) : PyData := .tuple [.int s.1, .tuple (s.2.1.map .int), .tuple (s.2.2.map .int)]
theorem spP_eqv (s t : Spot) : PyData.eqv (spP s) (spP t) = decide (s = t) := by
  obtain ⟨a, o, n⟩ := s
  obtain ⟨b, p, m⟩ := t
  simp only [spP, PyData.eqv, PyData.eqvAll, ked_eqvAll, Bool.and_true]
  by_cases h1 : a = b <;> by_cases h2 : o = p <;> by_cases h3 : n = m <;> simp [h1, h2, h3, Int.ofNat_inj]
theorem spP_lay (s : Spot) : (spP s).canLay0 = true := by simp [spP, PyData.canLay0, PyData.canLayAll0, ke_canLayAll0]
theorem spP_depth (s : Spot) : (spP s).depth = 2 := by simp [spP, PyData.depth, PyData.depthAll, ke_depthAll]
theorem spP_shaped (s : Spot) : SeqAt.shaped (spP s) = true := by
  unfold SeqAt.shaped
  rw [spP_lay, spP_depth]
  rfl
theorem spPs_lay : ∀ ss : List Spot, PyData.canLayAll0 (ss.map spP) = true
  | [] => by simp [PyData.canLayAll0]
  | s :: ss => by simp [PyData.canLayAll0, spP_lay s, spPs_lay ss]
theorem spPs_depth : ∀ ss : List Spot, PyData.depthAll (ss.map spP) ≤ 2
  | [] => by simp [PyData.depthAll]
  | s :: ss => by
    have := spPs_depth ss
    have h := spP_depth s
    simp only [List.map_cons, PyData.depthAll]
    omega
theorem spPs_shapedT (ss : List Spot) : SeqAt.shaped (.tuple (ss.map spP)) = true := by
  unfold SeqAt.shaped
  have h1 : (PyData.tuple (ss.map spP)).canLay0 = true := by simp [PyData.canLay0, spPs_lay ss]
  have h2 : (PyData.tuple (ss.map spP)).depth ≤ 64 := by
    have := spPs_depth ss
    simp only [PyData.depth]
    omega
  rw [h1, decide_eq_true h2]
  rfl
theorem any_spP (ss : List Spot) (t : Spot) : ((ss.map spP).any fun z => PyData.eqv z (spP t)) = decide (t ∈ ss) := by
  rw [List.any_map]
  induction ss with
  | nil => simp
  | cons s ss ih =>
    rw [List.any_cons, ih]
    show (PyData.eqv (spP s) (spP t) || _) = _
    rw [spP_eqv]
    by_cases h : s = t <;> by_cases h2 : t ∈ ss <;> simp [h, h2, eq_comm]
    exact fun e => h e.symm
theorem alike_spP (s t : Spot) : alike (spP s) (spP t) = true := by simp [spP, alike, alikeAll, alike_ints]
theorem alike_row (o p : List Int) : alike (.tuple (o.map .int)) (.tuple (p.map .int)) = true := by simp [alike, alike_ints]
theorem spPs_alike (ss : List Spot) : AllAlike (ss.map spP) := AllAlike.of fun b b' => alike_spP b b'
theorem spPs_sortable (ss : List Spot) : Sortable (ss.map spP) := Sortable.tuples fun b => ⟨_, _, rfl⟩
/-- the order of spots as data -/
theorem lt_spP (s t : Spot) : dataLt (spP s) (spP t) = if s.1 = t.1 then (if s.2.1 = t.2.1 then decide (s.2.2 < t.2.2) else decide (s.2.1 < t.2.1)) else decide (s.1 < t.1) := by
  unfold spP
  rw [dataLt_tuple, dataLt_cons (by simp [alike]), dataLt_cons (alike_row _ _), dataLt_cons (alike_row _ _)]
  have e : PyProof.Rows.lexLt itemOrd (keyToksAll []) (keyToksAll []) = false := lex_irrefl _
  rw [e, dataLt_int, dataLt_tuple, dataLt_tuple]
  have r1 := dataLt_ints s.2.1 t.2.1
  have r2 := dataLt_ints s.2.2 t.2.2
  unfold rowLt at r1 r2
  rw [r1, r2]
  simp only [PyData.eqv, ked_eqvAll, beq_iff_eq, decide_eq_true_eq, Int.ofNat_inj, Int.ofNat_lt]
  by_cases h3 : s.2.2 = t.2.2
  · rw [if_pos h3, h3, decide_eq_false (List.lt_irrefl _)]
  · rw [if_neg h3]
theorem both_two {A B : List Spot} (pA : A.Pairwise fun s t => en s < t.1) (pB : B.Pairwise fun s t => en s < t.1) (h : fc A B = none) {s t : Spot} (hs : s ∈ both A B) (ht : t ∈ both A B) (hne : s ≠ t) (e : s.1 = t.1) (h0 : s.2.1.length = 0) (h1 : t.2.1.length = 0) : False := by
  have inB : ∀ {x : Spot}, x ∈ both A B → x ∈ A ∨ x ∈ B := fun {x} hx => (List.mem_append.mp hx).imp id fun z => (List.mem_filter.mp z).1
  have e1 : en s = s.1 + s.2.1.length := rfl
  have e2 : en t = t.1 + t.2.1.length := rfl
  rcases inB hs with a | a <;> rcases inB ht with b | b
  · rcases pw_tri pA a b with z | z | z
    · exact hne z
    · omega
    · omega
  · rcases cl_no (fc_none h s a t b) with z | z
    · exact hne z
    · exact z.2.2.2 ⟨h0, h1, e⟩
  · rcases cl_no (fc_none h t b s a) with z | z
    · exact hne z.symm
    · exact z.2.2.2 ⟨h1, h0, e.symm⟩
  · rcases pw_tri pB a b with z | z | z
    · exact hne z
    · omega
    · omega
theorem both_same {A B : List Spot} (pA : A.Pairwise fun s t => en s < t.1) (pB : B.Pairwise fun s t => en s < t.1) (h : fc A B = none) {s t : Spot} (hs : s ∈ both A B) (ht : t ∈ both A B) (hne : s ≠ t) (e : s.1 = t.1) : (s.2.1 = [] ∧ t.2.1 ≠ []) ∨ (s.2.1 ≠ [] ∧ t.2.1 = []) := by
  have e1 : en s = s.1 + s.2.1.length := rfl
  have e2 : en t = t.1 + t.2.1.length := rfl
  have t1 := both_le pA pB h hs ht hne
  have t2 := both_le pA pB h ht hs (Ne.symm hne)
  rcases Bool.or_eq_true _ _ ▸ leK_total s t with z | z
  · have := t1 z
    have hs0 : s.2.1 = [] := List.eq_nil_of_length_eq_zero (by omega)
    refine .inl ⟨hs0, fun q => ?_⟩
    have h0 : s.2.1.length = 0 := by rw [hs0]; rfl
    have h1 : t.2.1.length = 0 := by rw [q]; rfl
    exact both_two pA pB h hs ht hne e h0 h1
  · have := t2 z
    have ht0 : t.2.1 = [] := List.eq_nil_of_length_eq_zero (by omega)
    refine .inr ⟨fun q => ?_, ht0⟩
    have h0 : s.2.1.length = 0 := by rw [q]; rfl
    have h1 : t.2.1.length = 0 := by rw [ht0]; rfl
    exact both_two pA pB h hs ht hne e h0 h1
theorem le_spP {A B : List Spot} (pA : A.Pairwise fun s t => en s < t.1) (pB : B.Pairwise fun s t => en s < t.1) (h : fc A B = none) {s t : Spot} (hs : s ∈ both A B) (ht : t ∈ both A B) : dataLe false spP s t = leK s t := by
  show (!dataLt (spP t) (spP s)) = leK s t
  rw [lt_spP]
  have e1 : en s = s.1 + s.2.1.length := rfl
  have e2 : en t = t.1 + t.2.1.length := rfl
  unfold leK
  by_cases hne : s = t
  · subst hne
    rw [if_pos rfl, if_pos rfl, decide_eq_false (List.lt_irrefl _), decide_eq_true (by omega)]
    rfl
  by_cases e : s.1 = t.1
  · rw [if_pos e.symm]
    rcases both_same pA pB h hs ht hne e with ⟨z1, z2⟩ | ⟨z1, z2⟩
    · rw [if_neg (by rw [z1]; exact z2), z1, decide_eq_false (List.not_lt_nil _), decide_eq_true (by rw [e1, z1]; simp; omega)]
      rfl
    · have hl : 0 < s.2.1.length := List.length_pos_iff.mpr z1
      rw [if_neg (by rw [z2]; exact fun q => z1 q.symm), z2]
      obtain ⟨x, r, hx⟩ := List.exists_cons_of_ne_nil z1
      rw [hx, decide_eq_true (List.nil_lt_cons _ _), decide_eq_false (by rw [e1, e2, z2, hx]; simp; omega)]
      rfl
  · rw [if_neg (fun z => e z.symm)]
    by_cases l : s.1 < t.1
    · rw [decide_eq_false (by omega), decide_eq_true (by omega)]
      rfl
    · rw [decide_eq_true (by omega), decide_eq_false (by omega)]
      rfl
theorem sort_cong {α : Type} {le1 le2 : α → α → Bool} {l : List α} (h : ∀ a ∈ l, ∀ b ∈ l, le1 a b = le2 a b) : l.mergeSort le1 = l.mergeSort le2 := by
  have z := List.map_mergeSort (r := le1) (s := le2) (f := id) (l := l) h
  simpa using z
theorem sort_dat {len l1 l2 : Nat} {A B : List Spot} (hA : okS len l1 A) (hB : okS len l2 B) (h : fc A B = none) : (both A B).mergeSort (dataLe false spP) = (both A B).mergeSort leK :=
  sort_cong fun a ha b hb => le_spP (okS_pw hA) (okS_pw hB) h ha hb
/-- by begin and end -/
theorem sort_key (l : List Spot) : l.mergeSort (dataLe false fun s : Spot => .tuple [.int (s.1 : Int), .int ((s.1 : Int) + s.2.1.length)]) = l.mergeSort leK := by
  refine sort_cong fun a _ b _ => ?_
  rw [dataLe_ii (fun s : Spot => (s.1 : Int)) (fun s : Spot => (s.1 : Int) + s.2.1.length)]
  unfold leK en
  show decide (_ ∨ _) = decide _
  by_cases h : a.1 < b.1 ∨ (a.1 = b.1 ∧ a.1 + a.2.1.length ≤ b.1 + b.2.1.length)
  · rw [decide_eq_true h, decide_eq_true (by omega)]
  · rw [decide_eq_false h, decide_eq_false (by omega)]
end Pm

/-! Pm7: the row between two patches, as tables; what is walked of it. -/
namespace Pm
open PySem PySem.W PyProof.Rows
abbrev T1 := List (Nat × Nat × List Int)
abbrev T2 := List (Nat × Int)
def lkA {α : Type} (t : List (Nat × α)) (p : Nat) : Option α := (t.find? fun e => decide (e.1 = p)).map (·.2)
/-- a row by its places -/
def bp (b : Nat) : List Int → T2
  | [] => []
  | x :: r => (b, x) :: bp (b + 1) r
def cam (s : Int) : List Spot → T1
  | [] => []
  | (a, o, n) :: g => ((a + s).toNat, (a + s).toNat + n.length, o) :: cam (s + n.length - o.length) g
def pin (s : Int) : List Spot → T2
  | [] => []
  | (a, o, n) :: g => bp (a + s).toNat n ++ pin (s + n.length - o.length) g
def goe (B : List Spot) : T1 := B.map fun t => (t.1, t.1 + t.2.1.length, t.2.2)
def wan (B : List Spot) : T2 := B.flatMap fun t => bp t.1 t.2.1
theorem bp_len {b : Nat} {r : List Int} : (bp b r).length = r.length := by
  induction r generalizing b with
  | nil => rfl
  | cons x r ih => simp [bp, ih]
theorem bp_snoc {b : Nat} {r : List Int} {x : Int} : bp b (r ++ [x]) = bp b r ++ [(b + r.length, x)] := by
  induction r generalizing b with
  | nil => rfl
  | cons y r ih =>
    simp only [List.cons_append, bp, ih, List.length_cons]
    rw [show b + 1 + r.length = b + (r.length + 1) by omega]
theorem bp_mem {b : Nat} {r : List Int} : ∀ e ∈ bp b r, b ≤ e.1 ∧ e.1 < b + r.length := by
  induction r generalizing b with
  | nil => intro e h; exact nomatch h
  | cons x r ih =>
    intro e h
    rcases List.mem_cons.mp h with rfl | h
    · simp
    · have := ih e h
      simp only [List.length_cons]
      omega
theorem gr_app (A B : List Spot) : gr (A ++ B) = gr A + gr B := by simp [gr]
theorem gr_snoc (A : List Spot) (u : Spot) : gr (A ++ [u]) = gr A + ((u.2.2.length : Int) - u.2.1.length) := by
  rw [gr_app, gr_cons]
  simp [gr]
theorem cam_app : ∀ (A B : List Spot) (s : Int), cam s (A ++ B) = cam s A ++ cam (s + gr A) B
  | [], B, s => by simp [cam, gr]
  | (a, o, n) :: A, B, s => by
    simp only [List.cons_append, cam]
    rw [cam_app A B, gr_cons]
    simp only
    rw [show s + (n.length : Int) - o.length + gr A = s + ((n.length : Int) - o.length + gr A) by omega]
theorem pin_app : ∀ (A B : List Spot) (s : Int), pin s (A ++ B) = pin s A ++ pin (s + gr A) B
  | [], B, s => by simp [pin, gr]
  | (a, o, n) :: A, B, s => by
    simp only [List.cons_append, pin, List.append_assoc]
    rw [pin_app A B, gr_cons]
    simp only
    rw [show s + (n.length : Int) - o.length + gr A = s + ((n.length : Int) - o.length + gr A) by omega]
/-- all that stands ahead of a place -/
theorem cam_lt {len : Nat} : ∀ {A : List Spot} {l i : Nat} {s : Int} {a : Nat} {o n : List Int}, okS len l A → 0 ≤ (l : Int) + s → A[i]? = some (a, o, n) →
    0 ≤ (a : Int) + s + gr (A.take i) ∧ (l : Int) + s ≤ (a : Int) + s + gr (A.take i) ∧ (∀ e ∈ cam s (A.take i), (e.2.1 : Int) < a + s + gr (A.take i) ∧ e.1 ≤ e.2.1) ∧ ∀ e ∈ pin s (A.take i), (e.1 : Int) < a + s + gr (A.take i)
  | [], _, _, _, _, _, _, _, _, h => by simp at h
  | (a0, o0, n0) :: A, l, 0, s, a, o, n, h, hs, e => by
    simp at e
    obtain ⟨rfl, rfl, rfl⟩ := e
    obtain ⟨h1, _⟩ := h
    refine ⟨?_, ?_, (fun e he => by simp [cam] at he), (fun e he => by simp [pin] at he)⟩ <;> simp [gr] <;> omega
  | (a0, o0, n0) :: A, l, i + 1, s, a, o, n, h, hs, e => by
    obtain ⟨h1, h2, h3, _, _, h4⟩ := h
    have e' : A[i]? = some (a, o, n) := by simpa using e
    obtain ⟨i1, i2, i3, i4⟩ := cam_lt (l := a0 + o0.length + 1) (i := i) (s := s + n0.length - o0.length) h4 (by omega) e'
    have hg : gr (((a0, o0, n0) :: A).take (i + 1)) = (n0.length : Int) - o0.length + gr (A.take i) := by
      rw [List.take_succ_cons, gr_cons]
    rw [hg]
    refine ⟨by omega, by omega, fun e he => ?_, fun e he => ?_⟩
    · rw [List.take_succ_cons] at he
      unfold cam at he
      rcases List.mem_cons.mp he with rfl | he
      · simp only
        omega
      · have := i3 e he
        omega
    · rw [List.take_succ_cons] at he
      unfold pin at he
      rcases List.mem_append.mp he with he | he
      · have := bp_mem e he
        omega
      · have := i4 e he
        omega
theorem goe_lt {len : Nat} : ∀ {A : List Spot} {l i : Nat} {a : Nat} {o n : List Int}, okS len l A → A[i]? = some (a, o, n) →
    l ≤ a ∧ (∀ e ∈ goe (A.take i), e.2.1 < a ∧ e.1 ≤ e.2.1) ∧ ∀ e ∈ wan (A.take i), e.1 < a
  | [], _, _, _, _, _, _, h => by simp at h
  | (a0, o0, n0) :: A, l, 0, a, o, n, h, e => by
    simp at e
    obtain ⟨rfl, rfl, rfl⟩ := e
    exact ⟨h.1, (fun e he => by simp [goe] at he), (fun e he => by simp [wan] at he)⟩
  | (a0, o0, n0) :: A, l, i + 1, a, o, n, h, e => by
    obtain ⟨h1, h2, h3, _, _, h4⟩ := h
    have e' : A[i]? = some (a, o, n) := by simpa using e
    obtain ⟨i2, i3, i4⟩ := goe_lt (l := a0 + o0.length + 1) (i := i) h4 e'
    refine ⟨by omega, fun e he => ?_, fun e he => ?_⟩
    · rw [List.take_succ_cons] at he
      rcases List.mem_cons.mp he with rfl | he
      · simp only
        omega
      · exact i3 e he
    · rw [List.take_succ_cons] at he
      rcases List.mem_append.mp (show e ∈ bp a0 o0 ++ wan (A.take i) from he) with he | he
      · have := bp_mem e he
        omega
      · exact i4 e he
/-! ### what is walked -/
/-- from at to e, or none where a byte isn't known -/
def walkO (T : T1) (U : T2) (e : Nat) : Nat → Nat → Option (List Int)
  | 0, at_ => if e < at_ then some [] else none
  | f + 1, at_ => if e < at_ then some [] else
    match lkA T at_ with
    | some (x, o) => if x < e then (lkA U x).bind fun y => (walkO T U e f (x + 1)).map fun r => o ++ y :: r else (walkO T U e f (x + 1)).map fun r => o ++ r
    | none => if at_ < e then (lkA U at_).bind fun y => (walkO T U e f (at_ + 1)).map fun r => y :: r else walkO T U e f (at_ + 1)
def walk (T : T1) (U : T2) (b e : Nat) : Option (List Int) := walkO T U e (e + 1 - b) b
/-! ### the spans -/
def leQ (p q : Nat × Nat) : Bool := decide (p.1 < q.1 ∨ (p.1 = q.1 ∧ p.2 ≤ q.2))
def stepQ (w : List (Nat × Nat)) (p : Nat × Nat) : List (Nat × Nat) := match w.getLast? with
  | some (f, l) => if p.1 ≤ l then w.dropLast ++ [(f, max l p.2)] else w ++ [p]
  | none => w ++ [p]
def ends (T : T1) : List (Nat × Nat) := T.map fun e => (e.1, e.2.1)
def spansF (I : List (Nat × Nat)) : List (Nat × Nat) := (I.mergeSort leQ).foldl stepQ []
theorem stepQ_snoc {w : List (Nat × Nat)} {t p : Nat × Nat} : stepQ (w ++ [t]) p = if p.1 ≤ t.2 then w ++ [(t.1, max t.2 p.2)] else w ++ [t] ++ [p] := by
  obtain ⟨a, b⟩ := t
  simp [stepQ]
theorem stepQ_len (w : List (Nat × Nat)) (p : Nat × Nat) : (stepQ w p).length ≤ w.length + 1 := by
  rcases List.eq_nil_or_concat w with rfl | ⟨w, t, rfl⟩
  · simp [stepQ]
  · rw [List.concat_eq_append, stepQ_snoc]
    split <;> simp
theorem foldQ_len : ∀ (I w : List (Nat × Nat)), (I.foldl stepQ w).length ≤ w.length + I.length
  | [], w => by simp
  | p :: I, w => by
    have h := foldQ_len I (stepQ w p)
    have g := stepQ_len w p
    simp only [List.foldl_cons, List.length_cons]
    omega
def pairT (p : Nat × Nat) : PyData := .tuple [.int p.1, .int p.2]
theorem sort_pairs (l : List (Nat × Nat)) : l.mergeSort (dataLe false pairT) = l.mergeSort leQ := by
  refine sort_cong fun a _ b _ => ?_
  unfold pairT
  rw [dataLe_ii (fun s : Nat × Nat => (s.1 : Int)) (fun s : Nat × Nat => (s.2 : Int))]
  unfold leQ
  show decide (_ ∨ _) = decide _
  by_cases h : a.1 < b.1 ∨ (a.1 = b.1 ∧ a.2 ≤ b.2)
  · rw [decide_eq_true h, decide_eq_true (by omega)]
  · rw [decide_eq_false h, decide_eq_false (by omega)]
/-! ### a spot, by the row between -/
def grW (b : Nat) (T : T1) : Int := ((T.filter fun e => decide (e.2.1 < b)).map fun e => (e.2.1 : Int) - e.1 - e.2.2.length).sum
def spotO (A B : List Spot) (p : Nat × Nat) : Option (Int × List Int × List Int) :=
  (walk (cam 0 A) (wan B) p.1 p.2).bind fun o => (walk (goe B) (pin 0 A) p.1 p.2).map fun n => ((p.1 : Int) - grW p.1 (cam 0 A), o, n)
def unl (A B : List Spot) : List Nat := ((pin 0 A).filter fun e => decide ((lkA (wan B) e.1).getD e.2 ≠ e.2)).map (·.1)
def spansOf (A B : List Spot) : List (Nat × Nat) := spansF (ends (cam 0 A) ++ ends (goe B))
def big (s : Int × List Int × List Int) : Bool := decide (0 < s.2.1.length + s.2.2.length)
end Pm

/-! Pm8: rows fitted in pieces; what is walked of the row between; the spans. -/
namespace Pm
open PySem PySem.W PyProof.Rows
theorem en_def (s : Spot) : en s = s.1 + s.2.1.length := rfl
theorem okS_iff {n l : Nat} {g : List Spot} : okS n l g ↔ (∀ s ∈ g, okO n s) ∧ (∀ s ∈ g, l ≤ s.1) ∧ g.Pairwise fun s t => en s < t.1 :=
  ⟨fun h => ⟨okS_each h, okS_ge h, okS_pw h⟩, fun ⟨a, b, c⟩ => okS_of a b c⟩
/-! ### rows fitted in pieces -/
theorem fit_from {u : List Int} {e m : Nat} (h : e ≤ m) (hm : m ≤ u.length) : ∀ {S : List Spot}, (∀ s ∈ S.head?, m ≤ s.1) → fitF u e S = (u.drop e).take (m - e) ++ fitF u m S
  | [], _ => by
    unfold fitF
    rw [show u.drop m = (u.drop e).drop (m - e) by rw [List.drop_drop]; congr 1; omega, List.take_append_drop]
  | (a, o, n) :: g, hs => by
    have ha : m ≤ a := hs (a, o, n) rfl
    unfold fitF
    rw [← List.append_assoc, ← List.append_assoc]
    congr 2
    rw [show a - e = (m - e) + (a - m) by omega, List.take_add, List.drop_drop, show e + (m - e) = m by omega]
theorem fit_len {n : Nat} {u : List Int} : ∀ {S : List Spot} {l e : Nat}, okS n l S → e ≤ l → u.length = n → e ≤ n → ((fitF u e S).length : Int) = (n : Int) - e + gr S
  | [], l, e, _, _, hu, he => by
    simp [fitF, gr, hu]
    omega
  | (a, o, m) :: g, l, e, h, hl, hu, he => by
    obtain ⟨h1, h2, h3, _, _, h4⟩ := h
    have ih := fit_len (u := u) (e := a + o.length) h4 (by omega) hu h2
    unfold fitF
    rw [gr_cons]
    simp only [List.length_append, List.length_take, List.length_drop, hu]
    omega
theorem fit_split {u : List Int} {e : Nat} (he : e ≤ u.length) {P2 : List Spot} (h2 : ∀ s ∈ P2.head?, e ≤ s.1) : ∀ {P1 : List Spot} {b : Nat}, b ≤ e → okS e b P1 → fitF u b (P1 ++ P2) = fitF (u.take e) b P1 ++ fitF u e P2
  | [], b, hb, _ => by
    rw [List.nil_append, fit_from hb he h2]
    unfold fitF
    rw [List.drop_take]
  | (a, o, n) :: g, b, hb, h => by
    obtain ⟨h1, h3, _, _, _, h4⟩ := h
    rw [List.cons_append]
    show (u.drop b).take (a - b) ++ n ++ fitF u (a + o.length) (g ++ P2) = (((u.take e).drop b).take (a - b) ++ n ++ fitF (u.take e) (a + o.length) g) ++ fitF u e P2
    have ih := fit_split (u := u) he h2 (P1 := g) (b := a + o.length) h3 (okS_mono2 h4)
    rw [ih, List.drop_take, List.take_take, Nat.min_eq_left (by omega)]
    simp only [List.append_assoc]
where
  okS_mono2 {n l : Nat} {g : List Spot} (h : okS n (l + 1) g) : okS n l g := by
    obtain ⟨a, b, c⟩ := okS_iff.mp h
    exact okS_iff.mpr ⟨a, fun s hs => Nat.le_of_succ_le (b s hs), c⟩
theorem okS_lower {n l k : Nat} {g : List Spot} (hk : k ≤ l) (h : okS n l g) : okS n k g := by
  obtain ⟨a, b, c⟩ := okS_iff.mp h
  exact okS_iff.mpr ⟨a, fun s hs => Nat.le_trans hk (b s hs), c⟩
theorem okS_app {n l : Nat} {A B : List Spot} (h : okS n l (A ++ B)) : okS n l A ∧ okS n l B ∧ ∀ s ∈ A, ∀ t ∈ B, en s < t.1 := by
  obtain ⟨a, b, c⟩ := okS_iff.mp h
  have p := List.pairwise_append.mp c
  exact ⟨okS_iff.mpr ⟨fun s hs => a s (List.mem_append_left _ hs), fun s hs => b s (List.mem_append_left _ hs), p.1⟩, okS_iff.mpr ⟨fun s hs => a s (List.mem_append_right _ hs), fun s hs => b s (List.mem_append_right _ hs), p.2.1⟩, p.2.2⟩
/-! ### tables looked up -/
theorem lkA_none {α : Type} {p : Nat} : ∀ {T : List (Nat × α)}, (∀ t ∈ T, t.1 ≠ p) → lkA T p = none
  | [], _ => rfl
  | t :: T, h => by
    unfold lkA
    rw [List.find?_cons, decide_eq_false (h t List.mem_cons_self)]
    exact lkA_none fun x hx => h x (List.mem_cons_of_mem _ hx)
theorem lkA_skip {α : Type} {p : Nat} {T2 : List (Nat × α)} : ∀ {T : List (Nat × α)}, (∀ t ∈ T, t.1 ≠ p) → lkA (T ++ T2) p = lkA T2 p
  | [], _ => rfl
  | t :: T, h => by
    rw [List.cons_append]
    unfold lkA
    rw [List.find?_cons, decide_eq_false (h t List.mem_cons_self)]
    exact lkA_skip fun x hx => h x (List.mem_cons_of_mem _ hx)
theorem lkA_hd {α : Type} {p : Nat} {x : α} {T : List (Nat × α)} : lkA ((p, x) :: T) p = some x := by
  unfold lkA
  rw [List.find?_cons, decide_eq_true rfl]
  rfl
theorem lkA_left {α : Type} {p : Nat} {x : α} {T2 : List (Nat × α)} : ∀ {T : List (Nat × α)}, lkA T p = some x → lkA (T ++ T2) p = some x
  | [], h => by simp [lkA] at h
  | t :: T, h => by
    rw [List.cons_append]
    unfold lkA at h ⊢
    rw [List.find?_cons] at h ⊢
    by_cases e : t.1 = p
    · rw [decide_eq_true e] at h ⊢
      exact h
    · rw [decide_eq_false e] at h ⊢
      exact lkA_left h
theorem lkA_bp {r : List Int} {b p : Nat} (h1 : b ≤ p) (h2 : p < b + r.length) : lkA (bp b r) p = r[p - b]? := by
  induction r generalizing b with
  | nil => simp at h2; omega
  | cons x r ih =>
    by_cases e : b = p
    · subst e
      unfold bp
      rw [lkA_hd]
      simp
    · unfold bp
      have := ih (b := b + 1) (by omega) (by simp at h2; omega)
      have hs : lkA ((b, x) :: bp (b + 1) r) p = lkA (bp (b + 1) r) p := lkA_skip (T := [(b, x)]) (by simpa using e)
      rw [hs, this, show p - b = (p - (b + 1)) + 1 by omega]
      simp
/-- the bytes of spots, of a row that has them -/
theorem wan_at {n : Nat} {u : List Int} : ∀ {B : List Spot} {l : Nat}, okS n l B → (∀ s ∈ B, hasO u s) → ∀ s ∈ B, ∀ p, s.1 ≤ p → p < en s → lkA (wan B) p = u[p]?
  | [], _, _, _, s, h => nomatch h
  | (a, o, m) :: B, l, h, hO, s, hs => by
    intro p hp1 hp2
    obtain ⟨h1, h2, h3, _, _, h4⟩ := h
    have e : wan ((a, o, m) :: B) = bp a o ++ wan B := rfl
    rw [e]
    rcases List.mem_cons.mp hs with rfl | hs
    · have hlt : p < a + o.length := hp2
      have h5 := hO (a, o, m) List.mem_cons_self (p - a) (by simp only at *; omega)
      simp only at h5 hp1
      rw [show a + (p - a) = p by omega] at h5
      have h6 := lkA_bp hp1 hlt
      have hsome : (o[p - a]?) = some (o[p - a]'(by omega)) := List.getElem?_eq_getElem (by omega)
      rw [hsome] at h6 h5
      rw [lkA_left h6, h5]
    · have hge := okS_ge h4 s hs
      rw [lkA_skip (fun t ht => by have := bp_mem t ht; omega)]
      exact wan_at h4 (fun s hs => hO s (List.mem_cons_of_mem _ hs)) s hs p hp1 hp2
/-! ### what is walked -/
theorem goe_key {P : List Spot} : ∀ t ∈ goe P, ∃ s ∈ P, t = (s.1, en s, s.2.2) := fun t h => by
  obtain ⟨s, hs, rfl⟩ := List.mem_map.mp h
  exact ⟨s, hs, rfl⟩
theorem drop_one {u : List Int} {a : Nat} (h : a < u.length) : (u.drop a).take (a + 1 - a) = [u[a]] := by
  rw [show a + 1 - a = 1 by omega, List.drop_eq_getElem_cons h]
  rfl
theorem walk_img {u : List Int} {U : T2} {e : Nat} (he : e ≤ u.length) {P2 : List Spot} (h2 : ∀ s ∈ P2, e < s.1) : ∀ {f a : Nat} {P0 P1 : List Spot}, (∀ s ∈ P0, s.1 < a) → okS e a P1 → e + 1 - a ≤ f →
    (∀ p, a ≤ p → p < e → (∃ s ∈ P1, s.1 ≤ p ∧ p < en s) ∨ lkA U p = u[p]?) → walkO (goe (P0 ++ P1 ++ P2)) U e f a = some (fitF (u.take e) a P1) := by
  intro f
  have past : ∀ {f a : Nat} {P1 : List Spot} {T : T1}, e < a → okS e a P1 → walkO T U e f a = some (fitF (u.take e) a P1) := fun {f a P1 T} hea hok => by
    have hp : P1 = [] := by
      cases P1 with
      | nil => rfl
      | cons t g =>
        have := okS_ge hok t List.mem_cons_self
        have := (okS_each hok t List.mem_cons_self).1
        have := en_def t
        omega
    subst hp
    have hd : fitF (u.take e) a [] = [] := by
      unfold fitF
      rw [List.drop_eq_nil_of_le]
      rw [List.length_take]
      omega
    rw [hd]
    cases f with
    | zero => unfold walkO; rw [if_pos hea]
    | succ f => unfold walkO; rw [if_pos hea]
  induction f with
  | zero =>
    intro a P0 P1 h0 hok hf hc
    exact past (by omega) hok
  | succ f ih =>
    intro a P0 P1 h0 hok hf hc
    by_cases hea : e < a
    · exact past hea hok
    · have eg : goe (P0 ++ P1 ++ P2) = goe P0 ++ (goe P1 ++ goe P2) := by simp [goe]
      have k0 : ∀ t ∈ goe P0, t.1 ≠ a := fun t ht => by
        obtain ⟨s, hs, rfl⟩ := goe_key t ht
        have := h0 s hs
        simp only
        omega
      have k2 : ∀ t ∈ goe P2, t.1 ≠ a := fun t ht => by
        obtain ⟨s, hs, rfl⟩ := goe_key t ht
        have := h2 s hs
        simp only
        omega
      have plain : (∀ s ∈ P1, a < s.1) → walkO (goe (P0 ++ P1 ++ P2)) U e (f + 1) a = some (fitF (u.take e) a P1) := fun hgt => by
        have k1 : ∀ t ∈ goe P1, t.1 ≠ a := fun t ht => by
          obtain ⟨s, hs, rfl⟩ := goe_key t ht
          have := hgt s hs
          simp only
          omega
        have hl : lkA (goe (P0 ++ P1 ++ P2)) a = none := by
          rw [eg, lkA_skip k0, lkA_skip k1]
          exact lkA_none k2
        have hok' : okS e (a + 1) P1 := by
          obtain ⟨x, y, z⟩ := okS_iff.mp hok
          exact okS_iff.mpr ⟨x, fun s hs => hgt s hs, z⟩
        have hr := ih (P0 := P0) (P1 := P1) (a := a + 1) (fun s hs => Nat.lt_succ_of_lt (h0 s hs)) hok' (by omega) fun p hp1 hp2 => hc p (by omega) hp2
        unfold walkO
        rw [if_neg hea, hl]
        simp only
        by_cases hae : a < e
        · rw [if_pos hae]
          have hU : lkA U a = u[a]? := by
            rcases hc a (Nat.le_refl _) hae with ⟨s, hs, z1, z2⟩ | z
            · have := hgt s hs
              omega
            · exact z
          have hal : a < (u.take e).length := by rw [List.length_take]; omega
          rw [hU, List.getElem?_eq_getElem (by omega)]
          rw [fit_from (u := u.take e) (e := a) (m := a + 1) (by omega) (by omega) (fun s hs => hgt s (List.mem_of_mem_head? hs)), drop_one hal]
          show (walkO (goe (P0 ++ P1 ++ P2)) U e f (a + 1)).map _ = _
          rw [hr]
          simp
        · rw [if_neg hae, hr]
          have hp : P1 = [] := by
            cases P1 with
            | nil => rfl
            | cons t g =>
              have := hgt t List.mem_cons_self
              have := (okS_each hok t List.mem_cons_self).1
              have := en_def t
              omega
          subst hp
          unfold fitF
          rw [List.drop_eq_nil_of_le (by rw [List.length_take]; omega), List.drop_eq_nil_of_le (by rw [List.length_take]; omega)]
      cases P1 with
      | nil => exact plain fun s hs => nomatch hs
      | cons t g =>
        obtain ⟨b, o, n⟩ := t
        have hab : a ≤ b := okS_ge hok (b, o, n) List.mem_cons_self
        by_cases hb : a = b
        · subst hb
          have hl : lkA (goe (P0 ++ (a, o, n) :: g ++ P2)) a = some (a + o.length, n) := by
            have e2 : goe (P0 ++ (a, o, n) :: g ++ P2) = goe P0 ++ ((a, a + o.length, n) :: (goe g ++ goe P2)) := by simp [goe]
            rw [e2, lkA_skip k0]
            exact lkA_hd
          obtain ⟨q1, q2, q3, _, _, q4⟩ := hok
          have hfit : fitF (u.take e) a ((a, o, n) :: g) = n ++ fitF (u.take e) (a + o.length) g := by
            rw [fitF, Nat.sub_self, List.take_zero, List.nil_append]
          have e3 : P0 ++ (a, o, n) :: g ++ P2 = (P0 ++ [(a, o, n)]) ++ g ++ P2 := by simp
          have hr := ih (P0 := P0 ++ [(a, o, n)]) (P1 := g) (a := a + o.length + 1) (fun s hs => by
            rcases List.mem_append.mp hs with hs | hs
            · have := h0 s hs
              omega
            · rw [List.mem_singleton.mp hs]
              simp only
              omega) q4 (by omega) fun p hp1 hp2 => by
            rcases hc p (by omega) hp2 with ⟨s, hs, z1, z2⟩ | z
            · rcases List.mem_cons.mp hs with rfl | hs
              · have : p < a + o.length := z2
                omega
              · exact .inl ⟨s, hs, z1, z2⟩
            · exact .inr z
          rw [← e3] at hr
          unfold walkO
          rw [if_neg hea, hl]
          simp only
          rw [hfit]
          by_cases hx : a + o.length < e
          · rw [if_pos hx]
            have hU : lkA U (a + o.length) = u[a + o.length]? := by
              rcases hc (a + o.length) (by omega) hx with ⟨s, hs, z1, z2⟩ | z
              · rcases List.mem_cons.mp hs with rfl | hs
                · have : a + o.length < a + o.length := z2
                  omega
                · have := okS_ge q4 s hs
                  omega
              · exact z
            have hal : a + o.length < (u.take e).length := by rw [List.length_take]; omega
            rw [hU, List.getElem?_eq_getElem (by omega)]
            rw [fit_from (u := u.take e) (e := a + o.length) (m := a + o.length + 1) (by omega) (by omega) (fun s hs => okS_ge q4 s (List.mem_of_mem_head? hs)), drop_one hal]
            show (walkO (goe (P0 ++ (a, o, n) :: g ++ P2)) U e f (a + o.length + 1)).map _ = _
            rw [hr]
            simp
          · rw [if_neg hx, hr]
            have hp : g = [] := by
              cases g with
              | nil => rfl
              | cons t g =>
                have := okS_ge q4 t List.mem_cons_self
                have := (okS_each q4 t List.mem_cons_self).1
                have := en_def t
                omega
            subst hp
            unfold fitF
            rw [List.drop_eq_nil_of_le (by rw [List.length_take]; omega), List.drop_eq_nil_of_le (by rw [List.length_take]; omega)]
            rfl
        · exact plain fun s hs => by
            rcases List.mem_cons.mp hs with rfl | hs
            · simp only
              omega
            · have := okS_pw hok
              have := List.rel_of_pairwise_cons this hs
              have := en_def (b, o, n)
              simp only at *
              omega
end Pm

/-! Pm9: the spans; two patches of one row, taken apart by them. -/
namespace Pm
open PySem PySem.W PyProof.Rows
structure SpP (I R : List (Nat × Nat)) : Prop where
  pw : R.Pairwise fun p q => p.2 < q.1
  le : ∀ r ∈ R, r.1 ≤ r.2
  ins : ∀ i ∈ I, ∃ r ∈ R, r.1 ≤ i.1 ∧ i.2 ≤ r.2
  cov : ∀ r ∈ R, ∀ t, r.1 ≤ t → t < r.2 → ∃ i ∈ I, i.1 ≤ t ∧ t < i.2
  beg : ∀ r ∈ R, ∃ i ∈ I, i.1 = r.1
  fin : ∀ r ∈ R, ∃ i ∈ I, i.2 = r.2
theorem SpP.mem {I J R : List (Nat × Nat)} (h : ∀ i, i ∈ I ↔ i ∈ J) (s : SpP I R) : SpP J R :=
  ⟨s.pw, s.le, fun i hi => s.ins i ((h i).mpr hi), fun r hr t h1 h2 => let ⟨i, a, b⟩ := s.cov r hr t h1 h2; ⟨i, (h i).mp a, b⟩, fun r hr => let ⟨i, a, b⟩ := s.beg r hr; ⟨i, (h i).mp a, b⟩, fun r hr => let ⟨i, a, b⟩ := s.fin r hr; ⟨i, (h i).mp a, b⟩⟩
theorem SpP.step {I w : List (Nat × Nat)} {p : Nat × Nat} (s : SpP I w) (hp : p.1 ≤ p.2) (hI : ∀ i ∈ I, i.1 ≤ p.1) : SpP (I ++ [p]) (stepQ w p) := by
  have up : ∀ {i : Nat × Nat}, i ∈ I → i ∈ I ++ [p] := fun h => List.mem_append_left _ h
  have pin : p ∈ I ++ [p] := by simp
  rcases List.eq_nil_or_concat w with rfl | ⟨w, t, rfl⟩
  · have hI0 : ∀ i ∈ I, False := fun i hi => by
      obtain ⟨r, hr, _⟩ := s.ins i hi
      exact nomatch hr
    refine ⟨by simp [stepQ], ?_, ?_, ?_, ?_, ?_⟩
    · intro r hr
      simp [stepQ] at hr
      subst hr
      exact hp
    · intro i hi
      rcases List.mem_append.mp hi with hi | hi
      · exact (hI0 i hi).elim
      · rw [List.mem_singleton.mp hi]
        exact ⟨p, by simp [stepQ], Nat.le_refl _, Nat.le_refl _⟩
    · intro r hr t h1 h2
      simp [stepQ] at hr
      subst hr
      exact ⟨r, pin, h1, h2⟩
    · intro r hr
      simp [stepQ] at hr
      subst hr
      exact ⟨r, pin, rfl⟩
    · intro r hr
      simp [stepQ] at hr
      subst hr
      exact ⟨r, pin, rfl⟩
  · rw [List.concat_eq_append] at *
    rw [stepQ_snoc]
    have tin : t ∈ w ++ [t] := by simp
    have ht := s.le t tin
    obtain ⟨i0, hi0, e0⟩ := s.beg t tin
    have htp : t.1 ≤ p.1 := by rw [← e0]; exact hI i0 hi0
    have pw := List.pairwise_append.mp s.pw
    have wt : ∀ r ∈ w, r.2 < t.1 := fun r hr => pw.2.2 r hr t (by simp)
    split
    · rename_i hle
      refine ⟨?_, ?_, ?_, ?_, ?_, ?_⟩
      · refine List.pairwise_append.mpr ⟨pw.1, by simp, fun r hr q hq => ?_⟩
        rw [List.mem_singleton.mp hq]
        exact wt r hr
      · intro r hr
        rcases List.mem_append.mp hr with hr | hr
        · exact s.le r (List.mem_append_left _ hr)
        · rw [List.mem_singleton.mp hr]
          simp only
          omega
      · intro i hi
        rcases List.mem_append.mp hi with hi | hi
        · obtain ⟨r, hr, a, b⟩ := s.ins i hi
          rcases List.mem_append.mp hr with hr | hr
          · exact ⟨r, List.mem_append_left _ hr, a, b⟩
          · rw [List.mem_singleton.mp hr] at a b
            exact ⟨(t.1, max t.2 p.2), by simp, a, by simp only; omega⟩
        · rw [List.mem_singleton.mp hi]
          exact ⟨(t.1, max t.2 p.2), by simp, htp, by simp only; omega⟩
      · intro r hr x h1 h2
        rcases List.mem_append.mp hr with hr | hr
        · obtain ⟨i, a, b⟩ := s.cov r (List.mem_append_left _ hr) x h1 h2
          exact ⟨i, up a, b⟩
        · rw [List.mem_singleton.mp hr] at h1 h2
          simp only at h1 h2
          by_cases hx : x < t.2
          · obtain ⟨i, a, b⟩ := s.cov t tin x h1 hx
            exact ⟨i, up a, b⟩
          · exact ⟨p, pin, by omega, by omega⟩
      · intro r hr
        rcases List.mem_append.mp hr with hr | hr
        · obtain ⟨i, a, b⟩ := s.beg r (List.mem_append_left _ hr)
          exact ⟨i, up a, b⟩
        · rw [List.mem_singleton.mp hr]
          exact ⟨i0, up hi0, e0⟩
      · intro r hr
        rcases List.mem_append.mp hr with hr | hr
        · obtain ⟨i, a, b⟩ := s.fin r (List.mem_append_left _ hr)
          exact ⟨i, up a, b⟩
        · rw [List.mem_singleton.mp hr]
          obtain ⟨i, a, b⟩ := s.fin t tin
          by_cases hm : t.2 ≤ p.2
          · exact ⟨p, pin, by simp only; omega⟩
          · exact ⟨i, up a, by simp only; omega⟩
    · rename_i hle
      refine ⟨?_, ?_, ?_, ?_, ?_, ?_⟩
      · refine List.pairwise_append.mpr ⟨s.pw, by simp, fun r hr q hq => ?_⟩
        rw [List.mem_singleton.mp hq]
        rcases List.mem_append.mp hr with hr | hr
        · have := wt r hr
          omega
        · rw [List.mem_singleton.mp hr]
          omega
      · intro r hr
        rcases List.mem_append.mp hr with hr | hr
        · exact s.le r hr
        · rw [List.mem_singleton.mp hr]
          exact hp
      · intro i hi
        rcases List.mem_append.mp hi with hi | hi
        · obtain ⟨r, hr, a, b⟩ := s.ins i hi
          exact ⟨r, List.mem_append_left _ hr, a, b⟩
        · rw [List.mem_singleton.mp hi]
          exact ⟨p, by simp, Nat.le_refl _, Nat.le_refl _⟩
      · intro r hr x h1 h2
        rcases List.mem_append.mp hr with hr | hr
        · obtain ⟨i, a, b⟩ := s.cov r hr x h1 h2
          exact ⟨i, up a, b⟩
        · rw [List.mem_singleton.mp hr] at h1 h2
          exact ⟨p, pin, h1, h2⟩
      · intro r hr
        rcases List.mem_append.mp hr with hr | hr
        · obtain ⟨i, a, b⟩ := s.beg r hr
          exact ⟨i, up a, b⟩
        · rw [List.mem_singleton.mp hr]
          exact ⟨p, pin, rfl⟩
      · intro r hr
        rcases List.mem_append.mp hr with hr | hr
        · obtain ⟨i, a, b⟩ := s.fin r hr
          exact ⟨i, up a, b⟩
        · rw [List.mem_singleton.mp hr]
          exact ⟨p, pin, rfl⟩
theorem SpP.fold : ∀ {J I w : List (Nat × Nat)}, SpP I w → (∀ j ∈ J, j.1 ≤ j.2) → (∀ i ∈ I, ∀ j ∈ J, i.1 ≤ j.1) → (J.Pairwise fun i j => i.1 ≤ j.1) → SpP (I ++ J) (J.foldl stepQ w)
  | [], I, w, s, _, _, _ => by simpa using s
  | p :: J, I, w, s, h1, h2, h3 => by
    have h4 := List.pairwise_cons.mp h3
    have z := SpP.fold (s.step (h1 p List.mem_cons_self) fun i hi => h2 i hi p List.mem_cons_self) (fun j hj => h1 j (List.mem_cons_of_mem _ hj)) (fun i hi j hj => by
      rcases List.mem_append.mp hi with hi | hi
      · exact h2 i hi j (List.mem_cons_of_mem _ hj)
      · rw [List.mem_singleton.mp hi]
        exact h4.1 j hj) h4.2
    rw [List.append_assoc] at z
    exact z
theorem spans_sp {I : List (Nat × Nat)} (h : ∀ i ∈ I, i.1 ≤ i.2) : SpP I (spansF I) := by
  have p1 : (I.mergeSort leQ).Perm I := List.mergeSort_perm _ _
  have p2 : (I.mergeSort leQ).Pairwise fun a b => leQ a b = true := List.pairwise_mergeSort (fun a b c h g => by simp only [leQ, decide_eq_true_eq] at *; omega) (fun a b => by simp only [leQ, Bool.or_eq_true, decide_eq_true_eq]; omega) _
  have z := SpP.fold (I := []) (w := []) (J := I.mergeSort leQ) ⟨.nil, (fun _ h => nomatch h), (fun _ h => nomatch h), (fun _ h => nomatch h), (fun _ h => nomatch h), (fun _ h => nomatch h)⟩ (fun j hj => h j (p1.mem_iff.mp hj)) (fun _ h => nomatch h) (p2.imp fun {a b} hab => by simp only [leQ, decide_eq_true_eq] at hab; omega)
  exact z.mem fun i => by rw [List.nil_append]; exact p1.mem_iff
/-! ### taken apart -/
abbrev Seg := Nat × Nat × List Spot × List Spot
def Dec (l : Nat) : Nat → Nat → List Seg → List Spot → List Spot → Prop
  | m, k, [], P, Q => P = [] ∧ Q = [] ∧ m ≤ l
  | m, k, (b, e, P1, Q1) :: L, P, Q => m ≤ k ∧ k ≤ b ∧ b ≤ e ∧ e ≤ l ∧ okS e b P1 ∧ okS e b Q1 ∧ (∀ p, b ≤ p → p < e → (∃ s ∈ P1, s.1 ≤ p ∧ p < en s) ∨ ∃ s ∈ Q1, s.1 ≤ p ∧ p < en s) ∧
    ∃ P2 Q2, P = P1 ++ P2 ∧ Q = Q1 ++ Q2 ∧ (∀ s ∈ P2, e < s.1) ∧ (∀ s ∈ Q2, e < s.1) ∧ Dec l e (e + 1) L P2 Q2
def ivs (P : List Spot) : List (Nat × Nat) := P.map fun s => (s.1, en s)
theorem split_at {l : Nat} (e : Nat) : ∀ {P : List Spot} {k : Nat}, okS l k P → ∃ P1 P2, P = P1 ++ P2 ∧ (∀ s ∈ P1, s.1 ≤ e) ∧ ∀ s ∈ P2, e < s.1
  | [], k, _ => ⟨[], [], rfl, (fun _ h => nomatch h), (fun _ h => nomatch h)⟩
  | (a, o, n) :: g, k, h => by
    by_cases ha : a ≤ e
    · obtain ⟨P1, P2, e1, h1, h2⟩ := split_at e h.2.2.2.2.2
      refine ⟨(a, o, n) :: P1, P2, by rw [e1]; rfl, fun s hs => ?_, h2⟩
      rcases List.mem_cons.mp hs with rfl | hs
      · exact ha
      · exact h1 s hs
    · refine ⟨[], (a, o, n) :: g, rfl, (fun _ h => nomatch h), fun s hs => ?_⟩
      rcases List.mem_cons.mp hs with rfl | hs
      · show e < a
        omega
      · have := List.rel_of_pairwise_cons (okS_pw h) hs
        have := en_def (a, o, n)
        simp only at *
        omega
theorem dec_mk {l : Nat} : ∀ {R : List (Nat × Nat)} {P Q : List Spot} {m k : Nat}, m ≤ k → m ≤ l → okS l k P → okS l k Q → SpP (ivs P ++ ivs Q) R → ∃ L : List Seg, Dec l m k L P Q ∧ L.map (fun s => (s.1, s.2.1)) = R
  | [], P, Q, m, k, hmk, hml, hP, hQ, sp => by
    refine ⟨[], ⟨?_, ?_, hml⟩, rfl⟩
    · cases P with
      | nil => rfl
      | cons s g =>
        obtain ⟨r, hr, _⟩ := sp.ins (s.1, en s) (by simp [ivs])
        exact nomatch hr
    · cases Q with
      | nil => rfl
      | cons s g =>
        obtain ⟨r, hr, _⟩ := sp.ins (s.1, en s) (by simp [ivs])
        exact nomatch hr
  | (b, e) :: R, P, Q, m, k, hmk, hml, hP, hQ, sp => by
    obtain ⟨P1, P2, rfl, hP1, hP2⟩ := split_at e hP
    obtain ⟨Q1, Q2, rfl, hQ1, hQ2⟩ := split_at e hQ
    have pw := List.pairwise_cons.mp sp.pw
    have hbe := sp.le (b, e) List.mem_cons_self
    simp only at hbe
    have mP : ∀ {s : Spot}, s ∈ P1 ++ P2 → (s.1, en s) ∈ ivs (P1 ++ P2) ++ ivs (Q1 ++ Q2) := fun {s} hs => List.mem_append_left _ (List.mem_map.mpr ⟨s, hs, rfl⟩)
    have mQ : ∀ {s : Spot}, s ∈ Q1 ++ Q2 → (s.1, en s) ∈ ivs (P1 ++ P2) ++ ivs (Q1 ++ Q2) := fun {s} hs => List.mem_append_right _ (List.mem_map.mpr ⟨s, hs, rfl⟩)
    have inn : ∀ {s : Spot}, (s.1, en s) ∈ ivs (P1 ++ P2) ++ ivs (Q1 ++ Q2) → s.1 ≤ e → b ≤ s.1 ∧ en s ≤ e := fun {s} hs hle => by
      obtain ⟨r, hr, a, c⟩ := sp.ins _ hs
      rcases List.mem_cons.mp hr with rfl | hr
      · exact ⟨a, c⟩
      · have := pw.1 r hr
        simp only at this a
        omega
    have iP1 : ∀ s ∈ P1, b ≤ s.1 ∧ en s ≤ e := fun s hs => inn (mP (List.mem_append_left _ hs)) (hP1 s hs)
    have iQ1 : ∀ s ∈ Q1, b ≤ s.1 ∧ en s ≤ e := fun s hs => inn (mQ (List.mem_append_left _ hs)) (hQ1 s hs)
    obtain ⟨oP1, oP2, _⟩ := okS_app hP
    obtain ⟨oQ1, oQ2, _⟩ := okS_app hQ
    have small : ∀ {g : List Spot}, okS l k g → (∀ s ∈ g, b ≤ s.1 ∧ en s ≤ e) → okS e b g := fun {g} h hi => by
      obtain ⟨x, y, z⟩ := okS_iff.mp h
      exact okS_iff.mpr ⟨fun s hs => ⟨(hi s hs).2, (x s hs).2⟩, fun s hs => (hi s hs).1, z⟩
    have late : ∀ {g : List Spot}, okS l k g → (∀ s ∈ g, e < s.1) → okS l (e + 1) g := fun {g} h hi => by
      obtain ⟨x, y, z⟩ := okS_iff.mp h
      exact okS_iff.mpr ⟨x, fun s hs => hi s hs, z⟩
    have hkb : k ≤ b := by
      obtain ⟨i, hi, e1⟩ := sp.beg (b, e) List.mem_cons_self
      simp only at e1
      rcases List.mem_append.mp hi with hi | hi
      · obtain ⟨s, hs, rfl⟩ := List.mem_map.mp hi
        have := okS_ge hP s hs
        simp only at e1
        omega
      · obtain ⟨s, hs, rfl⟩ := List.mem_map.mp hi
        have := okS_ge hQ s hs
        simp only at e1
        omega
    have hel : e ≤ l := by
      obtain ⟨i, hi, e1⟩ := sp.fin (b, e) List.mem_cons_self
      simp only at e1
      rcases List.mem_append.mp hi with hi | hi
      · obtain ⟨s, hs, rfl⟩ := List.mem_map.mp hi
        have := (okS_each hP s hs).1
        simp only at e1
        omega
      · obtain ⟨s, hs, rfl⟩ := List.mem_map.mp hi
        have := (okS_each hQ s hs).1
        simp only at e1
        omega
    -- what is further on
    have which : ∀ {i : Nat × Nat}, i ∈ ivs (P1 ++ P2) ++ ivs (Q1 ++ Q2) → e < i.2 → i ∈ ivs P2 ++ ivs Q2 := fun {i} hi hlt => by
      rcases List.mem_append.mp hi with hi | hi
      · obtain ⟨s, hs, rfl⟩ := List.mem_map.mp hi
        rcases List.mem_append.mp hs with hs | hs
        · have := (iP1 s hs).2
          simp only at hlt
          omega
        · exact List.mem_append_left _ (List.mem_map.mpr ⟨s, hs, rfl⟩)
      · obtain ⟨s, hs, rfl⟩ := List.mem_map.mp hi
        rcases List.mem_append.mp hs with hs | hs
        · have := (iQ1 s hs).2
          simp only at hlt
          omega
        · exact List.mem_append_right _ (List.mem_map.mpr ⟨s, hs, rfl⟩)
    have up : ∀ {i : Nat × Nat}, i ∈ ivs P2 ++ ivs Q2 → i ∈ ivs (P1 ++ P2) ++ ivs (Q1 ++ Q2) ∧ e < i.1 ∧ i.1 ≤ i.2 := fun {i} hi => by
      rcases List.mem_append.mp hi with hi | hi
      · obtain ⟨s, hs, rfl⟩ := List.mem_map.mp hi
        exact ⟨mP (List.mem_append_right _ hs), hP2 s hs, by rw [en_def]; simp⟩
      · obtain ⟨s, hs, rfl⟩ := List.mem_map.mp hi
        exact ⟨mQ (List.mem_append_right _ hs), hQ2 s hs, by rw [en_def]; simp⟩
    have sp2 : SpP (ivs P2 ++ ivs Q2) R := by
      refine ⟨pw.2, fun r hr => sp.le r (List.mem_cons_of_mem _ hr), fun i hi => ?_, fun r hr t h1 h2 => ?_, fun r hr => ?_, fun r hr => ?_⟩
      · obtain ⟨u1, u2, u3⟩ := up hi
        obtain ⟨r, hr, a, c⟩ := sp.ins i u1
        rcases List.mem_cons.mp hr with rfl | hr
        · simp only at c
          omega
        · exact ⟨r, hr, a, c⟩
      · obtain ⟨i, hi, a, c⟩ := sp.cov r (List.mem_cons_of_mem _ hr) t h1 h2
        have := pw.1 r hr
        simp only at this
        exact ⟨i, which hi (by omega), a, c⟩
      · obtain ⟨i, hi, a⟩ := sp.beg r (List.mem_cons_of_mem _ hr)
        have := pw.1 r hr
        simp only at this
        have hii : i.1 ≤ i.2 := by
          rcases List.mem_append.mp hi with hi | hi
          · obtain ⟨s, hs, rfl⟩ := List.mem_map.mp hi
            simp only [en_def]
            omega
          · obtain ⟨s, hs, rfl⟩ := List.mem_map.mp hi
            simp only [en_def]
            omega
        exact ⟨i, which hi (by omega), a⟩
      · obtain ⟨i, hi, a⟩ := sp.fin r (List.mem_cons_of_mem _ hr)
        have := pw.1 r hr
        have := sp.le r (List.mem_cons_of_mem _ hr)
        simp only at *
        exact ⟨i, which hi (by omega), a⟩
    obtain ⟨L, hL, eL⟩ := dec_mk (m := e) (k := e + 1) (Nat.le_succ _) hel (late oP2 hP2) (late oQ2 hQ2) sp2
    refine ⟨(b, e, P1, Q1) :: L, ⟨hmk, hkb, hbe, hel, small oP1 iP1, small oQ1 iQ1, fun p h1 h2 => ?_, P2, Q2, rfl, rfl, hP2, hQ2, hL⟩, by rw [List.map_cons, eL]⟩
    obtain ⟨i, hi, a, c⟩ := sp.cov (b, e) List.mem_cons_self p h1 h2
    rcases List.mem_append.mp hi with hi | hi
    · obtain ⟨s, hs, rfl⟩ := List.mem_map.mp hi
      rcases List.mem_append.mp hs with hs | hs
      · exact .inl ⟨s, hs, a, c⟩
      · have := hP2 s hs
        simp only at a
        omega
    · obtain ⟨s, hs, rfl⟩ := List.mem_map.mp hi
      rcases List.mem_append.mp hs with hs | hs
      · exact .inr ⟨s, hs, a, c⟩
      · have := hQ2 s hs
        simp only at a
        omega
/-! ### what comes of it -/
def ne (s : Spot) : Bool := decide (0 < s.2.1.length + s.2.2.length)
def dsp (u : List Int) : Nat → Nat → List Seg → List Spot
  | _, _, [] => []
  | x, m, (b, e, P1, Q1) :: L => (x + (b - m), fitF (u.take e) b P1, fitF (u.take e) b Q1) :: dsp u (x + (b - m) + (fitF (u.take e) b P1).length) e L
theorem fit_isR {u : List Int} (hu : isR u) {n : Nat} : ∀ {S : List Spot} {l e : Nat}, okS n l S → isR (fitF u e S)
  | [], l, e, _ => fun b hb => hu b (List.mem_of_mem_drop hb)
  | (a, o, m) :: g, l, e, h => fun b hb => by
    obtain ⟨_, _, _, _, h5, h6⟩ := h
    unfold fitF at hb
    rcases List.mem_append.mp hb with hb | hb
    · rcases List.mem_append.mp hb with hb | hb
      · exact hu b (List.mem_of_mem_drop (List.mem_of_mem_take hb))
      · exact h5 b hb
    · exact fit_isR hu h6 b hb
theorem isR_take {u : List Int} (h : isR u) (n : Nat) : isR (u.take n) := fun b hb => h b (List.mem_of_mem_take hb)
/-- a row by the first span -/
theorem fit_seg {u : List Int} {l m b e : Nat} {P1 P2 : List Spot} (hu : u.length = l) (hmb : m ≤ b) (hbe : b ≤ e) (hel : e ≤ l) (h1 : okS e b P1) (h2 : ∀ s ∈ P2, e < s.1) : fitF u m (P1 ++ P2) = (u.drop m).take (b - m) ++ fitF (u.take e) b P1 ++ fitF u e P2 := by
  have hh : ∀ s ∈ (P1 ++ P2).head?, b ≤ s.1 := fun s hs => by
    have hs := List.mem_of_mem_head? hs
    rcases List.mem_append.mp hs with hs | hs
    · exact okS_ge h1 s hs
    · have := h2 s hs
      omega
  rw [fit_from hmb (by omega) hh, fit_split (by omega) (fun s hs => Nat.le_of_lt (h2 s (List.mem_of_mem_head? hs))) hbe h1, List.append_assoc]
theorem dec_fit {l : Nat} {u : List Int} (hu : u.length = l) (hR : isR u) : ∀ {L : List Seg} {m k : Nat} {P Q : List Spot}, Dec l m k L P Q → ∀ X : List Int,
    okS (X.length + (fitF u m P).length) (X.length + (k - m)) ((dsp u X.length m L).filter ne) ∧ (∀ s ∈ (dsp u X.length m L).filter ne, hasO (X ++ fitF u m P) s) ∧ fitF (X ++ fitF u m P) X.length ((dsp u X.length m L).filter ne) = fitF u m Q
  | [], m, k, P, Q, ⟨hP, hQ, _⟩, X => by
    subst hP
    subst hQ
    refine ⟨trivial, (fun _ h => nomatch h), ?_⟩
    show (X ++ fitF u m []).drop X.length = _
    simp
  | (b, e, P1, Q1) :: L, m, k, P, Q, h, X => by
    obtain ⟨hmk, hkb, hbe, hel, oP1, oQ1, cov, P2, Q2, rfl, rfl, hP2, hQ2, hD⟩ := h
    have eP := fit_seg hu (by omega) hbe hel oP1 hP2 (m := m)
    have eQ := fit_seg hu (by omega) hbe hel oQ1 hQ2 (m := m)
    generalize hg : (u.drop m).take (b - m) = g at *
    generalize ho : fitF (u.take e) b P1 = o at *
    generalize hn : fitF (u.take e) b Q1 = n at *
    have lg : g.length = b - m := by rw [← hg, List.length_take, List.length_drop]; omega
    have ro : isR o := by rw [← ho]; exact fit_isR (isR_take hR e) oP1
    have rn : isR n := by rw [← hn]; exact fit_isR (isR_take hR e) oQ1
    obtain ⟨i1, i2, i3⟩ := dec_fit hu hR hD (X ++ g ++ o)
    have lX : (X ++ g ++ o).length = X.length + (b - m) + o.length := by
      simp only [List.length_append, lg]
    rw [lX] at i1 i2 i3
    have eX : X ++ g ++ o ++ fitF u e P2 = X ++ fitF u m (P1 ++ P2) := by rw [eP]; simp
    rw [eX] at i2 i3
    have lT : X.length + (b - m) + o.length + (fitF u e P2).length = X.length + (fitF u m (P1 ++ P2)).length := by
      rw [eP]
      simp only [List.length_append, lg]
      omega
    rw [lT] at i1
    have eD : dsp u X.length m ((b, e, P1, Q1) :: L) = (X.length + (b - m), o, n) :: dsp u (X.length + (b - m) + o.length) e L := by
      show (X.length + (b - m), fitF (u.take e) b P1, fitF (u.take e) b Q1) :: dsp u (X.length + (b - m) + (fitF (u.take e) b P1).length) e L = _
      rw [ho, hn]
    rw [eD]
    generalize hS : (dsp u (X.length + (b - m) + o.length) e L).filter ne = S at *
    have hgap : (X ++ fitF u m (P1 ++ P2)).drop X.length = fitF u m (P1 ++ P2) := by simp
    by_cases hne : 0 < o.length + n.length
    · rw [List.filter_cons_of_pos (by unfold ne; exact decide_eq_true hne), hS]
      refine ⟨⟨by omega, by omega, hne, ro, rn, ?_⟩, fun s hs => ?_, ?_⟩
      · rw [show e + 1 - e = 1 by omega] at i1
        exact i1
      · rcases List.mem_cons.mp hs with rfl | hs
        · intro j hj
          simp only at hj ⊢
          rw [← eX, List.append_assoc, List.append_assoc, List.getElem?_append_right (by omega), List.getElem?_append_right (by omega), List.getElem?_append_left (by rw [lg]; omega)]
          congr 1
          rw [lg]
          omega
        · exact i2 s hs
      · show ((X ++ fitF u m (P1 ++ P2)).drop X.length).take (X.length + (b - m) - X.length) ++ n ++ fitF (X ++ fitF u m (P1 ++ P2)) (X.length + (b - m) + o.length) S = _
        rw [i3, hgap, eP, eQ, show X.length + (b - m) - X.length = g.length by omega, List.append_assoc g, List.take_left' rfl]
    · rw [List.filter_cons_of_neg (by unfold ne; simpa using hne), hS]
      have ho0 : o = [] := List.eq_nil_of_length_eq_zero (by omega)
      have hn0 : n = [] := List.eq_nil_of_length_eq_zero (by omega)
      subst ho0
      subst hn0
      refine ⟨okS_lower (by simp only [List.length_nil]; omega) i1, i2, ?_⟩
      have hh : ∀ s ∈ S.head?, X.length + (b - m) + ([] : List Int).length ≤ s.1 := fun s hs => by
        have := okS_ge i1 s (List.mem_of_mem_head? hs)
        omega
      rw [fit_from (m := X.length + (b - m) + ([] : List Int).length) (by omega) (by rw [List.length_append]; omega) hh, i3, hgap, eP, eQ, show X.length + (b - m) + ([] : List Int).length - X.length = g.length by simp [lg], List.append_assoc g, List.take_left' rfl, List.append_assoc]
      rfl
end Pm

/-! Pm10: which bytes are kept; a patch is told by its row, what is kept, what comes; turned back; one behind the other. -/
namespace Pm
open PySem PySem.W PyProof.Rows
def unt (S : List Spot) (i : Nat) : Prop := ∀ s ∈ S, i < s.1 ∨ en s ≤ i
def grf (S : List Spot) (i : Nat) : Int := gr (S.filter fun s => decide (en s ≤ i))
theorem grf_low {S : List Spot} {i : Nat} (h : ∀ s ∈ S, i < s.1) : grf S i = 0 := by
  unfold grf
  have : (S.filter fun s => decide (en s ≤ i)) = [] := List.filter_eq_nil_iff.mpr fun s hs => by
    have := h s hs
    have := en_def s
    simp only [decide_eq_true_eq]
    omega
  rw [this]
  rfl
theorem grf_all {S : List Spot} {i : Nat} (h : ∀ s ∈ S, en s ≤ i) : grf S i = gr S := by
  unfold grf
  rw [List.filter_eq_self.mpr fun s hs => decide_eq_true (h s hs)]
theorem grf_app (A B : List Spot) (i : Nat) : grf (A ++ B) i = grf A i + grf B i := by
  unfold grf
  rw [List.filter_append, gr_app]
theorem grf_cons (s : Spot) (B : List Spot) (i : Nat) : grf (s :: B) i = (if en s ≤ i then (s.2.2.length : Int) - s.2.1.length else 0) + grf B i := by
  unfold grf
  rw [List.filter_cons]
  by_cases h : en s ≤ i
  · rw [if_pos (decide_eq_true h), if_pos h, gr_cons]
  · rw [if_neg (by simpa using h), if_neg h, Int.zero_add]
theorem unt_app {A B : List Spot} {i : Nat} : unt (A ++ B) i ↔ unt A i ∧ unt B i :=
  ⟨fun h => ⟨fun s hs => h s (List.mem_append_left _ hs), fun s hs => h s (List.mem_append_right _ hs)⟩, fun ⟨a, b⟩ s hs => (List.mem_append.mp hs).elim (a s) (b s)⟩
theorem unt_cons {s : Spot} {B : List Spot} {i : Nat} : unt (s :: B) i ↔ (i < s.1 ∨ en s ≤ i) ∧ unt B i :=
  ⟨fun h => ⟨h s List.mem_cons_self, fun t ht => h t (List.mem_cons_of_mem _ ht)⟩, fun ⟨a, b⟩ t ht => (List.mem_cons.mp ht).elim (fun e => e ▸ a) (b t)⟩
theorem unt_low {S : List Spot} {i : Nat} (h : ∀ s ∈ S, i < s.1) : unt S i := fun s hs => .inl (h s hs)
theorem unt_high {S : List Spot} {i : Nat} (h : ∀ s ∈ S, en s ≤ i) : unt S i := fun s hs => .inr (h s hs)
/-! ### what is kept, by the spans -/
theorem dsp_ge {u : List Int} : ∀ {L : List Seg} {x m : Nat}, ∀ s ∈ dsp u x m L, x ≤ s.1
  | [], _, _, s, h => nomatch h
  | (b, e, P1, Q1) :: L, x, m, s, h => by
    rcases List.mem_cons.mp (show s ∈ (x + (b - m), fitF (u.take e) b P1, fitF (u.take e) b Q1) :: dsp u (x + (b - m) + (fitF (u.take e) b P1).length) e L from h) with rfl | h
    · simp
    · have := dsp_ge s h
      omega
theorem dec_kp {l : Nat} {u : List Int} (hu : u.length = l) : ∀ {L : List Seg} {m k : Nat} {P Q : List Spot}, Dec l m k L P Q → ∀ x y i j : Nat,
    (x ≤ i ∧ i < x + (fitF u m P).length ∧ unt ((dsp u x m L).filter ne) i ∧ (j : Int) = y + ((i : Int) - x) + grf ((dsp u x m L).filter ne) i) ↔
      ∃ p, m ≤ p ∧ p < l ∧ unt P p ∧ unt Q p ∧ (i : Int) = x + ((p : Int) - m) + grf P p ∧ (j : Int) = y + ((p : Int) - m) + grf Q p
  | [], m, k, P, Q, ⟨hP, hQ, hml⟩, x, y, i, j => by
    subst hP
    subst hQ
    have e1 : (fitF u m []).length = l - m := by
      show (u.drop m).length = _
      rw [List.length_drop, hu]
    have e2 : ∀ p, grf [] p = 0 := fun p => rfl
    have e3 : ((dsp u x m []).filter ne) = [] := rfl
    rw [e1, e3]
    constructor
    · rintro ⟨h1, h2, _, h4⟩
      refine ⟨m + (i - x), by omega, by omega, (fun _ h => nomatch h), (fun _ h => nomatch h), ?_, ?_⟩
      · rw [e2]
        omega
      · rw [e2] at h4 ⊢
        omega
    · rintro ⟨p, h1, h2, _, _, h3, h4⟩
      rw [e2] at h3 h4
      refine ⟨by omega, by omega, (fun _ h => nomatch h), ?_⟩
      rw [e2]
      omega
  | (b, e, P1, Q1) :: L, m, k, P, Q, h, x, y, i, j => by
    obtain ⟨hmk, hkb, hbe, hel, oP1, oQ1, cov, P2, Q2, rfl, rfl, hP2, hQ2, hD⟩ := h
    have eP := fit_seg hu (by omega) hbe hel oP1 hP2 (m := m)
    have lg : ((u.drop m).take (b - m)).length = b - m := by rw [List.length_take, List.length_drop]; omega
    have lo := fit_len (u := u.take e) oP1 (Nat.le_refl b) (by rw [List.length_take]; omega) hbe
    have ln := fit_len (u := u.take e) oQ1 (Nat.le_refl b) (by rw [List.length_take]; omega) hbe
    have ih := fun (_ : Unit) => dec_kp hu hD (x + (b - m) + (fitF (u.take e) b P1).length) (y + (b - m) + (fitF (u.take e) b Q1).length) i j
    have eD : dsp u x m ((b, e, P1, Q1) :: L) = (x + (b - m), fitF (u.take e) b P1, fitF (u.take e) b Q1) :: dsp u (x + (b - m) + (fitF (u.take e) b P1).length) e L := rfl
    have eL : (fitF u m (P1 ++ P2)).length = (b - m) + (fitF (u.take e) b P1).length + (fitF u e P2).length := by
      rw [eP, List.length_append, List.length_append, lg]
    rw [eD, eL]
    generalize ho : fitF (u.take e) b P1 = o at *
    generalize hn : fitF (u.take e) b Q1 = n at *
    have ge : ∀ s ∈ (dsp u (x + (b - m) + o.length) e L).filter ne, x + (b - m) + o.length ≤ s.1 := fun s hs => dsp_ge s (List.mem_filter.mp hs).1
    have hS : ((x + (b - m), o, n) :: dsp u (x + (b - m) + o.length) e L).filter ne = (if 0 < o.length + n.length then [(x + (b - m), o, n)] else []) ++ (dsp u (x + (b - m) + o.length) e L).filter ne := by
      by_cases hne : 0 < o.length + n.length
      · rw [List.filter_cons_of_pos (by unfold ne; exact decide_eq_true hne), if_pos hne]
        rfl
      · rw [List.filter_cons_of_neg (by unfold ne; simpa using hne), if_neg hne]
        rfl
    rw [hS]
    generalize (dsp u (x + (b - m) + o.length) e L).filter ne = S at *
    rw [unt_app, grf_app]
    have pP : ∀ p, p < b → (unt (P1 ++ P2) p ∧ unt (Q1 ++ Q2) p) ∧ grf (P1 ++ P2) p = 0 ∧ grf (Q1 ++ Q2) p = 0 := fun p hp => by
      have a1 : ∀ s ∈ P1 ++ P2, p < s.1 := fun s hs => by
        rcases List.mem_append.mp hs with hs | hs
        · have := okS_ge oP1 s hs
          omega
        · have := hP2 s hs
          omega
      have a2 : ∀ s ∈ Q1 ++ Q2, p < s.1 := fun s hs => by
        rcases List.mem_append.mp hs with hs | hs
        · have := okS_ge oQ1 s hs
          omega
        · have := hQ2 s hs
          omega
      exact ⟨⟨unt_low a1, unt_low a2⟩, grf_low a1, grf_low a2⟩
    have qP : ∀ p, e ≤ p → (unt (P1 ++ P2) p ↔ unt P2 p) ∧ (unt (Q1 ++ Q2) p ↔ unt Q2 p) ∧ grf (P1 ++ P2) p = gr P1 + grf P2 p ∧ grf (Q1 ++ Q2) p = gr Q1 + grf Q2 p := fun p hp => by
      have a1 : ∀ s ∈ P1, en s ≤ p := fun s hs => by
        have := (okS_each oP1 s hs).1
        omega
      have a2 : ∀ s ∈ Q1, en s ≤ p := fun s hs => by
        have := (okS_each oQ1 s hs).1
        omega
      exact ⟨⟨fun z => (unt_app.mp z).2, fun z => unt_app.mpr ⟨unt_high a1, z⟩⟩, ⟨fun z => (unt_app.mp z).2, fun z => unt_app.mpr ⟨unt_high a2, z⟩⟩, by rw [grf_app, grf_all a1], by rw [grf_app, grf_all a2]⟩
    have en1 : en (x + (b - m), o, n) = x + (b - m) + o.length := rfl
    have low : ∀ {i : Nat}, i < x + (b - m) → unt (if 0 < o.length + n.length then [(x + (b - m), o, n)] else []) i ∧ unt S i ∧ grf (if 0 < o.length + n.length then [(x + (b - m), o, n)] else []) i = 0 ∧ grf S i = 0 := fun {i} hi => by
      have a1 : ∀ s ∈ (if 0 < o.length + n.length then [(x + (b - m), o, n)] else []), i < s.1 := fun s hs => by
        split at hs
        · rw [List.mem_singleton.mp hs]
          exact hi
        · exact nomatch hs
      have a2 : ∀ s ∈ S, i < s.1 := fun s hs => by
        have := ge s hs
        omega
      exact ⟨unt_low a1, unt_low a2, grf_low a1, grf_low a2⟩
    have high : ∀ {i : Nat}, x + (b - m) + o.length ≤ i → unt (if 0 < o.length + n.length then [(x + (b - m), o, n)] else []) i ∧ grf (if 0 < o.length + n.length then [(x + (b - m), o, n)] else []) i = (n.length : Int) - o.length := fun {i} hi => by
      by_cases hne : 0 < o.length + n.length
      · rw [if_pos hne]
        have a1 : ∀ s ∈ [(x + (b - m), o, n)], en s ≤ i := fun s hs => by
          rw [List.mem_singleton.mp hs, en1]
          exact hi
        refine ⟨unt_high a1, ?_⟩
        rw [grf_all a1]
        simp [gr]
      · rw [if_neg hne]
        refine ⟨(fun _ h => nomatch h), ?_⟩
        show (0 : Int) = _
        omega
    constructor
    · rintro ⟨h1, h2, ⟨h3, h3'⟩, h4⟩
      by_cases hi : i < x + (b - m)
      · obtain ⟨_, _, z1, z2⟩ := low hi
        rw [z1, z2] at h4
        obtain ⟨⟨a1, a2⟩, a3, a4⟩ := pP (m + (i - x)) (by omega)
        exact ⟨m + (i - x), by omega, by omega, a1, a2, by rw [a3]; omega, by rw [a4]; omega⟩
      · have hge : x + (b - m) + o.length ≤ i := by
          by_cases hne : 0 < o.length + n.length
          · rw [if_pos hne] at h3
            rcases h3 (x + (b - m), o, n) (by simp) with z | z
            · exact absurd z hi
            · rw [en1] at z
              exact z
          · omega
        obtain ⟨_, z1⟩ := high hge
        rw [z1] at h4
        obtain ⟨p, p1, p2, p3, p4, p5, p6⟩ := (ih ()).mp ⟨hge, by omega, h3', by omega⟩
        obtain ⟨b1, b2, b3, b4⟩ := qP p p1
        exact ⟨p, by omega, p2, b1.mpr p3, b2.mpr p4, by rw [b3]; omega, by rw [b4]; omega⟩
    · rintro ⟨p, p1, p2, p3, p4, p5, p6⟩
      by_cases hpb : p < b
      · obtain ⟨_, a3, a4⟩ := pP p hpb
        rw [a3] at p5
        rw [a4] at p6
        have hi : i < x + (b - m) := by omega
        obtain ⟨z0, z0', z1, z2⟩ := low hi
        exact ⟨by omega, by omega, ⟨z0, z0'⟩, by rw [z1, z2]; omega⟩
      · by_cases hpe : p < e
        · exfalso
          rcases cov p (by omega) hpe with ⟨s, hs, a, c⟩ | ⟨s, hs, a, c⟩
          · rcases p3 s (List.mem_append_left _ hs) with z | z <;> omega
          · rcases p4 s (List.mem_append_left _ hs) with z | z <;> omega
        · obtain ⟨b1, b2, b3, b4⟩ := qP p (by omega)
          rw [b3] at p5
          rw [b4] at p6
          obtain ⟨i1, i2, i3, i4⟩ := (ih ()).mpr ⟨p, by omega, p2, b1.mp p3, b2.mp p4, by omega, by omega⟩
          obtain ⟨z0, z1⟩ := high i1
          exact ⟨by omega, by omega, ⟨z0, i3⟩, by rw [z1]; omega⟩
/-! ### one patch alone -/
theorem no_head {n l l' e a : Nat} {o m : List Int} {g T : List Spot} {w : List Int} (h : okS n l ((a, o, m) :: g)) (hT : okS n l' T) (hlt : ∀ t ∈ T, a < t.1) (hel : e ≤ l) (hel' : e ≤ l') (hw : w.length = n) (hen : e ≤ n)
    (H : ∀ i, e ≤ i → i < n → (unt ((a, o, m) :: g) i ↔ unt T i) ∧ (unt T i → grf ((a, o, m) :: g) i = grf T i)) (hf : (fitF w e ((a, o, m) :: g)).length = (fitF w e T).length) : False := by
  have lS := fit_len (u := w) h hel hw hen
  have lT := fit_len (u := w) hT hel' hw hen
  obtain ⟨h1, h2, h3, _, _, h4⟩ := h
  have hg : ∀ s ∈ g, a + o.length < s.1 := fun s hs => okS_ge h4 s hs
  have ue := en_def (a, o, m)
  simp only at ue
  by_cases ho : 0 < o.length
  · obtain ⟨z, _⟩ := H a (by omega) (by omega)
    rcases z.mpr (unt_low hlt) (a, o, m) List.mem_cons_self with q | q
    · simp only at q
      omega
    · omega
  · by_cases han : a < n
    · obtain ⟨_, z⟩ := H a (by omega) han
      have z2 := z (unt_low hlt)
      rw [grf_low hlt, grf_cons, if_pos (by omega), grf_low (fun s hs => by have := hg s hs; omega)] at z2
      simp only at z2
      omega
    · have hgn : g = [] := by
        cases g with
        | nil => rfl
        | cons t g =>
          have := hg t List.mem_cons_self
          have := (okS_each h4 t List.mem_cons_self).1
          have := en_def t
          omega
      have hTn : T = [] := by
        cases T with
        | nil => rfl
        | cons t g =>
          have := hlt t List.mem_cons_self
          have := (okS_each hT t List.mem_cons_self).1
          have := en_def t
          omega
      subst hgn
      subst hTn
      rw [gr_cons] at lS
      simp only [gr, List.map_nil, List.sum_nil] at lS lT
      omega
theorem uq : ∀ {S T : List Spot} {n l e : Nat} {w : List Int}, okS n l S → okS n l T → e ≤ l → w.length = n → e ≤ n → (∀ s ∈ S, hasO w s) → (∀ s ∈ T, hasO w s) →
    (∀ i, e ≤ i → i < n → (unt S i ↔ unt T i) ∧ (unt T i → grf S i = grf T i)) → fitF w e S = fitF w e T → S = T
  | [], [], _, _, _, _, _, _, _, _, _, _, _, _, _ => rfl
  | [], (a, o, m) :: g, n, l, e, w, h1, h2, hel, hw, hen, _, _, H, hf => (no_head h2 h1 (fun t ht => nomatch ht) hel hel hw hen (fun i a b => ⟨(H i a b).1.symm, fun z => ((H i a b).2 ((H i a b).1.mp z)).symm⟩) (by rw [hf])).elim
  | (a, o, m) :: g, [], n, l, e, w, h1, h2, hel, hw, hen, _, _, H, hf => (no_head h1 h2 (fun t ht => nomatch ht) hel hel hw hen H (by rw [hf])).elim
  | (a, o, m) :: g, (a', o', m') :: g', n, l, e, w, h1, h2, hel, hw, hen, hO, hO', H, hf => by
    have tail : ∀ {a : Nat} {o m : List Int} {g : List Spot}, okS n l ((a, o, m) :: g) → ∀ t ∈ (a, o, m) :: g, a ≤ t.1 := fun {a o m g} h t ht => by
      rcases List.mem_cons.mp ht with rfl | ht
      · exact Nat.le_refl _
      · have := okS_ge h.2.2.2.2.2 t ht
        omega
    have haa : a = a' := by
      rcases Nat.lt_trichotomy a a' with z | z | z
      · exact (no_head h1 h2 (fun t ht => Nat.lt_of_lt_of_le z (tail h2 t ht)) hel hel hw hen H (by rw [hf])).elim
      · exact z
      · exact (no_head h2 h1 (fun t ht => Nat.lt_of_lt_of_le z (tail h1 t ht)) hel hel hw hen (fun i a b => ⟨(H i a b).1.symm, fun z => ((H i a b).2 ((H i a b).1.mp z)).symm⟩) (by rw [hf])).elim
    subst haa
    have lS := fit_len (u := w) h1 hel hw hen
    have lT := fit_len (u := w) h2 hel hw hen
    obtain ⟨k1, k2, k3, _, _, k4⟩ := h1
    obtain ⟨j1, j2, j3, _, _, j4⟩ := h2
    have hg : ∀ s ∈ g, a + o.length < s.1 := fun s hs => okS_ge k4 s hs
    have hg' : ∀ s ∈ g', a + o'.length < s.1 := fun s hs => okS_ge j4 s hs
    have e1 : en (a, o, m) = a + o.length := rfl
    have e2 : en (a, o', m') = a + o'.length := rfl
    have hoo : o.length = o'.length := by
      rcases Nat.lt_trichotomy o.length o'.length with z | z | z
      · exfalso
        obtain ⟨q, _⟩ := H (a + o.length) (by omega) (by omega)
        have q2 := q.mp (unt_cons.mpr ⟨.inr (by rw [e1]; omega), unt_low hg⟩)
        rcases q2 (a, o', m') List.mem_cons_self with r | r
        · simp only at r
          omega
        · rw [e2] at r
          omega
      · exact z
      · exfalso
        obtain ⟨q, _⟩ := H (a + o'.length) (by omega) (by omega)
        have q2 := q.mpr (unt_cons.mpr ⟨.inr (by rw [e2]; omega), unt_low hg'⟩)
        rcases q2 (a, o, m) List.mem_cons_self with r | r
        · simp only at r
          omega
        · rw [e1] at r
          omega
    have ho : o = o' := by
      refine List.ext_getElem? fun j => ?_
      by_cases hj : j < o.length
      · have z1 := hO (a, o, m) List.mem_cons_self j hj
        have z2 := hO' (a, o', m') List.mem_cons_self j (by simp only; omega)
        simp only at z1 z2
        rw [← z1, ← z2]
      · rw [List.getElem?_eq_none (by omega), List.getElem?_eq_none (by omega)]
    subst ho
    have hmm : m.length = m'.length := by
      by_cases hq : a + o.length < n
      · obtain ⟨_, q⟩ := H (a + o.length) (by omega) hq
        have q2 := q (unt_cons.mpr ⟨.inr (by rw [e2]; omega), unt_low hg'⟩)
        rw [grf_cons, grf_cons, if_pos (by rw [e1]; omega), if_pos (by rw [e2]; omega), grf_low hg, grf_low hg'] at q2
        simp only at q2
        omega
      · have n1 : g = [] := by
          cases g with
          | nil => rfl
          | cons t g =>
            have := hg t List.mem_cons_self
            have := (okS_each k4 t List.mem_cons_self).1
            have := en_def t
            omega
        have n2 : g' = [] := by
          cases g' with
          | nil => rfl
          | cons t g =>
            have := hg' t List.mem_cons_self
            have := (okS_each j4 t List.mem_cons_self).1
            have := en_def t
            omega
        subst n1
        subst n2
        rw [hf] at lS
        rw [gr_cons] at lS lT
        simp only [gr, List.map_nil, List.sum_nil] at lS lT
        omega
    have hf2 : (w.drop e).take (a - e) ++ m ++ fitF w (a + o.length) g = (w.drop e).take (a - e) ++ m' ++ fitF w (a + o.length) g' := hf
    rw [List.append_assoc, List.append_assoc] at hf2
    have hf3 := List.append_cancel_left hf2
    obtain ⟨hm, hf4⟩ := List.append_inj hf3 hmm
    subst hm
    have hgg := uq (e := a + o.length) k4 j4 (by omega) hw k2 (fun s hs => hO s (List.mem_cons_of_mem _ hs)) (fun s hs => hO' s (List.mem_cons_of_mem _ hs)) (fun i hi hin => by
      obtain ⟨z1, z2⟩ := H i (by omega) hin
      have c1 : unt ((a, o, m) :: g) i ↔ unt g i := ⟨fun q => (unt_cons.mp q).2, fun q => unt_cons.mpr ⟨.inr (by rw [e1]; omega), q⟩⟩
      have c2 : unt ((a, o, m) :: g') i ↔ unt g' i := ⟨fun q => (unt_cons.mp q).2, fun q => unt_cons.mpr ⟨.inr (by rw [e2]; omega), q⟩⟩
      refine ⟨c1.symm.trans (z1.trans c2), fun q => ?_⟩
      have q2 := z2 (c2.mpr q)
      rw [grf_cons, grf_cons, if_pos (by rw [e1]; omega)] at q2
      omega) hf4
    rw [hgg]
/-! ### turned back -/
def inv (s : Int) : List Spot → List Spot
  | [] => []
  | (a, o, n) :: g => (((a : Int) + s).toNat, n, o) :: inv (s + n.length - o.length) g
theorem goe_inv : ∀ {A : List Spot} {s : Int}, goe (inv s A) = cam s A
  | [], _ => rfl
  | (a, o, n) :: A, s => by
    show (((a : Int) + s).toNat, ((a : Int) + s).toNat + n.length, o) :: goe (inv (s + n.length - o.length) A) = _
    rw [goe_inv]
    rfl
theorem wan_inv : ∀ {A : List Spot} {s : Int}, wan (inv s A) = pin s A
  | [], _ => rfl
  | (a, o, n) :: A, s => by
    show bp ((a : Int) + s).toNat n ++ wan (inv (s + n.length - o.length) A) = _
    rw [wan_inv]
    rfl
theorem gr_inv : ∀ {A : List Spot} {s : Int}, gr (inv s A) = - gr A
  | [], _ => rfl
  | (a, o, n) :: A, s => by
    show gr ((((a : Int) + s).toNat, n, o) :: inv (s + n.length - o.length) A) = _
    rw [gr_cons, gr_cons, gr_inv]
    simp only
    omega
theorem inv_inv {n : Nat} : ∀ {A : List Spot} {l : Nat} {s : Int}, okS n l A → 0 ≤ (l : Int) + s → inv (-s) (inv s A) = A
  | [], _, _, _, _ => rfl
  | (a, o, m) :: A, l, s, h, hs => by
    obtain ⟨h1, h2, h3, _, _, h4⟩ := h
    have ih := inv_inv (s := s + m.length - o.length) h4 (by omega)
    show ((((((a : Int) + s).toNat : Nat) : Int) + -s).toNat, o, m) :: inv (-s + o.length - m.length) (inv (s + m.length - o.length) A) = _
    rw [show -s + (o.length : Int) - m.length = -(s + m.length - o.length) by omega, ih]
    congr 2
    omega
theorem inv_fit {n : Nat} {w : List Int} (hw : w.length = n) : ∀ {A : List Spot} {l e : Nat} {s : Int} {X : List Int}, okS n l A → e ≤ l → e ≤ n → (∀ t ∈ A, hasO w t) → (X.length : Int) = e + s →
    okS (X.length + (fitF w e A).length) ((l : Int) + s).toNat (inv s A) ∧ (∀ t ∈ inv s A, hasO (X ++ fitF w e A) t) ∧ fitF (X ++ fitF w e A) X.length (inv s A) = w.drop e
  | [], l, e, s, X, _, _, _, _, _ => by
    refine ⟨trivial, (fun _ h => nomatch h), ?_⟩
    show (X ++ fitF w e []).drop X.length = _
    simp [fitF]
  | (a, o, m) :: A, l, e, s, X, h, hel, hen, hO, hX => by
    obtain ⟨h1, h2, h3, h5, h6, h4⟩ := h
    have eW : fitF w e ((a, o, m) :: A) = (w.drop e).take (a - e) ++ m ++ fitF w (a + o.length) A := rfl
    have lg : ((w.drop e).take (a - e)).length = a - e := by rw [List.length_take, List.length_drop]; omega
    have how : (w.drop a).take o.length = o := by
      refine List.ext_getElem? fun j => ?_
      by_cases hj : j < o.length
      · have z := hO (a, o, m) List.mem_cons_self j hj
        simp only at z
        rw [List.getElem?_take_of_lt hj, List.getElem?_drop, z]
      · rw [List.getElem?_eq_none (by rw [List.length_take]; omega), List.getElem?_eq_none (by omega)]
    generalize hg : (w.drop e).take (a - e) = g at *
    have lX : (X ++ g ++ m).length = X.length + (a - e) + m.length := by simp only [List.length_append, lg]
    obtain ⟨i1, i2, i3⟩ := inv_fit hw (e := a + o.length) (s := s + m.length - o.length) (X := X ++ g ++ m) h4 (by omega) h2 (fun t ht => hO t (List.mem_cons_of_mem _ ht)) (by rw [lX]; omega)
    have eX : X ++ g ++ m ++ fitF w (a + o.length) A = X ++ fitF w e ((a, o, m) :: A) := by rw [eW]; simp
    rw [eX] at i2 i3
    have hb : ((a : Int) + s).toNat = X.length + (a - e) := by omega
    have eI : inv s ((a, o, m) :: A) = (X.length + (a - e), m, o) :: inv (s + m.length - o.length) A := by
      show (((a : Int) + s).toNat, m, o) :: _ = _
      rw [hb]
    have lW : (fitF w e ((a, o, m) :: A)).length = (a - e) + m.length + (fitF w (a + o.length) A).length := by rw [eW, List.length_append, List.length_append, lg]
    rw [eI]
    refine ⟨⟨by omega, by omega, by omega, h6, h5, ?_⟩, fun t ht => ?_, ?_⟩
    · rw [lX] at i1
      rw [show X.length + (fitF w e ((a, o, m) :: A)).length = X.length + (a - e) + m.length + (fitF w (a + o.length) A).length by omega, show X.length + (a - e) + m.length + 1 = (((a + o.length + 1 : Nat) : Int) + (s + m.length - o.length)).toNat by omega]
      exact i1
    · rcases List.mem_cons.mp ht with rfl | ht
      · intro j hj
        simp only at hj ⊢
        rw [← eX, List.append_assoc, List.append_assoc, List.getElem?_append_right (by omega), List.getElem?_append_right (by omega), List.getElem?_append_left (by rw [lg]; omega)]
        congr 1
        rw [lg]
        omega
      · exact i2 t ht
    · show ((X ++ fitF w e ((a, o, m) :: A)).drop X.length).take (X.length + (a - e) - X.length) ++ o ++ fitF (X ++ fitF w e ((a, o, m) :: A)) (X.length + (a - e) + m.length) (inv (s + m.length - o.length) A) = _
      rw [← lX, i3, List.drop_left' rfl, eW, show X.length + (a - e) - X.length = g.length by omega, List.append_assoc g, List.take_left' rfl, ← hg, List.append_assoc]
      have e3 : w.drop a = o ++ w.drop (a + o.length) := by
        rw [← how]
        conv => lhs; rw [← List.take_append_drop o.length (w.drop a)]
        rw [List.drop_drop, how]
      rw [← e3, show w.drop a = (w.drop e).drop (a - e) by rw [List.drop_drop]; congr 1; omega, List.take_append_drop]
theorem gr_lo {n : Nat} {A : List Spot} {l e : Nat} (h : okS n l A) (hel : e ≤ l) (hen : e ≤ n) : (e : Int) ≤ n + gr A := by
  have := fit_len (u := List.replicate n 0) h hel (by simp) hen
  omega
theorem kp_inv {n : Nat} : ∀ {A : List Spot} {l e : Nat} {s : Int}, okS n l A → e ≤ l → e ≤ n → 0 ≤ (e : Int) + s → ∀ i j : Nat,
    (e ≤ i ∧ i < n ∧ unt A i ∧ (j : Int) = i + s + grf A i) ↔ ((e : Int) + s ≤ j ∧ (j : Int) < n + s + gr A ∧ unt (inv s A) j ∧ (i : Int) = j - s + grf (inv s A) j)
  | [], l, e, s, _, _, _, _, i, j => by
    have e2 : ∀ p, grf [] p = 0 := fun p => rfl
    have e4 : gr [] = 0 := rfl
    rw [show inv s [] = [] from rfl, e2, e2, e4]
    constructor
    · rintro ⟨h1, h2, _, h3⟩
      exact ⟨by omega, by omega, (fun _ h => nomatch h), by omega⟩
    · rintro ⟨h1, h2, _, h3⟩
      exact ⟨by omega, by omega, (fun _ h => nomatch h), by omega⟩
  | (a, o, m) :: A, l, e, s, h, hel, hen, hs, i, j => by
    obtain ⟨h1, h2, h3, h5, h6, h4⟩ := h
    have hlo := gr_lo h4 (Nat.le_succ _) h2
    have ih := kp_inv (e := a + o.length) (s := s + m.length - o.length) h4 (by omega) h2 (by omega) i j
    have eI : inv s ((a, o, m) :: A) = (((a : Int) + s).toNat, m, o) :: inv (s + m.length - o.length) A := rfl
    have hge : ∀ t ∈ inv (s + m.length - o.length) A, ((a : Int) + s).toNat + m.length < t.1 := by
      have : ∀ {A : List Spot} {l : Nat} {s : Int}, okS n l A → 0 ≤ (l : Int) + s → ∀ t ∈ inv s A, (l : Int) + s ≤ t.1 := by
        intro A
        induction A with
        | nil => intro l s _ _ t ht; exact nomatch ht
        | cons x A ih =>
          intro l s h hs t ht
          obtain ⟨a, o, m⟩ := x
          obtain ⟨h1, h2, h3, _, _, h4⟩ := h
          rcases List.mem_cons.mp (show t ∈ (((a : Int) + s).toNat, m, o) :: inv (s + m.length - o.length) A from ht) with rfl | ht
          · simp only
            omega
          · have := ih h4 (by omega) t ht
            omega
      intro t ht
      have := this h4 (by omega) t ht
      omega
    have e1 : en (a, o, m) = a + o.length := rfl
    have e2 : en (((a : Int) + s).toNat, m, o) = ((a : Int) + s).toNat + m.length := rfl
    have hgA : ∀ t ∈ A, a + o.length < t.1 := fun t ht => okS_ge h4 t ht
    rw [eI, unt_cons, unt_cons, grf_cons, grf_cons, gr_cons, e1, e2]
    simp only
    constructor
    · rintro ⟨k1, k2, ⟨k3, k3'⟩, k4⟩
      by_cases hi : i < a
      · rw [if_neg (by omega), grf_low (fun t ht => by have := hgA t ht; omega)] at k4
        have hj : j < ((a : Int) + s).toNat := by omega
        refine ⟨by omega, by omega, ⟨.inl hj, unt_low fun t ht => by have := hge t ht; omega⟩, ?_⟩
        rw [if_neg (by omega), grf_low (fun t ht => by have := hge t ht; omega)]
        omega
      · have hi2 : a + o.length ≤ i := k3.resolve_left hi
        rw [if_pos hi2] at k4
        obtain ⟨q1, q2, q3, q4⟩ := ih.mp ⟨hi2, k2, k3', by omega⟩
        refine ⟨by omega, by omega, ⟨.inr (by omega), q3⟩, ?_⟩
        rw [if_pos (by omega)]
        omega
    · rintro ⟨k1, k2, ⟨k3, k3'⟩, k4⟩
      by_cases hj : j < ((a : Int) + s).toNat
      · rw [if_neg (by omega), grf_low (fun t ht => by have := hge t ht; omega)] at k4
        refine ⟨by omega, by omega, ⟨.inl (by omega), unt_low fun t ht => by have := hgA t ht; omega⟩, ?_⟩
        rw [if_neg (by omega), grf_low (fun t ht => by have := hgA t ht; omega)]
        omega
      · have hj2 : ((a : Int) + s).toNat + m.length ≤ j := k3.resolve_left hj
        rw [if_pos hj2] at k4
        obtain ⟨q1, q2, q3, q4⟩ := ih.mpr ⟨by omega, by omega, k3', by omega⟩
        refine ⟨by omega, q2, ⟨.inr q1, q3⟩, ?_⟩
        rw [if_pos q1]
        omega
end Pm

/-! Pm11: a patch from row to row; two of them one behind the other as the program puts them together. -/
namespace Pm
open PySem PySem.W PyProof.Rows
def sZ (s : Spot) : Int × List Int × List Int := ((s.1 : Int), s.2.1, s.2.2)
def spotG (PA QA : List Spot) (p : Nat × Nat) : Option (Int × List Int × List Int) :=
  (walk (goe PA) (wan QA) p.1 p.2).bind fun o => (walk (goe QA) (wan PA) p.1 p.2).map fun n => ((p.1 : Int) - grW p.1 (goe PA), o, n)
theorem grW_goe {b : Nat} : ∀ X : List Spot, grW b (goe X) = - gr (X.filter fun s => decide (en s < b))
  | [] => rfl
  | s :: X => by
    have ih := grW_goe (b := b) X
    have e : goe (s :: X) = (s.1, en s, s.2.2) :: goe X := rfl
    rw [e]
    unfold grW at ih ⊢
    rw [List.filter_cons, List.filter_cons]
    by_cases h : en s < b
    · rw [if_pos (decide_eq_true h), if_pos (decide_eq_true h), List.map_cons, List.sum_cons, ih, gr_cons]
      have := en_def s
      simp only
      omega
    · rw [if_neg (by simpa using h), if_neg (by simpa using h), ih]
theorem dec_spots {l : Nat} {u : List Int} (hu : u.length = l) {PA QA : List Spot} (okP : okS l 0 PA) (okQ : okS l 0 QA) (hP : ∀ s ∈ PA, hasO u s) (hQ : ∀ s ∈ QA, hasO u s) :
    ∀ {L : List Seg} {m k : Nat} {P Q P0 Q0 : List Spot}, Dec l m k L P Q → PA = P0 ++ P → QA = Q0 ++ Q → (∀ s ∈ P0, en s < k) → (∀ s ∈ Q0, en s < k) → ∀ x : Nat, (x : Int) = m + gr P0 →
      (L.map (fun s => (s.1, s.2.1))).map (spotG PA QA) = ((dsp u x m L).map sZ).map some
  | [], _, _, _, _, _, _, _, _, _, _, _, _, _ => rfl
  | (b, e, P1, Q1) :: L, m, k, P, Q, P0, Q0, h, eP, eQ, h0, g0, x, hx => by
    obtain ⟨hmk, hkb, hbe, hel, oP1, oQ1, cov, P2, Q2, rfl, rfl, hP2, hQ2, hD⟩ := h
    have lo := fit_len (u := u.take e) oP1 (Nat.le_refl b) (by rw [List.length_take]; omega) hbe
    have ih := dec_spots hu okP okQ hP hQ hD (P0 := P0 ++ P1) (Q0 := Q0 ++ Q1) (by rw [eP, List.append_assoc]) (by rw [eQ, List.append_assoc]) (fun s hs => by
      rcases List.mem_append.mp hs with hs | hs
      · have := h0 s hs
        omega
      · have := (okS_each oP1 s hs).1
        omega) (fun s hs => by
      rcases List.mem_append.mp hs with hs | hs
      · have := g0 s hs
        omega
      · have := (okS_each oQ1 s hs).1
        omega) (x + (b - m) + (fitF (u.take e) b P1).length) (by rw [gr_app]; omega)
    have w1 : walk (goe PA) (wan QA) b e = some (fitF (u.take e) b P1) := by
      rw [eP, ← List.append_assoc]
      refine walk_img (by omega) hP2 (fun s hs => ?_) oP1 (Nat.le_refl _) fun p hp1 hp2 => ?_
      · have := h0 s hs
        have := en_def s
        omega
      · rcases cov p hp1 hp2 with z | ⟨s, hs, z1, z2⟩
        · exact .inl z
        · exact .inr (wan_at okQ hQ s (by rw [eQ]; simp [hs]) p z1 z2)
    have w2 : walk (goe QA) (wan PA) b e = some (fitF (u.take e) b Q1) := by
      rw [eQ, ← List.append_assoc]
      refine walk_img (by omega) hQ2 (fun s hs => ?_) oQ1 (Nat.le_refl _) fun p hp1 hp2 => ?_
      · have := g0 s hs
        have := en_def s
        omega
      · rcases cov p hp1 hp2 with ⟨s, hs, z1, z2⟩ | z
        · exact .inr (wan_at okP hP s (by rw [eP]; simp [hs]) p z1 z2)
        · exact .inl z
    have w3 : grW b (goe PA) = - gr P0 := by
      rw [grW_goe, eP, List.filter_append, List.filter_eq_self.mpr fun s hs => decide_eq_true (by have := h0 s hs; omega), List.filter_eq_nil_iff.mpr, List.append_nil]
      intro s hs
      have := en_def s
      rcases List.mem_append.mp hs with hs | hs
      · have := okS_ge oP1 s hs
        simp only [decide_eq_true_eq]
        omega
      · have := hP2 s hs
        simp only [decide_eq_true_eq]
        omega
    have e1 : spotG PA QA (b, e) = some (sZ (x + (b - m), fitF (u.take e) b P1, fitF (u.take e) b Q1)) := by
      unfold spotG sZ
      simp only
      rw [w1, w2, w3]
      have e0 : (b : Int) - -gr P0 = ((x + (b - m) : Nat) : Int) := by omega
      show some ((b : Int) - -gr P0, fitF (u.take e) b P1, fitF (u.take e) b Q1) = _
      rw [e0]
    show spotG PA QA (b, e) :: (L.map (fun s => (s.1, s.2.1))).map (spotG PA QA) = some (sZ (x + (b - m), fitF (u.take e) b P1, fitF (u.take e) b Q1)) :: ((dsp u (x + (b - m) + (fitF (u.take e) b P1).length) e L).map sZ).map some
    rw [e1, ih]
theorem dsp_len {l : Nat} {u : List Int} (hu : u.length = l) : ∀ {L : List Seg} {m k x : Nat} {P Q : List Spot}, Dec l m k L P Q → ∀ s ∈ dsp u x m L, s.2.1.length ≤ (fitF u m P).length ∧ s.2.2.length ≤ (fitF u m Q).length
  | [], _, _, _, _, _, _, s, h => nomatch h
  | (b, e, P1, Q1) :: L, m, k, x, P, Q, h, s, hs => by
    obtain ⟨hmk, hkb, hbe, hel, oP1, oQ1, cov, P2, Q2, rfl, rfl, hP2, hQ2, hD⟩ := h
    rw [fit_seg hu (by omega) hbe hel oP1 hP2, fit_seg hu (by omega) hbe hel oQ1 hQ2]
    simp only [List.length_append]
    rcases List.mem_cons.mp (show s ∈ (x + (b - m), fitF (u.take e) b P1, fitF (u.take e) b Q1) :: dsp u (x + (b - m) + (fitF (u.take e) b P1).length) e L from hs) with rfl | hs
    · simp only
      omega
    · have := dsp_len hu hD s hs
      omega
theorem bp_at {r : List Int} {b : Nat} : ∀ e ∈ bp b r, r[e.1 - b]? = some e.2 := by
  induction r generalizing b with
  | nil => intro e h; exact nomatch h
  | cons x r ih =>
    intro e h
    rcases List.mem_cons.mp h with rfl | h
    · simp
    · have := bp_mem e h
      have z := ih e h
      rw [show e.1 - b = (e.1 - (b + 1)) + 1 by omega]
      simpa using z
theorem wan_mem {u : List Int} {B : List Spot} (h : ∀ s ∈ B, hasO u s) : ∀ e ∈ wan B, u[e.1]? = some e.2 := fun e he => by
  obtain ⟨s, hs, he⟩ := List.mem_flatMap.mp he
  have h1 := bp_mem e he
  have h2 := bp_at e he
  have h3 := h s hs (e.1 - s.1) (by omega)
  rw [show s.1 + (e.1 - s.1) = e.1 by omega] at h3
  rw [h3, h2]
theorem lkA_some {α : Type} {p : Nat} {y : α} {T : List (Nat × α)} (h : lkA T p = some y) : (p, y) ∈ T := by
  unfold lkA at h
  obtain ⟨e, h1, h2⟩ := Option.map_eq_some_iff.mp h
  have h3 := List.find?_some h1
  have h4 := List.mem_of_find?_eq_some h1
  have h5 : e.1 = p := of_decide_eq_true h3
  subst h2
  subst h5
  exact h4
theorem wt_le {n : Nat} {w : List Int} (hw : w.length = n) : ∀ {S : List Spot} {l e : Nat}, okS n l S → e ≤ l → wt S ≤ (n + 1 - l) + (fitF w e S).length
  | [], _, _, _, _ => by simp [wt]
  | (a, o, m) :: g, l, e, h, hel => by
    obtain ⟨h1, h2, h3, _, _, h4⟩ := h
    have ih := wt_le hw (e := a + o.length) h4 (by omega)
    rw [wt_cons]
    show _ ≤ _ + ((w.drop e).take (a - e) ++ m ++ fitF w (a + o.length) g).length
    simp only [List.length_append, List.length_take, List.length_drop, hw]
    omega
/-! ### a patch from row to row -/
structure Pt (n : Nat) (S : List Spot) (w : List Int) (K : Nat → Nat → Prop) (v : List Int) : Prop where
  len : w.length = n
  r : isR w
  ok : okS n 0 S
  has : ∀ s ∈ S, hasO w s
  fit : fitF w 0 S = v
  k : ∀ i j, K i j ↔ (i < n ∧ unt S i ∧ (j : Int) = i + grf S i)
def kept (n : Nat) (S : List Spot) : Nat → Nat → Prop := fun i j => i < n ∧ unt S i ∧ (j : Int) = i + grf S i
theorem Pt.mk0 {n : Nat} {S : List Spot} {w : List Int} (h1 : w.length = n) (h2 : isR w) (h3 : okS n 0 S) (h4 : ∀ s ∈ S, hasO w s) : Pt n S w (kept n S) (fitF w 0 S) := ⟨h1, h2, h3, h4, rfl, fun _ _ => Iff.rfl⟩
theorem Pt.rv {n : Nat} {S : List Spot} {w v : List Int} {K : Nat → Nat → Prop} (p : Pt n S w K v) : isR v := by
  rw [← p.fit]
  exact fit_isR p.r p.ok
theorem Pt.lv {n : Nat} {S : List Spot} {w v : List Int} {K : Nat → Nat → Prop} (p : Pt n S w K v) : (n : Int) + gr S = v.length := by
  have := fit_len (u := w) p.ok (Nat.le_refl 0) p.len (Nat.zero_le _)
  rw [p.fit] at this
  omega
theorem Pt.wt {n : Nat} {S : List Spot} {w v : List Int} {K : Nat → Nat → Prop} (p : Pt n S w K v) : wt S ≤ n + 1 + v.length := by
  have := wt_le p.len p.ok (Nat.le_refl 0)
  rw [p.fit] at this
  omega
theorem Pt.uniq {n m : Nat} {S T : List Spot} {w v : List Int} {K : Nat → Nat → Prop} (p : Pt n S w K v) (q : Pt m T w K v) : n = m ∧ S = T := by
  have e : n = m := p.len.symm.trans q.len
  subst e
  refine ⟨rfl, uq p.ok q.ok (Nat.le_refl 0) p.len (Nat.zero_le _) p.has q.has (fun i _ hi => ?_) (p.fit.trans q.fit.symm)⟩
  have nS := bh_nn p.ok i
  have nT := bh_nn q.ok i
  have eS : bh S i = (i : Int) + grf S i := rfl
  have eT : bh T i = (i : Int) + grf T i := rfl
  have a1 : unt S i → unt T i ∧ grf S i = grf T i := fun h => by
    have z := (q.k i ((i : Int) + grf S i).toNat).mp ((p.k i _).mpr ⟨hi, h, by omega⟩)
    exact ⟨z.2.1, by omega⟩
  have a2 : unt T i → unt S i ∧ grf T i = grf S i := fun h => by
    have z := (p.k i ((i : Int) + grf T i).toNat).mp ((q.k i _).mpr ⟨hi, h, by omega⟩)
    exact ⟨z.2.1, by omega⟩
  exact ⟨⟨fun h => (a1 h).1, fun h => (a2 h).1⟩, fun h => (a2 h).2.symm⟩
theorem Pt.inv {n : Nat} {S : List Spot} {w v : List Int} {K : Nat → Nat → Prop} (p : Pt n S w K v) : Pt v.length (inv 0 S) v (fun j i => K i j) w := by
  obtain ⟨i1, i2, i3⟩ := inv_fit p.len (A := S) (l := 0) (e := 0) (s := 0) (X := []) p.ok (Nat.le_refl _) (Nat.zero_le _) p.has rfl
  simp only [List.length_nil, List.nil_append, Nat.zero_add, p.fit, List.drop_zero] at i1 i2 i3
  refine ⟨rfl, p.rv, i1, i2, i3, fun j i => ?_⟩
  rw [p.k]
  have z := kp_inv (A := S) (l := 0) (e := 0) (s := 0) p.ok (Nat.le_refl _) (Nat.zero_le _) (Int.le_refl _) i j
  have hl := p.lv
  constructor
  · rintro ⟨a, b, c⟩
    obtain ⟨c1, c2, c3, c4⟩ := z.mp ⟨Nat.zero_le _, a, b, by omega⟩
    exact ⟨by omega, c3, by omega⟩
  · rintro ⟨a, b, c⟩
    obtain ⟨c1, c2, c3, c4⟩ := z.mpr ⟨by omega, by omega, b, by omega⟩
    exact ⟨c2, c3, by omega⟩
def comp (K1 K2 : Nat → Nat → Prop) : Nat → Nat → Prop := fun i j => ∃ p, K1 i p ∧ K2 p j
theorem comp_assoc (a b c : Nat → Nat → Prop) : comp (comp a b) c = comp a (comp b c) := by
  funext i j
  exact propext ⟨fun ⟨p, ⟨q, x, y⟩, z⟩ => ⟨q, x, p, y, z⟩, fun ⟨q, x, p, y, z⟩ => ⟨p, ⟨q, x, y⟩, z⟩⟩
theorem ends_goe (X : List Spot) : ends (goe X) = ivs X := by
  unfold ends goe ivs
  rw [List.map_map]
  rfl
theorem Pt.chain {l1 l2 : Nat} {A B : List Spot} {w u v : List Int} {KA KB : Nat → Nat → Prop} (a : Pt l1 A w KA u) (b : Pt l2 B u KB v) :
    unl A B = [] ∧ (l1 : Int) + gr A = l2 ∧ ∃ ss, (∃ L : List (Int × List Int × List Int), (spansOf A B).map (spotO A B) = L.map some ∧ (∀ z ∈ L, z.2.1.length ≤ w.length ∧ z.2.2.length ≤ v.length) ∧ L.filter big = ss.map sZ) ∧ Pt l1 ss w (comp KA KB) v := by
  have pi := a.inv
  have lu : u.length = l2 := b.len
  have eL : (l1 : Int) + gr A = l2 := by
    have := a.lv
    omega
  have hok : okS l2 0 (Pm.inv 0 A) := by
    have := pi.ok
    rw [lu] at this
    exact this
  have gP : goe (Pm.inv 0 A) = cam 0 A := goe_inv
  have wP : wan (Pm.inv 0 A) = pin 0 A := wan_inv
  refine ⟨?_, eL, ?_⟩
  · unfold unl
    rw [← wP, List.map_eq_nil_iff, List.filter_eq_nil_iff]
    intro e he
    have h1 := wan_mem pi.has e he
    cases h2 : lkA (wan B) e.1 with
    | none => simp
    | some y =>
      have h3 := wan_mem b.has (e.1, y) (lkA_some h2)
      simp only at h3
      rw [h1] at h3
      have h4 : e.2 = y := Option.some.inj h3
      simp [h4]
  · have hin : ∀ i ∈ ivs (Pm.inv 0 A) ++ ivs B, i.1 ≤ i.2 := fun i hi => by
      rcases List.mem_append.mp hi with hi | hi
      · obtain ⟨s, _, rfl⟩ := List.mem_map.mp hi
        simp only [en_def]
        omega
      · obtain ⟨s, _, rfl⟩ := List.mem_map.mp hi
        simp only [en_def]
        omega
    obtain ⟨L, hL, hR⟩ := dec_mk (Nat.le_refl 0) (Nat.zero_le l2) hok b.ok (spans_sp hin)
    have hsp : spansOf A B = L.map fun s => (s.1, s.2.1) := by
      rw [hR]
      unfold spansOf
      rw [← gP, ends_goe, ends_goe]
    have hso : spotO A B = spotG (Pm.inv 0 A) B := by
      funext p
      unfold spotO spotG
      rw [gP, wP]
    obtain ⟨f1, f2, f3⟩ := dec_fit lu b.r hL []
    have hfw : fitF u 0 (Pm.inv 0 A) = w := pi.fit
    simp only [List.length_nil, List.nil_append, Nat.zero_add, Nat.sub_self, hfw] at f1 f2 f3
    refine ⟨(dsp u 0 0 L).filter ne, ⟨(dsp u 0 0 L).map sZ, ?_, fun z hz => ?_, ?_⟩, ⟨a.len, a.r, ?_, f2, ?_, fun i j => ?_⟩⟩
    · rw [hsp, hso]
      exact dec_spots lu hok b.ok pi.has b.has hL (P0 := []) (Q0 := []) rfl rfl (fun _ h => nomatch h) (fun _ h => nomatch h) 0 rfl
    · obtain ⟨s, hs, rfl⟩ := List.mem_map.mp hz
      have := dsp_len lu hL s hs
      rw [hfw, b.fit] at this
      exact this
    · rw [List.filter_map]
      rfl
    · rw [a.len] at f1
      exact f1
    · rw [f3]
      exact b.fit
    · have hk := dec_kp lu hL 0 0 i j
      rw [hfw] at hk
      have key : ∀ p : Nat, KA i p ↔ (p < l2 ∧ unt (Pm.inv 0 A) p ∧ (i : Int) = p + grf (Pm.inv 0 A) p) := fun p => by
        have := pi.k p i
        rw [lu] at this
        exact this
      constructor
      · rintro ⟨p, h1, h2⟩
        obtain ⟨a1, a2, a3⟩ := (key p).mp h1
        obtain ⟨b1, b2, b3⟩ := (b.k p j).mp h2
        obtain ⟨c1, c2, c3, c4⟩ := hk.mpr ⟨p, Nat.zero_le _, a1, a2, b2, by simp only [Int.natCast_zero]; omega, by simp only [Int.natCast_zero]; omega⟩
        have := a.len
        refine ⟨by omega, c3, ?_⟩
        simp only [Int.natCast_zero] at c4
        omega
      · rintro ⟨h1, h2, h3⟩
        have := a.len
        obtain ⟨p, p1, p2, p3, p4, p5, p6⟩ := hk.mp ⟨Nat.zero_le _, by omega, h2, by simp only [Int.natCast_zero]; omega⟩
        simp only [Int.natCast_zero] at p5 p6
        exact ⟨p, (key p).mpr ⟨p2, p3, by omega⟩, (b.k p j).mpr ⟨p2, p4, by omega⟩⟩
end Pm

/-! Pm12: several patches one behind the other; what only looks. -/
namespace Pm
open PySem PySem.W PyProof.Rows
theorem inv_app : ∀ (A B : List Spot) (s : Int), inv s (A ++ B) = inv s A ++ inv (s + gr A) B
  | [], B, s => by simp [inv, gr]
  | (a, o, n) :: A, B, s => by
    simp only [List.cons_append, inv]
    rw [inv_app A B, gr_cons]
    simp only
    rw [show s + (n.length : Int) - o.length + gr A = s + ((n.length : Int) - o.length + gr A) by omega]
theorem wt_inv : ∀ (A : List Spot) (s : Int), wt (inv s A) = wt A
  | [], _ => rfl
  | (a, o, n) :: A, s => by
    show wt ((((a : Int) + s).toNat, n, o) :: inv (s + n.length - o.length) A) = _
    rw [wt_cons, wt_cons, wt_inv]
    simp only
    omega
theorem inv_len : ∀ (A : List Spot) (s : Int), (inv s A).length = A.length
  | [], _ => rfl
  | (a, o, n) :: A, s => by
    show (inv (s + n.length - o.length) A).length + 1 = A.length + 1
    rw [inv_len]
abbrev Pat := Nat × List Spot
def PtL : List Pat → List Int → (Nat → Nat → Prop) → List Int → Prop
  | [], _, _, _ => False
  | [p], w, K, v => Pt p.1 p.2 w K v ∧ w.length ≤ 300 ∧ v.length ≤ 300
  | p :: q :: r, w, K, v => ∃ u K1 K2, Pt p.1 p.2 w K1 u ∧ w.length ≤ 300 ∧ PtL (q :: r) u K2 v ∧ K = comp K1 K2
theorem PtL_cons {p : Pat} {l : List Pat} (h : l ≠ []) {w v : List Int} {K : Nat → Nat → Prop} : PtL (p :: l) w K v ↔ ∃ u K1 K2, Pt p.1 p.2 w K1 u ∧ w.length ≤ 300 ∧ PtL l u K2 v ∧ K = comp K1 K2 := by
  cases l with
  | nil => exact absurd rfl h
  | cons q r => exact Iff.rfl
theorem PtL_le : ∀ {l : List Pat} {w v : List Int} {K : Nat → Nat → Prop}, PtL l w K v → w.length ≤ 300
  | [], _, _, _, h => h.elim
  | [p], _, _, _, h => h.2.1
  | p :: q :: r, _, _, _, ⟨_, _, _, _, h, _⟩ => h
theorem PtL_rep : ∀ {pre : List Pat} {p q : Pat} {post : List Pat} {w v : List Int} {K : Nat → Nat → Prop}, PtL (pre ++ p :: q :: post) w K v →
    ∃ u1 u2 u3 K1 K2, Pt p.1 p.2 u1 K1 u2 ∧ Pt q.1 q.2 u2 K2 u3 ∧ u1.length ≤ 300 ∧ u2.length ≤ 300 ∧ u3.length ≤ 300 ∧ ∀ c : Pat, Pt c.1 c.2 u1 (comp K1 K2) u3 → PtL (pre ++ c :: post) w K v
  | [], p, q, post, w, v, K, h => by
    obtain ⟨u, K1, K2, h1, h2, h3, rfl⟩ := (show PtL (p :: q :: post) w K v from h)
    cases post with
    | nil =>
      obtain ⟨h4, h5, h6⟩ := h3
      exact ⟨w, u, v, K1, K2, h1, h4, h2, h5, h6, fun c hc => ⟨hc, h2, h6⟩⟩
    | cons r s =>
      obtain ⟨u3, Kq, Kr, h4, h5, h6, rfl⟩ := h3
      refine ⟨w, u, u3, K1, Kq, h1, h4, h2, h5, PtL_le h6, fun c hc => ⟨u3, comp K1 Kq, Kr, hc, h2, h6, ?_⟩⟩
      rw [comp_assoc]
  | x :: pre, p, q, post, w, v, K, h => by
    obtain ⟨u, K1, K2, h1, h2, h3, rfl⟩ := (PtL_cons (by simp)).mp (show PtL (x :: (pre ++ p :: q :: post)) w K v from h)
    obtain ⟨a, b, c, Ka, Kb, z1, z2, z3, z4, z5, z6⟩ := PtL_rep h3
    exact ⟨a, b, c, Ka, Kb, z1, z2, z3, z4, z5, fun d hd => (PtL_cons (by simp)).mpr ⟨u, K1, K2, h1, h2, z6 d hd, rfl⟩⟩
/-- one more behind -/
theorem PtL_snoc : ∀ {l : List Pat} {p : Pat} {w u v : List Int} {K K2 : Nat → Nat → Prop}, PtL l w K u → Pt p.1 p.2 u K2 v → v.length ≤ 300 → PtL (l ++ [p]) w (comp K K2) v
  | [], _, _, _, _, _, _, h, _, _ => h.elim
  | [x], p, w, u, v, K, K2, ⟨h1, h2, h3⟩, h4, h5 => ⟨u, K, K2, h1, h2, ⟨h4, h3, h5⟩, rfl⟩
  | x :: y :: r, p, w, u, v, K, K2, ⟨u1, Ka, Kb, h1, h2, h3, e⟩, h4, h5 => by
    subst e
    have ih := PtL_snoc h3 h4 h5
    refine (PtL_cons (by simp)).mpr ⟨u1, Ka, comp Kb K2, h1, h2, ih, ?_⟩
    rw [comp_assoc]
def flip (K : Nat → Nat → Prop) : Nat → Nat → Prop := fun i j => K j i
theorem flip_comp (K1 K2 : Nat → Nat → Prop) : flip (comp K1 K2) = comp (flip K2) (flip K1) := by
  funext i j
  exact propext ⟨fun ⟨p, a, b⟩ => ⟨p, b, a⟩, fun ⟨p, a, b⟩ => ⟨p, b, a⟩⟩
/-- turned back, in the other order -/
def backP (p : Pat) : Pat := (((p.1 : Int) + gr p.2).toNat, inv 0 p.2)
theorem Pt.back {p : Pat} {w v : List Int} {K : Nat → Nat → Prop} (h : Pt p.1 p.2 w K v) : Pt (backP p).1 (backP p).2 v (flip K) w := by
  have e : (backP p).1 = v.length := by
    have := h.lv
    unfold backP
    simp only
    omega
  rw [e]
  exact h.inv
theorem PtL_back : ∀ {l : List Pat} {w v : List Int} {K : Nat → Nat → Prop}, PtL l w K v → PtL (l.reverse.map backP) v (flip K) w
  | [], _, _, _, h => h.elim
  | [p], w, v, K, ⟨h1, h2, h3⟩ => ⟨h1.back, h3, h2⟩
  | p :: q :: r, w, v, K, ⟨u, K1, K2, h1, h2, h3, e⟩ => by
    subst e
    have ih := PtL_back h3
    rw [flip_comp, List.reverse_cons, List.map_append]
    exact PtL_snoc ih h1.back h2
/-! ### what only looks -/
def seenS (S : List Spot) : List Spot := (S.filter fun s => !s.2.1.isEmpty).map fun s => (s.1, s.2.1, s.2.1)
theorem seen_mem {S : List Spot} {t : Spot} (h : t ∈ seenS S) : ∃ s ∈ S, s.2.1 ≠ [] ∧ t = (s.1, s.2.1, s.2.1) := by
  obtain ⟨s, hs, rfl⟩ := List.mem_map.mp h
  obtain ⟨h1, h2⟩ := List.mem_filter.mp hs
  exact ⟨s, h1, by simpa using h2, rfl⟩
theorem mem_seen {S : List Spot} {s : Spot} (h : s ∈ S) (h2 : s.2.1 ≠ []) : (s.1, s.2.1, s.2.1) ∈ seenS S :=
  List.mem_map.mpr ⟨s, List.mem_filter.mpr ⟨h, by simpa using h2⟩, rfl⟩
theorem fit_same {w : List Int} {n : Nat} (hw : w.length = n) : ∀ {S : List Spot} {l e : Nat}, okS n l S → e ≤ l → e ≤ n → (∀ s ∈ S, hasO w s ∧ s.2.2 = s.2.1) → fitF w e S = w.drop e
  | [], _, _, _, _, _, _ => rfl
  | (a, o, m) :: g, l, e, h, hel, hen, hO => by
    obtain ⟨h1, h2, h3, _, _, h4⟩ := h
    obtain ⟨z1, z2⟩ := hO (a, o, m) List.mem_cons_self
    simp only at z2
    subst z2
    have ih := fit_same hw (e := a + m.length) h4 (by omega) h2 fun s hs => hO s (List.mem_cons_of_mem _ hs)
    have how : (w.drop a).take m.length = m := by
      refine List.ext_getElem? fun j => ?_
      by_cases hj : j < m.length
      · have z := z1 j hj
        simp only at z
        rw [List.getElem?_take_of_lt hj, List.getElem?_drop, z]
      · rw [List.getElem?_eq_none (by rw [List.length_take]; omega), List.getElem?_eq_none (by omega)]
    show (w.drop e).take (a - e) ++ m ++ fitF w (a + m.length) g = _
    rw [ih, List.append_assoc]
    have e3 : m ++ w.drop (a + m.length) = w.drop a := by
      conv => rhs; rw [← List.take_append_drop m.length (w.drop a)]
      rw [List.drop_drop, how]
    rw [e3, show w.drop a = (w.drop e).drop (a - e) by rw [List.drop_drop]; congr 1; omega, List.take_append_drop]
theorem gr_same : ∀ {S : List Spot}, (∀ s ∈ S, s.2.2 = s.2.1) → gr S = 0
  | [], _ => rfl
  | s :: S, h => by
    rw [gr_cons, h s List.mem_cons_self, gr_same fun t ht => h t (List.mem_cons_of_mem _ ht)]
    omega
theorem Pt.seen {n : Nat} {S : List Spot} {w v : List Int} {K : Nat → Nat → Prop} (p : Pt n S w K v) : Pt n (seenS S) w (comp K (flip K)) w := by
  have ok : okS n 0 (seenS S) := by
    obtain ⟨a, b, c⟩ := okS_iff.mp p.ok
    refine okS_iff.mpr ⟨fun t ht => ?_, fun _ _ => Nat.zero_le _, ?_⟩
    · obtain ⟨s, hs, h1, rfl⟩ := seen_mem ht
      obtain ⟨x, y, z, _⟩ := a s hs
      have : 0 < s.2.1.length := List.length_pos_iff.mpr h1
      exact ⟨x, by simp only; omega, z, z⟩
    · unfold seenS
      exact List.pairwise_map.mpr ((c.filter _).imp fun {x y} h => h)
  have same : ∀ t ∈ seenS S, t.2.2 = t.2.1 := fun t ht => by
    obtain ⟨s, hs, h1, rfl⟩ := seen_mem ht
    rfl
  have has : ∀ t ∈ seenS S, hasO w t := fun t ht => by
    obtain ⟨s, hs, h1, rfl⟩ := seen_mem ht
    exact p.has s hs
  refine ⟨p.len, p.r, ok, has, ?_, fun i j => ?_⟩
  · rw [fit_same p.len ok (Nat.le_refl 0) (Nat.zero_le _) fun t ht => ⟨has t ht, same t ht⟩, List.drop_zero]
  · have u1 : unt (seenS S) i ↔ unt S i := by
      constructor
      · intro h s hs
        by_cases h0 : s.2.1 = []
        · have : s.2.1.length = 0 := by rw [h0]; rfl
          have := en_def s
          omega
        · exact h (s.1, s.2.1, s.2.1) (mem_seen hs h0)
      · intro h t ht
        obtain ⟨s, hs, h1, rfl⟩ := seen_mem ht
        exact h s hs
    have g1 : grf (seenS S) i = 0 := by
      unfold grf
      exact gr_same fun t ht => same t (List.mem_filter.mp ht).1
    have nn := bh_nn p.ok i
    have eS : bh S i = (i : Int) + grf S i := rfl
    rw [u1, g1]
    constructor
    · rintro ⟨q, a, b⟩
      obtain ⟨a1, a2, a3⟩ := (p.k i q).mp a
      have b' : K j q := b
      obtain ⟨b1, b2, b3⟩ := (p.k j q).mp b'
      refine ⟨a1, a2, ?_⟩
      -- what is kept comes from one place
      have one : ∀ {x y : Nat}, x < y → unt S x → unt S y → (x : Int) + grf S x < y + grf S y := by
        intro x y hxy hx hy
        have hlow := gr_low (B := S) (l := 0) (p := x + 1) (x := x) (y := y) p.ok (by omega) (by omega) fun u hu h1 h2 => by
          rcases hx u hu with z | z
          · by_cases h0 : u.2.1.length = 0
            · exact .inl h0
            · exact .inr z
          · omega
        unfold grf
        unfold bh at *
        omega
      rcases Nat.lt_trichotomy i j with z | z | z
      · have := one z a2 b2
        omega
      · omega
      · have := one z b2 a2
        omega
    · rintro ⟨a1, a2, a3⟩
      have e : i = j := by omega
      subst e
      exact ⟨((i : Int) + grf S i).toNat, (p.k i _).mpr ⟨a1, a2, by omega⟩, (p.k i _).mpr ⟨a1, a2, by omega⟩⟩
end Pm

/-! Pm13: nothing changed; rows that follow one another. -/
namespace Pm
open PySem PySem.W PyProof.Rows
theorem gr_le : ∀ {S : List Spot} {m : Nat}, (∀ s ∈ S, s.2.2.length ≤ m) → gr S ≤ m * S.length
  | [], m, _ => by simp [gr]
  | s :: S, m, h => by
    have h1 := h s List.mem_cons_self
    have ih := gr_le fun t ht => h t (List.mem_cons_of_mem _ ht)
    rw [gr_cons, List.length_cons]
    have e : ((m : Int) * ((S.length + 1 : Nat) : Int)) = m * S.length + m := by
      rw [Int.natCast_add, Int.mul_add]
      simp
    rw [e]
    omega
theorem Pt.nil {w : List Int} (h : isR w) : Pt w.length [] w (kept w.length []) w := by
  have z := Pt.mk0 (n := w.length) (S := []) (w := w) rfl h trivial fun _ h => nomatch h
  have e : fitF w 0 [] = w := List.drop_zero
  rw [e] at z
  exact z
theorem Pt.idl {n : Nat} {S : List Spot} {w v : List Int} {K : Nat → Nat → Prop} (p : Pt n S w K v) : comp (kept w.length []) K = K := by
  funext i j
  refine propext ⟨fun ⟨q, ⟨a, _, c⟩, b⟩ => ?_, fun h => ⟨i, ⟨?_, (fun _ h => nomatch h), by show (i : Int) = i + 0; omega⟩, h⟩⟩
  · have e : q = i := by
      have c' : (q : Int) = i + 0 := c
      omega
    subst e
    exact b
  · have := (p.k i j).mp h
    have := p.len
    omega
theorem Pt.idr {n : Nat} {S : List Spot} {w v : List Int} {K : Nat → Nat → Prop} (p : Pt n S w K v) : comp K (kept v.length []) = K := by
  funext i j
  refine propext ⟨fun ⟨q, b, ⟨a, _, c⟩⟩ => ?_, fun h => ⟨j, h, ?_, (fun _ h => nomatch h), by show (j : Int) = j + 0; omega⟩⟩
  · have e : j = q := by
      have c' : (j : Int) = q + 0 := c
      omega
    subst e
    exact b
  · exact ((p.inv.k j i).mp h).1
theorem PtL_mem : ∀ {l : List Pat} {w v : List Int} {K : Nat → Nat → Prop}, PtL l w K v → ∀ p ∈ l, ∃ w1 v1 K1, w1.length ≤ 300 ∧ v1.length ≤ 300 ∧ Pt p.1 p.2 w1 K1 v1
  | [], _, _, _, h, _, _ => h.elim
  | [q], w, v, K, ⟨h1, h2, h3⟩, p, hp => by
    rw [List.mem_singleton.mp hp]
    exact ⟨w, v, K, h2, h3, h1⟩
  | q :: r :: s, w, v, K, ⟨u, K1, K2, h1, h2, h3, _⟩, p, hp => by
    rcases List.mem_cons.mp hp with rfl | hp
    · exact ⟨w, u, K1, h2, PtL_le h3, h1⟩
    · exact PtL_mem h3 p hp
/-- each patch leads from its row to the next -/
def Row1 (ls : List Pat) (lines : List (List Int)) : Prop := ∀ i p, ls[i]? = some p → ∃ w v K, lines[i]? = some w ∧ lines[i + 1]? = some v ∧ Pt p.1 p.2 w K v
theorem Row1.snoc {ls : List Pat} {lines : List (List Int)} {w v : List Int} {p : Pat} {K : Nat → Nat → Prop} (h : Row1 ls (lines ++ [w])) (hl : lines.length = ls.length) (hp : Pt p.1 p.2 w K v) : Row1 (ls ++ [p]) (lines ++ [w] ++ [v]) := fun i q hq => by
  by_cases hi : i < ls.length
  · rw [List.getElem?_append_left hi] at hq
    obtain ⟨a, b, c, h1, h2, h3⟩ := h i q hq
    refine ⟨a, b, c, ?_, ?_, h3⟩
    · rw [List.getElem?_append_left (List.getElem?_eq_some_iff.mp h1).1]
      exact h1
    · rw [List.getElem?_append_left (List.getElem?_eq_some_iff.mp h2).1]
      exact h2
  · have e : i = ls.length := by
      have := (List.getElem?_eq_some_iff.mp hq).1
      rw [List.length_append] at this
      simp at this
      omega
    subst e
    simp at hq
    subst hq
    refine ⟨w, v, K, ?_, ?_, hp⟩
    · rw [← hl]
      simp
    · rw [← hl]
      simp
end Pm

namespace Pa
open PySem PySem.Spec PyProof.Rows L2 Br
def topS (i : Nat) : Stmt := PySem.Challenge.pw_byteround_k75_whole_patches_as_deeds.main.body.getD i (.Pass ⟨0, 0, 0, 0⟩)
def pen (cells : List Int) (nth left : Int) : List (Key × D) := [(.inr "cells", .lst (cells.map D.int)), (.inr "at", .int nth), (.inr "left", .int left)]
theorem pen_cells {c : List Int} {n l : Int} : lookD (pen c n l) (.inr "cells") = some (.lst (c.map D.int)) := rfl
theorem pen_nth {c : List Int} {n l : Int} : lookD (pen c n l) (.inr "at") = some (.int n) := rfl
theorem pen_left {c : List Int} {n l : Int} : lookD (pen c n l) (.inr "left") = some (.int l) := rfl
theorem put_nth {c : List Int} {n l m : Int} : putD (pen c n l) (.inr "at") (.int m) = pen c m l := rfl
theorem put_left {c : List Int} {n l m : Int} : putD (pen c n l) (.inr "left") (.int m) = pen c n m := rfl
/-- the store o, a pen of the cells at k, of at most b draws -/
def Pn (k : Nat) (cells : List Int) (b : Int) (o os : Os) : Prop := ∃ nth left, os = o.set k (.md (pen cells nth left)) ∧ k < o.length ∧ (0 ≤ nth ∧ nth ≤ b) ∧ 0 ≤ left
theorem Pn.mono {k : Nat} {cells : List Int} {b c : Int} {o os : Os} (h : Pn k cells b o os) (hb : b ≤ c) : Pn k cells c o os := by
  obtain ⟨n, l, e, hk, hn, hl⟩ := h
  exact ⟨n, l, e, hk, ⟨hn.1, by omega⟩, hl⟩
theorem Pn.len {k : Nat} {cells : List Int} {b : Int} {o os : Os} (h : Pn k cells b o os) : os.length = o.length := by
  obtain ⟨n, l, e, _⟩ := h
  rw [e, List.length_set]
theorem Pn.ret {k : Nat} {cells : List Int} {b c : Int} {o os os2 : Os} {d : D} {QA : D → Os → Prop} (h : Pn k cells b o os) (h2 : Pn k cells c o os2) (q : QA d os2) : RetOk os.length QA (.d d) os2 := by
  show QA d (os2.take os.length)
  rw [List.take_of_length_le (by rw [h.len, h2.len]; exact Nat.le_refl _)]
  exact q
theorem Pn.push {k : Nat} {cells : List Int} {b : Int} {o os : Os} (x : Ob) (h : Pn k cells b o os) : Pn k cells b (o ++ [x]) (os ++ [x]) := by
  obtain ⟨n, l, e, hk, hn, hl⟩ := h
  exact ⟨n, l, by rw [e, List.set_append_left _ _ hk], by rw [List.length_append]; omega, hn, hl⟩
theorem Pn.pop {k : Nat} {cells : List Int} {b : Int} {o os2 : Os} {x : Ob} (hk : k < o.length) (h : Pn k cells b (o ++ [x]) os2) : ∃ os3, os2 = os3 ++ [x] ∧ Pn k cells b o os3 := by
  obtain ⟨n, l, e, _, hn, hl⟩ := h
  exact ⟨o.set k _, by rw [e, List.set_append_left _ _ hk], n, l, rfl, hk, hn, hl⟩
def fDraw : FD := fun ds os QA _ => ∃ (k : Nat) (span : Int) (cells : List Int) (b : Int) (o : Os), ds = [.o k, .d (.int span)] ∧ Pn k cells b o os ∧ (0 < span ∧ span < 2 ^ 64) ∧ b < 2 ^ 39 ∧
  ∀ d os', 0 ≤ d → d < span → Pn k cells (b + 1) o os' → QA (.int d) os'
theorem draw_raw {ds : List Sv} {os : Os} {QA : D → Os → Prop} {EA : Xa} (h : fDraw ds os QA EA) : ∃ (k : Nat) (span : Int) (cells : List Int) (nth left : Int), ds = [.o k, .d (.int span)] ∧ os[k]? = some (.md (pen cells nth left)) ∧ (0 < span ∧ span < 2 ^ 64) ∧ (0 ≤ nth ∧ nth < 2 ^ 40) ∧ 0 ≤ left ∧
  ∀ d nth' left', 0 ≤ d → d < span → nth ≤ nth' → nth' ≤ nth + 1 → 0 ≤ left' → QA (.int d) (os.set k (.md (pen cells nth' left'))) := by
  obtain ⟨k, span, cells, b, o, e, ⟨nth, left, eo, hk, hn, hl⟩, hs, hb, q⟩ := h
  subst eo
  exact ⟨k, span, cells, nth, left, e, List.getElem?_set_self hk, hs, ⟨hn.1, by omega⟩, hl, fun d n2 l2 h0 h1 h2 h3 h4 => q d _ h0 h1 ⟨n2, l2, List.set_set .., hk, ⟨by omega, by omega⟩, h4⟩⟩
local macro_rules | `(tactic| walk_at "side") => `(tactic| first
  | exact c_divS (by omega) (by omega)
  | exact c_mulS (by omega) (by omega)
  | omega
  | (dsimp only; omega)
  | decide
  | exact ⟨by decide, by decide, by decide⟩)
local macro_rules | `(tactic| walk_at "b") => `(tactic| first
  | with_reducible refine w_seq ?_
  | with_reducible refine w_next ?_
  | with_reducible refine w_ret ?_
  | with_reducible refine w_if ?_
  | ((with_reducible refine w_asg ?_); (try dsimp only [List.set_cons_zero, List.set_cons_succ]))
  | ((with_reducible refine w_dputS ?_); (try dsimp only [List.set_cons_zero, List.set_cons_succ]))
  | with_reducible refine br_T ?_
  | with_reducible refine br_F ?_
  | with_reducible refine tw_test ?_
  | with_reducible refine tw_and ?_
  | with_reducible refine tw_or ?_
  | with_reducible refine tw_not ?_
  | with_reducible refine tw_B ?_
  | with_reducible refine ew_int ?_
  | with_reducible refine ew_str ?_
  | with_reducible refine ew_bl ?_
  | with_reducible refine ew_non ?_
  | ((with_reducible refine ew_var (d := ?hd) ?hv ?_); (case hv => exact rfl))
  | ((with_reducible refine ew_op ?_); (try dsimp only))
  | with_reducible refine ew_cb ?_
  | with_reducible refine ew_dgetS ?_
  | with_reducible refine ew_lst2 ?_
  | with_reducible refine ew_tup2 ?_
  | ((with_reducible refine aw_cons ?_); (try dsimp only))
  | with_reducible refine aw_nil ?_
  | with_reducible refine bw_i0 ?_
  | with_reducible refine bw_ib ?_
  | with_reducible refine bw_neNil ?_
  | ((with_reducible refine bw_i ?hc ?_); (case hc => walk_at "side"))
  | with_reducible refine cw_abs ?_
  | with_reducible refine cw_lenL ?_
  | ((with_reducible refine Exists.intro _ (And.intro rfl ?_)); (try dsimp only))
  | ((with_reducible refine And.intro (small_len (Nat.le_of_ble_eq_true rfl)) ?_); (try dsimp only))
  | ((with_reducible refine ⟨_, ?kv, ?dd, rfl, ?ho, ?lk, ?_⟩); (case ho => first | assumption | exact get_set (by assumption)); (case lk => rfl); (try dsimp only))
  | ((with_reducible refine ⟨_, ?kv, _, ?k2, ?o3, rfl, rfl, ?ho, ?lk, ?e1, ?e2, ?_⟩); (case ho => first | assumption | exact get_set (by assumption)); (case lk => exact Nat.le_of_ble_eq_true rfl); (case e1 => first | exact put_nth | exact put_left); (case e2 => first | exact List.set_set .. | rfl); (try dsimp only)))
section
variable {P : Program} {w : World} {K : PySem.W.Frag} {mg : Str → Option Value} {base : Heap}
abbrev s_l_draw : Stmt := topS 33
abbrev N_l_draw : List Str := ["_law_feed_here", "_law_many", "_law_digit", "_law_at", "_law_cell", "_law_number", "_law_turn"]
theorem sc_l_draw : FnScope N_l_draw ["_law_feed_here", "_law_many"] (defScope s_l_draw) := ⟨rfl, rfl, rfl, by decide +kernel, rfl, by decide +kernel, by decide +kernel⟩
theorem ok_l_draw {f : Addr} {fd : FuncData} (F : Fun K "_law_draw" "_law_draw" s_l_draw f fd) (z_len : mg "len" = none) (z_abs : mg "abs" = none) (z_range : mg "range" = none) : FnOk P w K mg base CX0 1 f fd ["_law_feed_here", "_law_many"] (spD K fDraw) := by
  refine F.ok sc_l_draw (fun vs H Q E h => ?_) (fun cdv A outer s H vs Q E hr h => ?_)
  · obtain ⟨as, os, ds, QA, EA, R, r, ⟨k, span, cells, b, o, rfl, _⟩, _⟩ := h
    rw [r.length]
    rfl
  · have hu := hu_of hr
    have hu64 : (A.deeper (envOfC "_law_draw" (defScope s_l_draw) s.heap.objs.size f cdv)).units + 64 < cLine := by
      have := hr.un
      omega
    have passOwn := @PassesOwn.never
    refine ⟨_, (pss_cons (ps_if (pt_cmpR op_gt (pe_dget hu (pv 0) pe_str (fun _ _ => rfl)) pe_int (nomark _)) (pss_cons (ps_set (i := 2) sc_l_draw.nd rfl (Or.inl rfl) (pe_op op_mod (pe_dget hu (pv 0) pe_str (fun _ _ => rfl)) (pv 1)))
    (pss_cons (ps_dput hu (pv 0) pe_str (pe_op op_fdivW (pe_dget hu (pv 0) pe_str (fun _ _ => rfl)) (pv 1)) rfl)
    (pss_one (ps_ret (pv 2))))) pss_nil)
  (pss_cons (ps_set (i := 3) sc_l_draw.nd rfl (Or.inl rfl) (pe_dget hu (pv 0) pe_str (fun _ _ => rfl)))
  (pss_cons (ps_dput hu (pv 0) pe_str (pe_op op_add (pv 3) pe_int) rfl)
  (pss_cons (ps_set (i := 4) sc_l_draw.nd rfl (Or.inl rfl) (pe_op op_add (pe_op op_mulW (pv 3) (pv 3)) pe_int))
  (pss_cons (ps_if (pt_cmpR (op_neD hu64) (pe_dget hu (pv 0) pe_str (fun _ _ => rfl)) (pe_lst pa_nil) (nomark _)) (pss_one (ps_set (i := 4) sc_l_draw.nd rfl (Or.inl rfl) (pe_ix (r := rIxL K) ix_list (pe_dget hu (pv 0) pe_str (fun _ _ => rfl)) (pe_op op_mod (pv 3) (pe_callB call_lenA (by rfl) z_len PySem.boot_len (pa_cons (pe_dget hu (pv 0) pe_str (fun _ _ => rfl)) pa_nil))) (fun _ _ => rfl)))) pss_nil)
  (pss_cons (ps_if (PW.pt (pw_and (pt_cmpR op_lt (pv 3) (pe_callB call_lenA (by rfl) z_len PySem.boot_len (pa_cons (pe_dget hu (pv 0) pe_str (fun _ _ => rfl)) pa_nil)) (nomark _)) (pw_and1 (pt_cmpR op_ge (pe_callB (call_absA rfl) (by rfl) z_abs (by decide +kernel) (pa_cons (pv 4) pa_nil)) (pe_op op_pow pe_int pe_int) (nomark _))))) (pss_cons (ps_dput hu (pv 0) pe_str (pe_op op_fdivW (pe_callB (call_absA rfl) (by rfl) z_abs (by decide +kernel) (pa_cons (pv 4) pa_nil)) (pv 1)) rfl)
    (pss_one (ps_ret (pe_op op_mod (pe_callB (call_absA rfl) (by rfl) z_abs (by decide +kernel) (pa_cons (pv 4) pa_nil)) (pv 1))))) pss_nil)
  (pss_cons (ps_set (i := 5) sc_l_draw.nd rfl (Or.inl rfl) (pe_op op_mod (pe_op op_mulW (pe_op op_add (pe_op op_add (pe_op op_mod (pv 4) pe_int) (pe_op op_mulW pe_int (pv 3))) pe_int) pe_int) pe_int))
  (pss_cons (ps_for PassesOwn.never rfl (pi_range1 (by rfl) z_range (pa_cons pe_int pa_nil)) (pg_name (i := 6) sc_l_draw.nd rfl (Or.inl rfl))
    (pss_cons (ps_set (i := 5) sc_l_draw.nd rfl (Or.inl rfl) (pe_op op_add (pe_op op_add (pe_op op_add (pe_op op_mulW (pv 5) (pv 5)) (pe_op op_mulW pe_int (pv 5))) (pv 3)) (pv 6)))
    (pss_one (ps_set (i := 5) sc_l_draw.nd rfl (Or.inl rfl) (pe_op op_mod (pv 5) pe_int)))))
  (pss_one (ps_ret (pe_op op_mod (pe_op op_fdivW (pv 5) pe_int) (pv 1)))))))))))), read_of h fun ds os QA EA hf => ?_⟩
    obtain ⟨k, span, cells, nth, left, rfl, ho, hs, hn, hl, q⟩ := draw_raw hf
    dsimp only [cxOf, Cx.nox, Cx.wish]
    show W K _ _ _ ⟨[some (.o k), some (.d (.int span)), none, none, none, none, none], os⟩
    repeat (walk_at "b")
    refine br_ite (fun hl0 => ?_) (fun hl0 => ?_)
    · repeat (walk_at "b")
      exact ret_set (q _ _ _ (Int.emod_nonneg _ (by omega)) (Int.emod_lt_of_pos _ (by omega)) (by omega) (by omega) (Int.ediv_nonneg (by omega) (by omega)))
    · repeat (walk_at "b")
      refine w_join (fun S' => ∃ c : Int, S' = ⟨[some (.o k), some (.d (.int span)), none, some (.d (.int nth)), some (.d (.int c)), none, none], os.set k (.md (pen cells (nth + 1) left))⟩) ?_ ?_
      · refine br_iteB (fun hb => ?_) (fun hb => ?_)
        · repeat (walk_at "b")
          obtain ⟨c, hc⟩ := at_mod (n := nth) (ns := cells) (fun z => by subst z; cases hb)
          have hlen : 0 < ((cells.map D.int).length : Int) := by
            cases cells with
            | nil => cases hb
            | cons a r => simp
          refine bw_i hlen ?_
          refine bw_ixL hc ?_
          exact ⟨c, rfl⟩
        · repeat (walk_at "b")
          exact ⟨_, rfl⟩
      · rintro S' ⟨c, rfl⟩
        refine w_cut (fun S' => S' = ⟨[some (.o k), some (.d (.int span)), none, some (.d (.int nth)), some (.d (.int c)), none, none], os.set k (.md (pen cells (nth + 1) left))⟩) ?_ ?_
        · repeat (walk_at "b")
          refine br_ite (fun h1 => ?_) (fun h1 => ?_)
          · repeat (walk_at "b")
            refine br_ite (fun h2 => ?_) (fun h2 => ?_)
            · repeat (walk_at "b")
              refine ret_set (q _ _ _ (Int.emod_nonneg _ (by omega)) (Int.emod_lt_of_pos _ (by omega)) (by omega) (by omega) (Int.ediv_nonneg ?_ (by omega)))
              split <;> omega
            · repeat (walk_at "b")
              rfl
          · repeat (walk_at "b")
            rfl
        · rintro S' rfl
          repeat (walk_at "b")
          dsimp only
          refine w_for (iw_rng1 (aw_cons (ew_int (aw_nil ⟨3, rfl, by decide, by decide, fun _ S' => ∃ (m : Int) (o : Option Sv), (0 ≤ m ∧ m < 4294967311) ∧ S' = ⟨[some (.o k), some (.d (.int span)), none, some (.d (.int nth)), some (.d (.int c)), some (.d (.int m)), o], os.set k (.md (pen cells (nth + 1) left))⟩, ⟨_, none, ⟨Int.emod_nonneg _ (by decide), Int.emod_lt_of_pos _ (by decide)⟩, rfl⟩, ?_, ?_⟩))))
          · rintro i d S' hd ⟨m, o, hm, rfl⟩
            obtain ⟨hi, rfl⟩ := rngD_get hd
            refine gw_name ?_
            dsimp only [List.set_cons_zero, List.set_cons_succ]
            repeat (walk_at "b")
            refine ⟨_, _, ⟨Int.emod_nonneg _ (by decide), Int.emod_lt_of_pos _ (by decide)⟩, rfl⟩
          · rintro S' ⟨m, o, hm, rfl⟩
            repeat (walk_at "b")
            exact ret_set (q _ _ _ (Int.emod_nonneg _ (by omega)) (Int.emod_lt_of_pos _ (by omega)) (by omega) (by omega) hl)
end

open PySem PySem.Spec PyProof.Rows L2 Br
/-- how a def of the text is called -/
structure Cal (K : PySem.W.Frag) (mg : Str → Option Value) (x : Str) (f : Addr) (fd : FuncData) (ps : List Str) : Prop where
  m : mg x = some (.ref f)
  k : PySem.W.keepIn K (.ref f) = true
  b : Binds K fd ps []
local macro_rules | `(tactic| walk_at "dr") => `(tactic| ((with_reducible refine ew_call ?_); repeat (walk_at "b")))
def fPick : FD := fun ds os QA _ => ∃ (k : Nat) (xs : List D) (cells : List Int) (b : Int) (o : Os), ds = [.o k, .d (.lst xs)] ∧ Pn k cells b o os ∧ (0 < xs.length ∧ xs.length ≤ 1000) ∧ b < 2 ^ 38 ∧
  ∀ d os', d ∈ xs → Pn k cells (b + 1) o os' → QA d os'
theorem br_nT {A B : Prop} (h : B) : if (!true) = true then A else B := h
theorem br_nF {A B : Prop} (h : A) : if (!false) = true then A else B := h
local macro_rules | `(tactic| walk_at "b") => `(tactic| first
  | with_reducible refine ew_isi ?_
  | with_reducible refine br_nT ?_
  | with_reducible refine br_nF ?_
  | with_reducible refine bw_eqI ?_
  | with_reducible refine bw_neI ?_
  | with_reducible refine ew_sl ?_
  | with_reducible refine ow_none ?_
  | with_reducible refine ow_some ?_
  | with_reducible refine ew_if ?_
  | with_reducible refine ew_andV ?_
  | with_reducible refine ew_orV ?_
  | with_reducible refine ew_notV ?_
  | with_reducible refine ew_chain ?_
  | with_reducible refine ew_revT ?_
  | with_reducible refine ew_negI ?_
  | with_reducible refine bw_ix0 ?_
  | with_reducible refine bw_ix1 ?_
  | with_reducible refine bw_ix2 ?_
  | with_reducible refine bw_neNilT ?_
  | with_reducible refine cw_lenU ?_
  | with_reducible refine ew_call ?_
  | with_reducible refine w_asgN ?_
  | with_reducible refine w_asgG ?_
  | with_reducible refine gs_nil ?_
  | with_reducible refine gs_cons ?_
  | ((with_reducible refine gw_name ?_); (try dsimp only [List.set_cons_zero, List.set_cons_succ]))
  | with_reducible refine bw_eqB ?_)
def fFeed : FN := fun ds os QN => ∃ ns : List Int, ds = [.d (.lst (ns.map D.int))] ∧ ns.length ≤ 63 ∧ QN (.md (pen ns 0 0)) os
/-- a row of bytes -/
def isR (row : List Int) : Prop := ∀ b ∈ row, 0 ≤ b ∧ b < 256
abbrev rowD (row : List Int) : D := .tup (row.map D.int)
def fBytes : FD := fun ds os QA _ => ∃ (k m : Nat) (cells : List Int) (b : Int) (o : Os), ds = [.o k, .d (.int m)] ∧ Pn k cells b o os ∧ m ≤ 100 ∧ b < 2 ^ 37 ∧
  ∀ row os', isR row → row.length ≤ m → Pn k cells (b + 300) o os' → QA (rowD row) os'
theorem at_mem {α : Type} {xs : List α} {i : Int} (h0 : 0 ≤ i) (h1 : i < (xs.length : Int)) : ∃ d, L2.atI xs i = some d ∧ d ∈ xs := by
  obtain ⟨j, rfl⟩ : ∃ j : Nat, i = (j : Int) := ⟨i.toNat, by omega⟩
  have hj : j < xs.length := by omega
  exact ⟨xs[j], atI_nat (List.getElem?_eq_getElem hj), List.getElem_mem hj⟩
section
variable {P : Program} {w : World} {K : PySem.W.Frag} {mg : Str → Option Value} {base : Heap}
abbrev s_l_pick : Stmt := topS 34
abbrev N_l_pick : List Str := ["_law_feed_here", "_law_some"]
theorem sc_l_pick : FnScope N_l_pick ["_law_feed_here", "_law_some"] (defScope s_l_pick) := ⟨rfl, rfl, rfl, by decide +kernel, rfl, by decide +kernel, by decide +kernel⟩
theorem ok_l_pick {f f_draw : Addr} {fd fd_draw : FuncData} (F : Fun K "_law_pick" "_law_pick" s_l_pick f fd) (z_len : mg "len" = none)
    (G_l_draw : FnOk P w K mg base CX0 1 f_draw fd_draw ["_law_feed_here", "_law_many"] (spD K fDraw)) (C_l_draw : Cal K mg "_law_draw" f_draw fd_draw ["_law_feed_here", "_law_many"]) : FnOk P w K mg base CX0 2 f fd ["_law_feed_here", "_law_some"] (spD K fPick) := by
  refine F.ok sc_l_pick (fun vs H Q E h => ?_) (fun cdv A outer s H vs Q E hr h => ?_)
  · obtain ⟨as, os, ds, QA, EA, R, r, ⟨k, xs, cells, b, o, rfl, _⟩, _⟩ := h
    rw [r.length]
    rfl
  · refine ⟨_, (pss_one (ps_ret (pe_ix (r := rIxL K) ix_list (pv 1) (pe_call G_l_draw (hr.mono (by decide)) rfl C_l_draw.m C_l_draw.k C_l_draw.b .nil pass0 (pa_cons (pv 0) (pa_cons (pe_callB call_lenA (by rfl) z_len PySem.boot_len (pa_cons (pv 1) pa_nil)) pa_nil))) (fun _ _ => rfl)))), read_of h fun ds os QA EA hf => ?_⟩
    obtain ⟨k, xs, cells, b, o, rfl, ho, hs, hb, q⟩ := hf
    dsimp only [cxOf, Cx.nox, Cx.wish]
    show W K _ _ _ ⟨[some (.o k), some (.d (.lst xs))], os⟩
    repeat (walk_at "b")
    refine ⟨_, _, _, _, _, rfl, ho, by omega, by omega, fun d os' h0 h1 ho => ?_⟩
    obtain ⟨x, hx, hm⟩ := at_mem h0 h1
    exact bw_ixL hx (Pn.ret ‹Pn k cells b o os› ho (q x os' hm ho))
end
section
variable {P : Program} {w : World} {K : PySem.W.Frag} {mg : Str → Option Value} {base : Heap}
abbrev s_l_feed : Stmt := topS 32
abbrev N_l_feed : List Str := ["_law_script", "_law_cell"]
theorem sc_l_feed : FnScope N_l_feed ["_law_script"] (defScope s_l_feed) := ⟨rfl, rfl, rfl, by decide +kernel, rfl, by decide +kernel, by decide +kernel⟩
theorem ok_l_feed {f : Addr} {fd : FuncData} (F : Fun K "_law_feed" "_law_feed" s_l_feed f fd) : FnOk P w K mg base CX0 1 f fd ["_law_script"] (spN K fFeed) := by
  refine F.ok sc_l_feed (fun vs H Q E h => ?_) (fun cdv A outer s H vs Q E hr h => ?_)
  · obtain ⟨as, os, ds, QN, R, r, ⟨ns, rfl, _⟩, _⟩ := h
    rw [r.length]
    rfl
  · refine ⟨_, (pss_one (ps_ret (pe_disp (pps_cons pe_str (pe_lc (own := [("_law_cell", 1)]) (g := (gName 1)) rfl sc_l_feed.nd (pi_list (pe_slice sl_list (pv 0) po_none (po_some pe_int))) (blkOk_by (own := [("_law_cell", 1)]) (N := N_l_feed) (sc := defScope s_l_feed) (by decide +kernel)) (fun _ _ _ _ _ => (pg_name (i := 1) sc_l_feed.nd rfl (Or.inl rfl))) (fun _ _ _ _ _ => pts_nil) (fun _ _ _ _ _ => (pv 1))) (pps_cons pe_str pe_int (pps_cons pe_str pe_int pps_nil))) (by rfl) (by rfl) (fun z => by cases z) (by decide)))), readN_of h fun ds os QN hf => ?_⟩
    obtain ⟨ns, rfl, hl, q⟩ := hf
    try dsimp only [cxOf, Cx.nox, Cx.wish]
    show W K _ _ _ ⟨[some (.d (.lst (ns.map D.int))), none], os⟩
    refine w_retDisp ?_
    refine dw_cons (ew_str ?_)
    refine ew_lc (wg_name (by decide)) mg_name ?_
    refine iw_list ?_
    repeat (walk_at "b")
    refine sw_L ?_
    have ec : Br.cutD (ns.map D.int) none (some 63) = ns.map D.int := by
      unfold Br.cutD
      have e : (some (63 : Int)) = some ((63 : Nat) : Int) := rfl
      rw [e, HT.sIx_nat, HT.sIx_none, List.length_map, Nat.min_eq_right (by omega), List.drop_zero, Nat.sub_zero, List.take_of_length_le (by rw [List.length_map]; exact Nat.le_refl _)]
    rw [ec]
    refine ⟨_, rfl, ?_⟩
    refine ⟨fun i acc os2 => os2 = os ++ [.md []] ∧ acc = (ns.take i).map D.int, ⟨rfl, rfl⟩, ?_, ?_⟩
    · rintro i d acc os2 hd ⟨rfl, rfl⟩
      have hn : i < ns.length := by
        have z := (List.getElem?_eq_some_iff.mp hd).1
        rw [List.length_map] at z
        exact z
      have ed : d = D.int ns[i] := by
        rw [List.getElem?_map, List.getElem?_eq_getElem hn] at hd
        cases hd
        rfl
      subst ed
      refine gw_name ?_
      refine tw_yes (br_T ?_)
      show EW K X0 _ ⟨[some (.d (.lst (ns.map D.int))), some (.d (.int ns[i]))], _⟩ _
      repeat (walk_at "b")
      refine ⟨_, _, rfl, rfl, by rw [List.length_map, List.length_take, sizeLine_eq]; omega, rfl, ?_⟩
      rw [← List.take_append_getElem hn, List.map_append]
      rfl
    · rintro acc os2 ⟨rfl, rfl⟩
      rw [List.length_map, List.take_length]
      refine ⟨_, _, rfl, rfl, ?_⟩
      refine dw_cons (ew_str (ew_int ⟨_, _, rfl, rfl, dw_cons (ew_str (ew_int ⟨_, _, rfl, rfl, dw_nil ?_⟩))⟩))
      refine ⟨os, pen ns 0 0, rfl, rfl, by show 3 ≤ 15; decide, rfl, by rw [List.length_append]; rfl, .md (pen ns 0 0), ?_, ?_⟩
      · show (os ++ [Ob.md (pen ns 0 0)])[os.length]? = _
        simp
      · show QN _ ((os ++ [Ob.md (pen ns 0 0)]).take os.length)
        rw [List.take_left' rfl]
        exact q
end
section
variable {P : Program} {w : World} {K : PySem.W.Frag} {mg : Str → Option Value} {base : Heap}
abbrev s_l_bytes : Stmt := topS 35
abbrev N_l_bytes : List Str := ["_law_feed_here", "_law_most", "_law_k"]
theorem sc_l_bytes : FnScope N_l_bytes ["_law_feed_here", "_law_most"] (defScope s_l_bytes) := ⟨rfl, rfl, rfl, by decide +kernel, rfl, by decide +kernel, by decide +kernel⟩
theorem ok_l_bytes {f a1 a2 : Addr} {fd d1 d2 : FuncData} (F : Fun K "_law_bytes" "_law_bytes" s_l_bytes f fd) (z_range : mg "range" = none) (z_tuple : mg "tuple" = none)
    (G_l_draw : FnOk P w K mg base CX0 1 a1 d1 ["_law_feed_here", "_law_many"] (spD K fDraw)) (C_l_draw : Cal K mg "_law_draw" a1 d1 ["_law_feed_here", "_law_many"])
    (G_l_pick : FnOk P w K mg base CX0 2 a2 d2 ["_law_feed_here", "_law_some"] (spD K fPick)) (C_l_pick : Cal K mg "_law_pick" a2 d2 ["_law_feed_here", "_law_some"]) : FnOk P w K mg base CX0 3 f fd ["_law_feed_here", "_law_most"] (spD K fBytes) := by
  refine F.ok sc_l_bytes (fun vs H Q E h => ?_) (fun cdv A outer s H vs Q E hr h => ?_)
  · obtain ⟨as, os, ds, QA, EA, R, r, ⟨k, m, cells, b, o, rfl, _⟩, _⟩ := h
    rw [r.length]
    rfl
  · refine ⟨_, (pss_one (ps_ret (pe_callTy call_tupA (by rfl) z_tuple (by decide +kernel) (pa_cons (pe_lc (own := [("_law_k", 2)]) (g := (gName 2)) rfl sc_l_bytes.nd (pi_range1 (by rfl) z_range (pa_cons (pe_call G_l_draw (hr.mono (by decide)) rfl C_l_draw.m C_l_draw.k C_l_draw.b .nil pass0 (pa_cons (pv 0) (pa_cons (pe_op op_add (pv 1) pe_int) pa_nil))) pa_nil)) (blkOk_by (own := [("_law_k", 2)]) (N := N_l_bytes) (sc := defScope s_l_bytes) (by decide +kernel)) (fun _ _ _ _ _ => (pg_name (i := 2) sc_l_bytes.nd rfl (Or.inl rfl))) (fun _ _ _ _ _ => pts_nil) (fun _ _ _ _ _ => (pe_call G_l_pick (hr.mono (by decide)) rfl C_l_pick.m C_l_pick.k C_l_pick.b .nil pass0 (pa_cons (pv 0) (pa_cons (pe_lst (pa_cons pe_int (pa_cons pe_int (pa_cons pe_int (pa_cons pe_int (pa_cons (pe_call G_l_draw (hr.mono (by decide)) rfl C_l_draw.m C_l_draw.k C_l_draw.b .nil pass0 (pa_cons (pv 0) (pa_cons pe_int pa_nil))) pa_nil)))))) pa_nil))))) pa_nil)))), read_of h fun ds os QA EA hf => ?_⟩
    obtain ⟨k, m, cells, b, o, rfl, ho, hm, hb, q⟩ := hf
    have hk : k < o.length := let ⟨_, _, _, h, _⟩ := ho; h
    try dsimp only [cxOf, Cx.nox, Cx.wish]
    show W K _ _ _ ⟨[some (.o k), some (.d (.int m)), none], os⟩
    refine w_ret (ew_cb (aw_cons ?_))
    refine ew_lc (wg_name (by decide)) mg_name ?_
    refine iw_rng1 ?_
    repeat (walk_at "b")
    refine ⟨_, _, _, _, _, rfl, ho, by omega, by omega, fun n os1 n0 n1 ho1 => ?_⟩
    repeat (walk_at "b")
    refine ⟨by omega, by omega, fun i acc os3 => ∃ bs : List Int, acc = bs.map D.int ∧ bs.length = i ∧ isR bs ∧ Pn k cells (b + 1 + 2 * i) o os3, ⟨[], rfl, rfl, fun b hb => (nomatch hb), ho1.mono (by omega)⟩, ?_, ?_⟩
    · rintro i d acc os3 hd ⟨bs, rfl, hbn, hbs, ho3⟩
      obtain ⟨hi, rfl⟩ := rngD_get hd
      refine gw_name ?_
      refine tw_yes (br_T ?_)
      show EW K X0 _ ⟨[some (.o k), some (.d (.int m)), some (.d (.int (0 + (i : Int) * 1)))], _⟩ _
      repeat (walk_at "b")
      refine ⟨_, _, _, _, _, rfl, ho3.push _, by omega, by omega, fun c os4 c0 c1 ho4 => ?_⟩
      repeat (walk_at "b")
      refine ⟨_, _, _, _, _, rfl, ho4, ⟨by show 0 < 5; decide, by show 5 ≤ 1000; decide⟩, by omega, fun d os5 hm5 ho5 => ?_⟩
      obtain ⟨os6, rfl, ho6⟩ := ho5.pop hk
      have hd5 : ∃ x : Int, d = .int x ∧ 0 ≤ x ∧ x < 256 := by
        simp only [List.mem_cons, List.not_mem_nil, or_false] at hm5
        rcases hm5 with rfl | rfl | rfl | rfl | rfl
        · exact ⟨_, rfl, by decide, by decide⟩
        · exact ⟨_, rfl, by decide, by decide⟩
        · exact ⟨_, rfl, by decide, by decide⟩
        · exact ⟨_, rfl, by decide, by decide⟩
        · exact ⟨_, rfl, c0, c1⟩
      obtain ⟨x, rfl, x0, x1⟩ := hd5
      refine ⟨_, _, rfl, rfl, by rw [List.length_map, sizeLine_eq]; omega, bs ++ [x], by rw [List.map_append]; rfl, by rw [List.length_append, hbn]; rfl, fun c hc => ?_, ho6.mono (by omega)⟩
      rcases List.mem_append.mp hc with z | z
      · exact hbs c z
      · rw [List.mem_singleton.mp z]
        exact ⟨x0, x1⟩
    · rintro acc os3 ⟨bs, rfl, hbn, hbs, ho3⟩
      rw [rngD_len] at hbn ho3
      have ho4 : Pn k cells (b + 300) o os3 := ho3.mono (by omega)
      repeat (walk_at "b")
      refine cw_tupL ?_
      exact ho.ret ho4 (q _ _ hbs (by omega) ho4)
end

open PySem PySem.Spec PyProof.Rows L2 Br
def fWhole : FD := fun ds os QA _ => ∃ x a, ds = [.d x] ∧ x.ty = some a ∧ QA (.bl x.isI) os
def fBetw : FD := fun ds os QA _ => ∃ x a lo hi, ds = [.d x, .d (.int lo), .d (.int hi)] ∧ x.ty = some a ∧ QA (.bl (x.isB lo hi)) os
def fTupOf : FD := fun ds os QA _ => ∃ x a n, ds = [.d x, .d (.int n)] ∧ x.ty = some a ∧ QA (.bl (x.isT n)) os
def fRow : FD := fun ds os QA _ => ∃ x M, ds = [.d x] ∧ x.fit M = true ∧ x.ln ≤ 10000000 ∧ QA (.bl (rowB x)) os
def isLst : D → Bool
  | .lst _ => true
  | .tup _ => true
  | _ => false
def fListed : FD := fun ds os QA _ => ∃ x a, ds = [.d x] ∧ x.ty = some a ∧ QA (.bl (isLst x)) os
section
variable {P : Program} {w : World} {K : PySem.W.Frag} {mg : Str → Option Value} {base : Heap}
abbrev s_is_whole : Stmt := topS 1
abbrev N_is_whole : List Str := ["thing"]
theorem sc_is_whole : FnScope N_is_whole ["thing"] (defScope s_is_whole) := ⟨rfl, rfl, rfl, by decide +kernel, rfl, by decide +kernel, by decide +kernel⟩
theorem ok_is_whole {f : Addr} {fd : FuncData} (F : Fun K "is_whole" "is_whole" s_is_whole f fd) (z_isinstance : mg "isinstance" = none) (z_int : mg "int" = none) (z_bool : mg "bool" = none) : FnOk P w K mg base CX0 1 f fd ["thing"] (spD K fWhole) := by
  refine F.ok sc_is_whole (fun vs H Q E h => ?_) (fun cdv A outer s H vs Q E hr h => ?_)
  · obtain ⟨as, os, ds, QA, EA, R, r, ⟨x, a, rfl, _⟩, _⟩ := h
    rw [r.length]
    rfl
  · refine ⟨_, (pss_one (ps_ret (pe_and (pe_callB call_isi (by rfl) z_isinstance (by decide +kernel) (pa_cons (pv 0) (pa_cons (pe_bltn (v := .ty "int") (by rfl) z_int boot_int rfl) pa_nil))) (pe_one (pe_not (pe_callB call_isi (by rfl) z_isinstance (by decide +kernel) (pa_cons (pv 0) (pa_cons (pe_bltn (v := .ty "bool") (by rfl) z_bool boot_bool rfl) pa_nil)))))))), read_of h fun ds os QA EA hf => ?_⟩
    obtain ⟨x, a, rfl, ha, q⟩ := hf
    try dsimp only [cxOf, Cx.nox, Cx.wish]
    show W K _ _ _ ⟨[some (.d x)], os⟩
    obtain ⟨r, h1, r2, h2, h3⟩ := isi_int ha
    repeat (walk_at "b")
    refine ⟨x, a, r, rfl, ha, h1, ?_⟩
    refine ⟨r, rfl, br_iteB (fun e => ?_) (fun e => ?_)⟩
    · repeat (walk_at "b")
      refine ⟨x, a, r2, rfl, ha, h2, ?_⟩
      refine ⟨r2, rfl, ret_same ?_⟩
      rw [e] at h3
      have e2 : (!r2) = x.isI := by rw [← h3]; rfl
      rw [e2]
      exact q
    · rw [e] at h3
      have e2 : x.isI = false := by rw [← h3]; rfl
      rw [e2] at q
      exact ret_same q
abbrev s_is_between : Stmt := topS 2
abbrev N_is_between : List Str := ["thing", "least", "most"]
theorem sc_is_between : FnScope N_is_between ["thing", "least", "most"] (defScope s_is_between) := ⟨rfl, rfl, rfl, by decide +kernel, rfl, by decide +kernel, by decide +kernel⟩
theorem ok_is_between {f a1 : Addr} {fd d1 : FuncData} (F : Fun K "is_between" "is_between" s_is_between f fd)
    (G_is_whole : FnOk P w K mg base CX0 1 a1 d1 ["thing"] (spD K fWhole)) (C_is_whole : Cal K mg "is_whole" a1 d1 ["thing"]) : FnOk P w K mg base CX0 2 f fd ["thing", "least", "most"] (spD K fBetw) := by
  refine F.ok sc_is_between (fun vs H Q E h => ?_) (fun cdv A outer s H vs Q E hr h => ?_)
  · obtain ⟨as, os, ds, QA, EA, R, r, ⟨x, a, lo, hi, rfl, _⟩, _⟩ := h
    rw [r.length]
    rfl
  · refine ⟨_, (pss_one (ps_ret (pe_and (pe_call G_is_whole (hr.mono (by decide)) rfl C_is_whole.m C_is_whole.k C_is_whole.b .nil pass0 (pa_cons (pv 0) pa_nil)) (pe_one (pe_chain op_le op_le (pv 1) (pv 0) (pv 2)))))), read_of h fun ds os QA EA hf => ?_⟩
    obtain ⟨x, a, lo, hi, rfl, ha, q⟩ := hf
    try dsimp only [cxOf, Cx.nox, Cx.wish]
    show W K _ _ _ ⟨[some (.d x), some (.d (.int lo)), some (.d (.int hi))], os⟩
    repeat (walk_at "b")
    refine ⟨x, a, rfl, ha, _, rfl, br_iteB (fun e => ?_) (fun e => ?_)⟩
    · obtain ⟨i, rfl⟩ := isI_is e
      repeat (walk_at "b")
      refine br_ite (fun h1 => ?_) (fun h1 => ?_)
      · repeat (walk_at "b")
        refine ret_same ?_
        have e2 : (D.int i).isB lo hi = decide (i ≤ hi) := by
          show (decide (lo ≤ i) && decide (i ≤ hi)) = _
          rw [decide_eq_true h1]
          rfl
        rw [← e2]
        exact q
      · have e2 : (D.int i).isB lo hi = false := by
          show (decide (lo ≤ i) && decide (i ≤ hi)) = _
          rw [decide_eq_false h1]
          rfl
        rw [e2] at q
        exact ret_same q
    · rw [isB_no e] at q
      exact ret_same q
abbrev s_is_tuple_of : Stmt := topS 4
abbrev N_is_tuple_of : List Str := ["thing", "many"]
theorem sc_is_tuple_of : FnScope N_is_tuple_of ["thing", "many"] (defScope s_is_tuple_of) := ⟨rfl, rfl, rfl, by decide +kernel, rfl, by decide +kernel, by decide +kernel⟩
theorem ok_is_tuple_of {f : Addr} {fd : FuncData} (F : Fun K "is_tuple_of" "is_tuple_of" s_is_tuple_of f fd) (z_isinstance : mg "isinstance" = none) (z_tuple : mg "tuple" = none) (z_len : mg "len" = none) : FnOk P w K mg base CX0 1 f fd ["thing", "many"] (spD K fTupOf) := by
  refine F.ok sc_is_tuple_of (fun vs H Q E h => ?_) (fun cdv A outer s H vs Q E hr h => ?_)
  · obtain ⟨as, os, ds, QA, EA, R, r, ⟨x, a, n, rfl, _⟩, _⟩ := h
    rw [r.length]
    rfl
  · refine ⟨_, (pss_one (ps_ret (pe_and (pe_callB call_isi (by rfl) z_isinstance (by decide +kernel) (pa_cons (pv 0) (pa_cons (pe_bltn (v := .ty "tuple") (by rfl) z_tuple boot_tuple rfl) pa_nil))) (pe_one (pe_cmpR op_eq (pe_callB call_lenA (by rfl) z_len PySem.boot_len (pa_cons (pv 0) pa_nil)) (pv 1) (nomark _)))))), read_of h fun ds os QA EA hf => ?_⟩
    obtain ⟨x, a, n, rfl, ha, q⟩ := hf
    try dsimp only [cxOf, Cx.nox, Cx.wish]
    show W K _ _ _ ⟨[some (.d x), some (.d (.int n))], os⟩
    repeat (walk_at "b")
    rcases isi_tup ha with ⟨xs, rfl, h1⟩ | ⟨h0, h1⟩
    · refine ⟨_, a, true, rfl, ha, h1, _, rfl, br_T ?_⟩
      repeat (walk_at "b")
      exact ret_same q
    · refine ⟨_, a, false, rfl, ha, h1, _, rfl, br_F ?_⟩
      rw [isT_no h0] at q
      exact ret_same q
abbrev s_is_row : Stmt := topS 14
abbrev N_is_row : List Str := ["thing", "byte"]
theorem sc_is_row : FnScope N_is_row ["thing"] (defScope s_is_row) := ⟨rfl, rfl, rfl, by decide +kernel, rfl, by decide +kernel, by decide +kernel⟩
theorem all_map {xs : List D} : ((xs.map fun y => y.isB 0 255).all id) = xs.all (D.isB 0 255) := by
  rw [List.all_map]
  rfl
theorem ok_is_row {f a1 : Addr} {fd d1 : FuncData} (F : Fun K "is_row" "is_row" s_is_row f fd) (z_isinstance : mg "isinstance" = none) (z_tuple : mg "tuple" = none) (z_all : mg "all" = none)
    (G_is_between : FnOk P w K mg base CX0 2 a1 d1 ["thing", "least", "most"] (spD K fBetw)) (C_is_between : Cal K mg "is_between" a1 d1 ["thing", "least", "most"]) : FnOk P w K mg base CX0 3 f fd ["thing"] (spD K fRow) := by
  refine F.ok sc_is_row (fun vs H Q E h => ?_) (fun cdv A outer s H vs Q E hr h => ?_)
  · obtain ⟨as, os, ds, QA, EA, R, r, ⟨x, M, rfl, _⟩, _⟩ := h
    rw [r.length]
    rfl
  · refine ⟨_, (pss_one (ps_ret (pe_and (pe_callB call_isi (by rfl) z_isinstance (by decide +kernel) (pa_cons (pv 0) (pa_cons (pe_bltn (v := .ty "tuple") (by rfl) z_tuple boot_tuple rfl) pa_nil))) (pe_one (pe_callB (cr_all rfl) (by rfl) z_all (by decide +kernel) (pa_cons (pe_lc (own := [("byte", 1)]) (g := (gName 1)) rfl sc_is_row.nd (pi_tup (pv 0)) (blkOk_by (own := [("byte", 1)]) (N := N_is_row) (sc := defScope s_is_row) (by decide +kernel)) (fun _ _ _ _ _ => (pg_name (i := 1) sc_is_row.nd rfl (Or.inl rfl))) (fun _ _ _ _ _ => pts_nil) (fun _ _ _ _ _ => (pe_call G_is_between (hr.mono (by decide)) rfl C_is_between.m C_is_between.k C_is_between.b .nil pass0 (pa_cons (pv 1) (pa_cons pe_int (pa_cons pe_int pa_nil)))))) pa_nil)))))), read_of h fun ds os QA EA hf => ?_⟩
    obtain ⟨x, M, rfl, hx, hl, q⟩ := hf
    obtain ⟨a, ha⟩ := fit_ty hx
    try dsimp only [cxOf, Cx.nox, Cx.wish]
    show W K _ _ _ ⟨[some (.d x), none], os⟩
    repeat (walk_at "b")
    rcases isi_tup ha with ⟨xs, rfl, h1⟩ | ⟨h0, h1⟩
    · refine ⟨_, a, true, rfl, ha, h1, _, rfl, br_T ?_⟩
      repeat (walk_at "b")
      have hxs := fits_all.mp (show D.fits M xs = true from hx)
      have hlen : xs.length ≤ 10000000 := by
        have := lns_len (xs := xs)
        have h2 : D.lns xs + 3 ≤ 10000000 := hl
        omega
      refine ew_lc (wg_name (by decide)) mg_name ?_
      refine iw_tup ?_
      repeat (walk_at "b")
      refine ⟨fun i acc os2 => os2 = os ∧ acc = (xs.take i).map fun y => D.bl (y.isB 0 255), ⟨rfl, rfl⟩, ?_, ?_⟩
      · rintro i d acc os2 hd ⟨rfl, rfl⟩
        have hi : i < xs.length := (List.getElem?_eq_some_iff.mp hd).1
        have ed : xs[i] = d := (List.getElem?_eq_some_iff.mp hd).2
        obtain ⟨b, hb⟩ := fit_ty (hxs d (List.mem_of_getElem? hd))
        refine gw_name ?_
        refine tw_yes (br_T ?_)
        show EW K X0 _ ⟨[some (.d (.tup xs)), some (.d d)], _⟩ _
        repeat (walk_at "b")
        refine ⟨_, _, _, _, rfl, hb, _, _, rfl, rfl, ?_, rfl, ?_⟩
        · rw [List.length_map, List.length_take, sizeLine_eq]
          omega
        · rw [← List.take_append_getElem hi, List.map_append, ed]
          rfl
      · rintro acc os2 ⟨rfl, rfl⟩
        rw [List.take_length]
        have e : (xs.map fun y => D.bl (y.isB 0 255)) = (xs.map fun y => y.isB 0 255).map D.bl := by rw [List.map_map]; rfl
        rw [e]
        refine aw_nil (cw_all (ret_same ?_))
        rw [all_map]
        exact q
    · refine ⟨_, a, false, rfl, ha, h1, _, rfl, br_F ?_⟩
      have e : rowB x = false := by
        cases x with
        | tup xs => exact absurd rfl (h0 xs)
        | _ => rfl
      rw [e] at q
      exact ret_same q
abbrev s_is_listed : Stmt := topS 3
abbrev N_is_listed : List Str := ["thing"]
theorem sc_is_listed : FnScope N_is_listed ["thing"] (defScope s_is_listed) := ⟨rfl, rfl, rfl, by decide +kernel, rfl, by decide +kernel, by decide +kernel⟩
theorem ok_is_listed {f : Addr} {fd : FuncData} (F : Fun K "is_listed" "is_listed" s_is_listed f fd) (z_isinstance : mg "isinstance" = none) (z_tuple : mg "tuple" = none) (z_list : mg "list" = none) : FnOk P w K mg base CX0 1 f fd ["thing"] (spD K fListed) := by
  refine F.ok sc_is_listed (fun vs H Q E h => ?_) (fun cdv A outer s H vs Q E hr h => ?_)
  · obtain ⟨as, os, ds, QA, EA, R, r, ⟨x, a, rfl, _⟩, _⟩ := h
    rw [r.length]
    rfl
  · refine ⟨_, (pss_one (ps_ret (pe_callB call_isiT (by rfl) z_isinstance (by decide +kernel) (pa_cons (pv 0) (pa_cons (pe_tup (pa_cons (pe_bltn (v := .ty "list") (by rfl) z_list boot_list rfl) (pa_cons (pe_bltn (v := .ty "tuple") (by rfl) z_tuple boot_tuple rfl) pa_nil))) pa_nil))))), read_of h fun ds os QA EA hf => ?_⟩
    obtain ⟨x, a, rfl, ha, q⟩ := hf
    try dsimp only [cxOf, Cx.nox, Cx.wish]
    show W K _ _ _ ⟨[some (.d x)], os⟩
    refine w_ret (ew_isi2 ?_)
    repeat (walk_at "b")
    cases x with
    | ob C fs => cases ha
    | xo C fs => cases ha
    | lst xs => exact ⟨_, _, _, rfl, rfl, kit2 (b1 := true) (b2 := false) (by decide +kernel) (by decide +kernel), ret_same q⟩
    | tup xs => exact ⟨_, _, _, rfl, rfl, kit2 (b1 := false) (b2 := true) (by decide +kernel) (by decide +kernel), ret_same q⟩
    | _ => exact ⟨_, _, _, rfl, rfl, kit2 (b1 := false) (b2 := false) (by decide +kernel) (by decide +kernel), ret_same q⟩
end

open PySem PySem.Spec PyProof.Rows L2 Br
def fCop (n : Nat) : FD := fun ds os QA _ => ∃ d, ds = [.d d] ∧ d.cpy = true ∧ d.dpt ≤ n ∧ QA d os
def fCopP : Nat → FD
  | 0 => fNo
  | n + 1 => fCop n
/-- of a list of numbers that the asker grew -/
def fCopO : FD := fun ds os QA _ => ∃ (j : Nat) (ns : List Int), ds = [.o j] ∧ os[j]? = some (.ml (ns.map D.int)) ∧ ns.length ≤ 100000 ∧ QA (.lst (ns.map D.int)) os
theorem cpy_ty {d : D} (h : d.cpy = true) : ∃ a, d.ty = some a := by
  cases d with
  | ob C fs => cases (show false = true from h)
  | xo C fs => cases (show false = true from h)
  | _ => exact ⟨_, rfl⟩
section
variable {P : Program} {w : World} {K : PySem.W.Frag} {mg : Str → Option Value} {base : Heap}
abbrev s_copied : Stmt := topS 5
abbrev N_copied : List Str := ["thing", "part", "key"]
theorem sc_copied : FnScope N_copied ["thing"] (defScope s_copied) := ⟨rfl, rfl, rfl, by decide +kernel, rfl, by decide +kernel, by decide +kernel⟩
theorem ok_copied1 {n : Nat} {f : Addr} {fd : FuncData} (F : Fun K "copied" "copied" s_copied f fd) (z_isinstance : mg "isinstance" = none) (z_bool : mg "bool" = none) (z_int : mg "int" = none) (z_str : mg "str" = none) (z_list : mg "list" = none) (z_tuple : mg "tuple" = none) (z_dict : mg "dict" = none)
    (G_copied : FnOk P w K mg base CX0 n f fd ["thing"] (spD K (fCopP n))) (C_copied : Cal K mg "copied" f fd ["thing"]) : FnOk P w K mg base CX0 (n + 1) f fd ["thing"] (spD K (fCop n)) := by
  refine F.ok sc_copied (fun vs H Q E h => ?_) (fun cdv A outer s H vs Q E hr h => ?_)
  · obtain ⟨as, os, ds, QA, EA, R, r, ⟨d, rfl, _⟩, _⟩ := h
    rw [r.length]
    rfl
  · refine ⟨_, (pss_cons (ps_if (pt_val (pe_callB call_isi (by rfl) z_isinstance (by decide +kernel) (pa_cons (pv 0) (pa_cons (pe_bltn (v := .ty "bool") (by rfl) z_bool boot_bool rfl) pa_nil)))) (pss_one (ps_ret (pv 0))) pss_nil)
  (pss_cons (ps_if (pt_val (pe_callB call_isi (by rfl) z_isinstance (by decide +kernel) (pa_cons (pv 0) (pa_cons (pe_bltn (v := .ty "int") (by rfl) z_int boot_int rfl) pa_nil)))) (pss_one (ps_ret (pe_callTy call_intA (by rfl) z_int (by decide +kernel) (pa_cons (pv 0) pa_nil)))) pss_nil)
  (pss_cons (ps_if (pt_val (pe_callB call_isi (by rfl) z_isinstance (by decide +kernel) (pa_cons (pv 0) (pa_cons (pe_bltn (v := .ty "str") (by rfl) z_str boot_str rfl) pa_nil)))) pss_never pss_nil)
  (pss_cons (ps_if (pt_val (pe_callB call_isi (by rfl) z_isinstance (by decide +kernel) (pa_cons (pv 0) (pa_cons (pe_bltn (v := .ty "list") (by rfl) z_list boot_list rfl) pa_nil)))) (pss_one (ps_ret (pe_lc (own := [("part", 1)]) (g := (gName 1)) rfl sc_copied.nd (pi_list (pv 0)) (blkOk_by (own := [("part", 1)]) (N := N_copied) (sc := defScope s_copied) (by decide +kernel)) (fun _ _ _ _ _ => (pg_name (i := 1) sc_copied.nd rfl (Or.inl rfl))) (fun _ _ _ _ _ => pts_nil) (fun _ _ _ _ _ => (pe_call G_copied (hr.mono (by omega)) rfl C_copied.m C_copied.k C_copied.b .nil pass0 (pa_cons (pv 1) pa_nil)))))) pss_nil)
  (pss_cons (ps_if (pt_val (pe_callB call_isi (by rfl) z_isinstance (by decide +kernel) (pa_cons (pv 0) (pa_cons (pe_bltn (v := .ty "tuple") (by rfl) z_tuple boot_tuple rfl) pa_nil)))) (pss_one (ps_ret (pe_callTy call_tupA (by rfl) z_tuple (by decide +kernel) (pa_cons (pe_lc (own := [("part", 1)]) (g := (gName 1)) rfl sc_copied.nd (pi_tup (pv 0)) (blkOk_by (own := [("part", 1)]) (N := N_copied) (sc := defScope s_copied) (by decide +kernel)) (fun _ _ _ _ _ => (pg_name (i := 1) sc_copied.nd rfl (Or.inl rfl))) (fun _ _ _ _ _ => pts_nil) (fun _ _ _ _ _ => (pe_call G_copied (hr.mono (by omega)) rfl C_copied.m C_copied.k C_copied.b .nil pass0 (pa_cons (pv 1) pa_nil)))) pa_nil)))) pss_nil)
  (pss_cons (ps_if (pt_val (pe_callB call_isi (by rfl) z_isinstance (by decide +kernel) (pa_cons (pv 0) (pa_cons (pe_bltn (v := .ty "dict") (by rfl) z_dict boot_dict rfl) pa_nil)))) pss_never pss_nil)
  (pss_one (ps_ret (pv 0))))))))), read_of h fun ds os QA EA hf => ?_⟩
    obtain ⟨d, rfl, hc, hn, q⟩ := hf
    try dsimp only [cxOf, Cx.nox, Cx.wish]
    show W K _ _ _ ⟨[some (.d d), none, none], os⟩
    have lc : ∀ {xs : List D}, D.cpys xs = true → D.dpts xs + 1 ≤ n → ∀ (i : Nat) (hi : i < xs.length) (os2 : Os) (QQ : D → Os → Prop), QQ xs[i] os2 → fCopP n [.d xs[i]] os2 QQ fun _ _ _ => False := by
      intro xs h1 h2 i hi os2 QQ hq
      cases n with
      | zero => omega
      | succ n =>
        have h3 := dpts_mem (List.getElem_mem hi)
        exact ⟨_, rfl, cpys_all.mp h1 _ (List.getElem_mem hi), by omega, hq⟩
    repeat (walk_at "b")
    cases d with
    | ob C fs => cases (show false = true from hc)
    | xo C fs => cases (show false = true from hc)
    | dk kvs => cases (show false = true from hc)
    | str z => cases (show false = true from hc)
    | bl b =>
      refine ⟨_, "bool", true, rfl, rfl, (by decide +kernel), ?_⟩
      repeat (walk_at "b")
      exact ret_same q
    | int i =>
      refine ⟨_, "int", false, rfl, rfl, (by decide +kernel), ?_⟩
      repeat (walk_at "b")
      refine ⟨_, "int", true, rfl, rfl, (by decide +kernel), ?_⟩
      repeat (walk_at "b")
      refine cw_intI ?_
      exact ret_same q
    | non =>
      refine ⟨_, "NoneType", false, rfl, rfl, (by decide +kernel), ?_⟩
      repeat (walk_at "b")
      refine ⟨_, "NoneType", false, rfl, rfl, (by decide +kernel), ?_⟩
      repeat (walk_at "b")
      refine ⟨_, "NoneType", false, rfl, rfl, (by decide +kernel), ?_⟩
      repeat (walk_at "b")
      refine ⟨_, "NoneType", false, rfl, rfl, (by decide +kernel), ?_⟩
      repeat (walk_at "b")
      refine ⟨_, "NoneType", false, rfl, rfl, (by decide +kernel), ?_⟩
      repeat (walk_at "b")
      refine ⟨_, "NoneType", false, rfl, rfl, (by decide +kernel), ?_⟩
      repeat (walk_at "b")
      exact ret_same q
    | lst xs =>
      have hc2 : (decide (xs.length ≤ 100000) && D.cpys xs) = true := hc
      rw [Bool.and_eq_true] at hc2
      obtain ⟨hl, hcs⟩ := hc2
      have hl2 : xs.length ≤ 100000 := of_decide_eq_true hl
      refine ⟨_, "list", false, rfl, rfl, (by decide +kernel), ?_⟩
      repeat (walk_at "b")
      refine ⟨_, "list", false, rfl, rfl, (by decide +kernel), ?_⟩
      repeat (walk_at "b")
      refine ⟨_, "list", false, rfl, rfl, (by decide +kernel), ?_⟩
      repeat (walk_at "b")
      refine ⟨_, "list", true, rfl, rfl, (by decide +kernel), ?_⟩
      repeat (walk_at "b")
      refine ew_lc (wg_name (by decide)) mg_name ?_
      refine iw_list ?_
      repeat (walk_at "b")
      refine ⟨fun i acc os2 => os2 = os ∧ acc = xs.take i, ⟨rfl, rfl⟩, ?_, ?_⟩
      · rintro i d acc os2 hd ⟨rfl, rfl⟩
        have hi : i < xs.length := (List.getElem?_eq_some_iff.mp hd).1
        have ed : xs[i] = d := (List.getElem?_eq_some_iff.mp hd).2
        subst ed
        refine gw_name ?_
        refine tw_yes (br_T ?_)
        refine ew_call ?_
        refine aw_cons (ew_var (d := .d xs[i]) rfl (aw_nil ?_))
        refine lc hcs hn i hi _ _ ?_
        exact ⟨_, _, rfl, rfl, by rw [List.length_take, sizeLine_eq]; omega, rfl, by rw [List.take_append_getElem hi]⟩
      · rintro acc os2 ⟨rfl, rfl⟩
        rw [List.take_length]
        exact ret_same q
    | tup xs =>
      have hc2 : (decide (xs.length ≤ 100000) && D.cpys xs) = true := hc
      rw [Bool.and_eq_true] at hc2
      obtain ⟨hl, hcs⟩ := hc2
      have hl2 : xs.length ≤ 100000 := of_decide_eq_true hl
      refine ⟨_, "tuple", false, rfl, rfl, (by decide +kernel), ?_⟩
      repeat (walk_at "b")
      refine ⟨_, "tuple", false, rfl, rfl, (by decide +kernel), ?_⟩
      repeat (walk_at "b")
      refine ⟨_, "tuple", false, rfl, rfl, (by decide +kernel), ?_⟩
      repeat (walk_at "b")
      refine ⟨_, "tuple", false, rfl, rfl, (by decide +kernel), ?_⟩
      repeat (walk_at "b")
      refine ⟨_, "tuple", true, rfl, rfl, (by decide +kernel), ?_⟩
      refine ⟨_, rfl, br_T (w_ret (ew_cb (aw_cons ?_)))⟩
      refine ew_lc (wg_name (by decide)) mg_name ?_
      refine iw_tup ?_
      repeat (walk_at "b")
      refine ⟨fun i acc os2 => os2 = os ∧ acc = xs.take i, ⟨rfl, rfl⟩, ?_, ?_⟩
      · rintro i d acc os2 hd ⟨rfl, rfl⟩
        have hi : i < xs.length := (List.getElem?_eq_some_iff.mp hd).1
        have ed : xs[i] = d := (List.getElem?_eq_some_iff.mp hd).2
        subst ed
        refine gw_name ?_
        refine tw_yes (br_T ?_)
        refine ew_call ?_
        refine aw_cons (ew_var (d := .d xs[i]) rfl (aw_nil ?_))
        refine lc hcs hn i hi _ _ ?_
        exact ⟨_, _, rfl, rfl, by rw [List.length_take, sizeLine_eq]; omega, rfl, by rw [List.take_append_getElem hi]⟩
      · rintro acc os2 ⟨rfl, rfl⟩
        rw [List.take_length]
        refine aw_nil (cw_tupL (ret_same q))
theorem ok_copied {f : Addr} {fd : FuncData} (F : Fun K "copied" "copied" s_copied f fd) (z_isinstance : mg "isinstance" = none) (z_bool : mg "bool" = none) (z_int : mg "int" = none) (z_str : mg "str" = none) (z_list : mg "list" = none) (z_tuple : mg "tuple" = none) (z_dict : mg "dict" = none)
    (C_copied : Cal K mg "copied" f fd ["thing"]) : ∀ n : Nat, FnOk P w K mg base CX0 (n + 1) f fd ["thing"] (spD K (fCop n))
  | 0 => ok_copied1 F z_isinstance z_bool z_int z_str z_list z_tuple z_dict ok_no C_copied
  | n + 1 => ok_copied1 F z_isinstance z_bool z_int z_str z_list z_tuple z_dict (ok_copied F z_isinstance z_bool z_int z_str z_list z_tuple z_dict C_copied n) C_copied
theorem ok_copiedO {f : Addr} {fd : FuncData} (F : Fun K "copied" "copied" s_copied f fd) (z_isinstance : mg "isinstance" = none) (z_bool : mg "bool" = none) (z_int : mg "int" = none) (z_str : mg "str" = none) (z_list : mg "list" = none) (z_tuple : mg "tuple" = none) (z_dict : mg "dict" = none)
    (G_copied : FnOk P w K mg base CX0 1 f fd ["thing"] (spD K (fCop 0))) (C_copied : Cal K mg "copied" f fd ["thing"]) : FnOk P w K mg base CX0 2 f fd ["thing"] (spD K fCopO) := by
  refine F.ok sc_copied (fun vs H Q E h => ?_) (fun cdv A outer s H vs Q E hr h => ?_)
  · obtain ⟨as, os, ds, QA, EA, R, r, ⟨j, ns, rfl, _⟩, _⟩ := h
    rw [r.length]
    rfl
  · refine ⟨_, (pss_cons (ps_if (pt_val (pe_callB call_isi (by rfl) z_isinstance (by decide +kernel) (pa_cons (pv 0) (pa_cons (pe_bltn (v := .ty "bool") (by rfl) z_bool boot_bool rfl) pa_nil)))) (pss_one (ps_ret (pv 0))) pss_nil)
  (pss_cons (ps_if (pt_val (pe_callB call_isi (by rfl) z_isinstance (by decide +kernel) (pa_cons (pv 0) (pa_cons (pe_bltn (v := .ty "int") (by rfl) z_int boot_int rfl) pa_nil)))) (pss_one (ps_ret (pe_callTy call_intA (by rfl) z_int (by decide +kernel) (pa_cons (pv 0) pa_nil)))) pss_nil)
  (pss_cons (ps_if (pt_val (pe_callB call_isi (by rfl) z_isinstance (by decide +kernel) (pa_cons (pv 0) (pa_cons (pe_bltn (v := .ty "str") (by rfl) z_str boot_str rfl) pa_nil)))) pss_never pss_nil)
  (pss_cons (ps_if (pt_val (pe_callB call_isi (by rfl) z_isinstance (by decide +kernel) (pa_cons (pv 0) (pa_cons (pe_bltn (v := .ty "list") (by rfl) z_list boot_list rfl) pa_nil)))) (pss_one (ps_ret (pe_lc (own := [("part", 1)]) (g := (gName 1)) rfl sc_copied.nd (pi_list (pv 0)) (blkOk_by (own := [("part", 1)]) (N := N_copied) (sc := defScope s_copied) (by decide +kernel)) (fun _ _ _ _ _ => (pg_name (i := 1) sc_copied.nd rfl (Or.inl rfl))) (fun _ _ _ _ _ => pts_nil) (fun _ _ _ _ _ => (pe_call G_copied (hr.mono (by decide)) rfl C_copied.m C_copied.k C_copied.b .nil pass0 (pa_cons (pv 1) pa_nil)))))) pss_nil)
  (pss_cons (ps_if (pt_val (pe_callB call_isi (by rfl) z_isinstance (by decide +kernel) (pa_cons (pv 0) (pa_cons (pe_bltn (v := .ty "tuple") (by rfl) z_tuple boot_tuple rfl) pa_nil)))) pss_never pss_nil)
  (pss_cons (ps_if (pt_val (pe_callB call_isi (by rfl) z_isinstance (by decide +kernel) (pa_cons (pv 0) (pa_cons (pe_bltn (v := .ty "dict") (by rfl) z_dict boot_dict rfl) pa_nil)))) pss_never pss_nil)
  (pss_one (ps_ret (pv 0))))))))), read_of h fun ds os QA EA hf => ?_⟩
    obtain ⟨j, ns, rfl, ho, hl, q⟩ := hf
    try dsimp only [cxOf, Cx.nox, Cx.wish]
    show W K _ _ _ ⟨[some (.o j), none, none], os⟩
    refine w_seq (w_if (tw_test (ew_isiL (ew_var (d := .o j) rfl ⟨j, _, false, rfl, ho, (by decide +kernel), ⟨_, rfl, br_F ?_⟩⟩))))
    refine w_next ?_
    refine w_seq (w_if (tw_test (ew_isiL (ew_var (d := .o j) rfl ⟨j, _, false, rfl, ho, (by decide +kernel), ⟨_, rfl, br_F ?_⟩⟩))))
    refine w_next ?_
    refine w_seq (w_if (tw_test (ew_isiL (ew_var (d := .o j) rfl ⟨j, _, false, rfl, ho, (by decide +kernel), ⟨_, rfl, br_F ?_⟩⟩))))
    refine w_next ?_
    refine w_seq (w_if (tw_test (ew_isiL (ew_var (d := .o j) rfl ⟨j, _, true, rfl, ho, (by decide +kernel), ⟨_, rfl, br_T ?_⟩⟩))))
    refine w_ret ?_
    refine ew_lcO (wg_name (by decide)) mg_name (ew_var (d := .o j) rfl ⟨j, _, rfl, ho, (List.getElem?_eq_some_iff.mp ho).1, fun i acc os2 => os2 = os ∧ acc = (ns.take i).map D.int, ⟨rfl, rfl⟩, ?_, ?_, ?_⟩)
    · rintro i acc os2 ⟨rfl, rfl⟩
      exact ho
    · rintro i d acc os2 hd ⟨rfl, rfl⟩
      have hi : i < ns.length := by
        have z := (List.getElem?_eq_some_iff.mp hd).1
        rw [List.length_map] at z
        exact z
      have ed : d = D.int ns[i] := by
        rw [List.getElem?_map, List.getElem?_eq_getElem hi] at hd
        cases hd
        rfl
      subst ed
      refine gw_name ?_
      refine tw_yes (br_T ?_)
      refine ew_call ?_
      refine aw_cons (ew_var (d := .d (.int ns[i])) rfl (aw_nil ?_))
      refine ⟨_, rfl, rfl, Nat.zero_le _, ?_⟩
      refine ⟨_, _, rfl, rfl, by rw [List.length_map, List.length_take, sizeLine_eq]; omega, rfl, ?_⟩
      rw [← List.take_append_getElem hi, List.map_append]
      rfl
    · rintro acc os2 ⟨rfl, rfl⟩
      rw [List.length_map, List.take_length]
      exact ret_same q
end

open PySem PySem.Spec PyProof.Rows L2 Br
def lenT : D → Nat
  | .tup xs => xs.length
  | _ => 0
/-- what is a spot -/
def spotB : D → Bool
  | .tup [a, o, n] => a.isI && (rowB o && (rowB n && decide (0 < lenT o + lenT n)))
  | _ => false
def atD : D → Int
  | .tup (.int a :: _) => a
  | _ => 0
def endD : D → Int
  | .tup [.int a, .tup o, _] => a + o.length
  | _ => 0
/-- the first spot that isn't as it has to be -/
def faultD (len : Int) : Int → Nat → List D → D
  | _, _, [] => .non
  | least, i, x :: r => if spotB x = true ∧ least ≤ atD x ∧ endD x ≤ len then faultD len (endD x + 1) (i + 1) r else .int i
theorem row_is {x : D} (h : rowB x = true) : ∃ xs, x = .tup xs := by
  cases x with
  | tup xs => exact ⟨xs, rfl⟩
  | _ => cases (show false = true from h)
theorem spot_is {x : D} (h : spotB x = true) : ∃ (a : Int) (o n : List D), x = .tup [.int a, .tup o, .tup n] := by
  cases x with
  | tup xs =>
    match xs, h with
    | [a, o, n], h =>
      have h' : (a.isI && (rowB o && (rowB n && decide (0 < lenT o + lenT n)))) = true := h
      rw [Bool.and_eq_true, Bool.and_eq_true, Bool.and_eq_true] at h'
      obtain ⟨a', rfl⟩ := isI_is h'.1
      obtain ⟨o', rfl⟩ := row_is h'.2.1
      obtain ⟨n', rfl⟩ := row_is h'.2.2.1
      exact ⟨a', o', n', rfl⟩
  | _ => cases (show false = true from h)
def fEnd : FD := fun ds os QA _ => ∃ (a : Int) (o n : List D), ds = [.d (.tup [.int a, .tup o, .tup n])] ∧ QA (.int (a + o.length)) os
def fIsSpot : FD := fun ds os QA _ => ∃ x M, ds = [.d x] ∧ x.fit M = true ∧ x.ln ≤ 10000000 ∧ QA (.bl (spotB x)) os
def fFault : FD := fun ds os QA _ => ∃ (len : Int) (sp : D) (xs : List D) (M : Nat), ds = [.d (.int len), .d sp] ∧ (sp = .tup xs ∨ sp = .lst xs) ∧ D.fits M xs = true ∧ D.lns xs ≤ 9000000 ∧ QA (faultD len 0 0 xs) os
theorem bw_notN0 {K : PySem.W.Frag} {os : Os} {Q : Sv → Os → Prop} (q : Q (.d (.bl false)) os) : BW K rNotN (.d .non) (.d .non) os Q :=
  bw_pure (fun as H v u Q' R rx ry k => by
    cases rx
    cases ry
    exact ⟨rfl, k _ (.bl false)⟩) q
section
variable {P : Program} {w : World} {K : PySem.W.Frag} {mg : Str → Option Value} {base : Heap}
abbrev s_end_of : Stmt := topS 18
abbrev N_end_of : List Str := ["spot", "at", "old", "_"]
theorem sc_end_of : FnScope N_end_of ["spot"] (defScope s_end_of) := ⟨rfl, rfl, rfl, by decide +kernel, rfl, by decide +kernel, by decide +kernel⟩
theorem ok_end_of {f : Addr} {fd : FuncData} (F : Fun K "end_of" "end_of" s_end_of f fd) (z_len : mg "len" = none) : FnOk P w K mg base CX0 1 f fd ["spot"] (spD K fEnd) := by
  refine F.ok sc_end_of (fun vs H Q E h => ?_) (fun cdv A outer s H vs Q E hr h => ?_)
  · obtain ⟨as, os, ds, QA, EA, R, r, ⟨a, o, n, rfl, _⟩, _⟩ := h
    rw [r.length]
    rfl
  · refine ⟨_, (pss_cons (ps_asg (pv 0) (pg_tup (by rfl) (pgs_cons (pg_name (i := 1) sc_end_of.nd rfl (Or.inl rfl)) (pgs_cons (pg_name (i := 2) sc_end_of.nd rfl (Or.inl rfl)) (pgs_cons (pg_name (i := 3) sc_end_of.nd rfl (Or.inl rfl)) pgs_nil)))))
  (pss_one (ps_ret (pe_op op_add (pv 1) (pe_callB call_lenA (by rfl) z_len PySem.boot_len (pa_cons (pv 2) pa_nil)))))), read_of h fun ds os QA EA hf => ?_⟩
    obtain ⟨a, o, n, rfl, q⟩ := hf
    try dsimp only [cxOf, Cx.nox, Cx.wish]
    show W K _ _ _ ⟨[some (.d (.tup [.int a, .tup o, .tup n])), none, none, none], os⟩
    repeat (walk_at "b")
    refine gw_tup rfl ?_
    repeat (walk_at "b")
    exact ret_same q
abbrev s_is_spot : Stmt := topS 17
abbrev N_is_spot : List Str := ["thing", "at", "old", "new"]
theorem sc_is_spot : FnScope N_is_spot ["thing"] (defScope s_is_spot) := ⟨rfl, rfl, rfl, by decide +kernel, rfl, by decide +kernel, by decide +kernel⟩
theorem ok_is_spot {f a1 a2 a3 : Addr} {fd d1 d2 d3 : FuncData} (F : Fun K "is_spot" "is_spot" s_is_spot f fd) (z_len : mg "len" = none)
    (G_is_tuple_of : FnOk P w K mg base CX0 1 a1 d1 ["thing", "many"] (spD K fTupOf)) (C_is_tuple_of : Cal K mg "is_tuple_of" a1 d1 ["thing", "many"])
    (G_is_whole : FnOk P w K mg base CX0 1 a2 d2 ["thing"] (spD K fWhole)) (C_is_whole : Cal K mg "is_whole" a2 d2 ["thing"])
    (G_is_row : FnOk P w K mg base CX0 3 a3 d3 ["thing"] (spD K fRow)) (C_is_row : Cal K mg "is_row" a3 d3 ["thing"]) : FnOk P w K mg base CX0 4 f fd ["thing"] (spD K fIsSpot) := by
  refine F.ok sc_is_spot (fun vs H Q E h => ?_) (fun cdv A outer s H vs Q E hr h => ?_)
  · obtain ⟨as, os, ds, QA, EA, R, r, ⟨x, M, rfl, _⟩, _⟩ := h
    rw [r.length]
    rfl
  · refine ⟨_, (pss_cons (ps_if (pt_not (pt_val (pe_call G_is_tuple_of (hr.mono (by decide)) rfl C_is_tuple_of.m C_is_tuple_of.k C_is_tuple_of.b .nil pass0 (pa_cons (pv 0) (pa_cons pe_int pa_nil))))) (pss_one (ps_ret pe_bl)) pss_nil)
  (pss_cons (ps_asg (pv 0) (pg_tup (by rfl) (pgs_cons (pg_name (i := 1) sc_is_spot.nd rfl (Or.inl rfl)) (pgs_cons (pg_name (i := 2) sc_is_spot.nd rfl (Or.inl rfl)) (pgs_cons (pg_name (i := 3) sc_is_spot.nd rfl (Or.inl rfl)) pgs_nil)))))
  (pss_one (ps_ret (pe_and (pe_call G_is_whole (hr.mono (by decide)) rfl C_is_whole.m C_is_whole.k C_is_whole.b .nil pass0 (pa_cons (pv 1) pa_nil)) (pe_and (pe_call G_is_row (hr.mono (by decide)) rfl C_is_row.m C_is_row.k C_is_row.b .nil pass0 (pa_cons (pv 2) pa_nil)) (pe_and (pe_call G_is_row (hr.mono (by decide)) rfl C_is_row.m C_is_row.k C_is_row.b .nil pass0 (pa_cons (pv 3) pa_nil)) (pe_one (pe_cmpR op_gt (pe_op op_add (pe_callB call_lenA (by rfl) z_len PySem.boot_len (pa_cons (pv 2) pa_nil)) (pe_callB call_lenA (by rfl) z_len PySem.boot_len (pa_cons (pv 3) pa_nil))) pe_int (nomark _)))))))))), read_of h fun ds os QA EA hf => ?_⟩
    obtain ⟨x, M, rfl, hx, hl, q⟩ := hf
    obtain ⟨a, ha⟩ := fit_ty hx
    try dsimp only [cxOf, Cx.nox, Cx.wish]
    show W K _ _ _ ⟨[some (.d x), none, none, none], os⟩
    repeat (walk_at "b")
    refine ⟨x, a, 3, rfl, ha, ?_⟩
    refine ⟨_, rfl, br_iteB (fun e => ?_) (fun e => ?_)⟩
    · repeat (walk_at "b")
      have e2 : x.isT 3 = false := by simpa using e
      have e3 : spotB x = false := by
        cases hs : spotB x with
        | false => rfl
        | true =>
          obtain ⟨a, o, n, rfl⟩ := spot_is hs
          cases (show true = false from e2)
      rw [e3] at q
      exact ret_same q
    · have e2 : x.isT 3 = true := by simpa using e
      have e3 : ∃ p o n, x = .tup [p, o, n] := by
        cases x with
        | tup xs =>
          have z : (xs.length : Int) = 3 := of_decide_eq_true e2
          match xs, z with
          | [p, o, n], _ => exact ⟨p, o, n, rfl⟩
          | [], z => simp at z
          | [_], z => simp at z
          | [_, _], z => simp at z
          | _ :: _ :: _ :: _ :: _, z => simp at z; omega
        | _ => cases (show false = true from e2)
      obtain ⟨p, o, n, rfl⟩ := e3
      have hfs := fits_all.mp (show D.fits M [p, o, n] = true from hx)
      obtain ⟨b1, hb1⟩ := fit_ty (hfs p (by simp))
      have l1 := lns_mem (xs := [p, o, n]) (x := p) (by simp)
      have l2 := lns_mem (xs := [p, o, n]) (x := o) (by simp)
      have l3 := lns_mem (xs := [p, o, n]) (x := n) (by simp)
      have l4 : D.lns [p, o, n] + 3 ≤ 10000000 := hl
      have eq : spotB (.tup [p, o, n]) = (p.isI && (rowB o && (rowB n && decide (0 < lenT o + lenT n)))) := rfl
      rw [eq] at q
      repeat (walk_at "b")
      refine gw_tup rfl ?_
      repeat (walk_at "b")
      refine ⟨p, b1, rfl, hb1, ?_⟩
      refine ⟨_, rfl, br_iteB (fun e1 => ?_) (fun e1 => ?_)⟩
      · rw [e1] at q
        repeat (walk_at "b")
        refine ⟨o, M, rfl, hfs o (by simp), by omega, ?_⟩
        refine ⟨_, rfl, br_iteB (fun e4 => ?_) (fun e4 => ?_)⟩
        · rw [e4] at q
          repeat (walk_at "b")
          refine ⟨n, M, rfl, hfs n (by simp), by omega, ?_⟩
          refine ⟨_, rfl, br_iteB (fun e5 => ?_) (fun e5 => ?_)⟩
          · rw [e5] at q
            obtain ⟨o', rfl⟩ := row_is e4
            obtain ⟨n', rfl⟩ := row_is e5
            repeat (walk_at "b")
            have e6 : decide ((o'.length : Int) + (n'.length : Int) > 0) = decide (0 < o'.length + n'.length) := by
              by_cases h : 0 < o'.length + n'.length
              · rw [decide_eq_true h, decide_eq_true (by omega)]
              · rw [decide_eq_false h, decide_eq_false (by omega)]
            rw [e6]
            exact ret_same q
          · rw [e5] at q
            exact ret_same q
        · rw [e4] at q
          exact ret_same q
      · rw [e1] at q
        exact ret_same q
abbrev s_spot_fault : Stmt := topS 16
abbrev N_spot_fault : List Str := ["length", "spots", "least", "number", "spot"]
theorem sc_spot_fault : FnScope N_spot_fault ["length", "spots"] (defScope s_spot_fault) := ⟨rfl, rfl, rfl, by decide +kernel, rfl, by decide +kernel, by decide +kernel⟩
theorem ok_spot_fault {f a1 a2 : Addr} {fd d1 d2 : FuncData} (F : Fun K "spot_fault" "spot_fault" s_spot_fault f fd) (z_enumerate : mg "enumerate" = none)
    (G_is_spot : FnOk P w K mg base CX0 4 a1 d1 ["thing"] (spD K fIsSpot)) (C_is_spot : Cal K mg "is_spot" a1 d1 ["thing"])
    (G_end_of : FnOk P w K mg base CX0 1 a2 d2 ["spot"] (spD K fEnd)) (C_end_of : Cal K mg "end_of" a2 d2 ["spot"]) : FnOk P w K mg base CX0 5 f fd ["length", "spots"] (spD K fFault) := by
  refine F.ok sc_spot_fault (fun vs H Q E h => ?_) (fun cdv A outer s H vs Q E hr h => ?_)
  · obtain ⟨as, os, ds, QA, EA, R, r, ⟨len, sp, xs, M, rfl, _⟩, _⟩ := h
    rw [r.length]
    rfl
  · refine ⟨_, (pss_cons (ps_set (i := 2) sc_spot_fault.nd rfl (Or.inl rfl) pe_int)
  (pss_cons (ps_for PassesOwn.never rfl (pi_enA (by rfl) z_enumerate (pa_cons (pv 1) pa_nil)) (pg_tup (by rfl) (pgs_cons (pg_name (i := 3) sc_spot_fault.nd rfl (Or.inl rfl)) (pgs_cons (pg_name (i := 4) sc_spot_fault.nd rfl (Or.inl rfl)) pgs_nil)))
    (pss_cons (ps_if (PW.pt (pw_or (pt_not (pt_val (pe_call G_is_spot (hr.mono (by decide)) rfl C_is_spot.m C_is_spot.k C_is_spot.b .nil pass0 (pa_cons (pv 4) pa_nil)))) (pw_or (pt_cmpR op_lt (pe_ix (r := rIxT K) ix_tup (pv 4) pe_int (fun _ _ => rfl)) (pv 2) (nomark _)) (pw_or1 (pt_cmpR op_gt (pe_call G_end_of (hr.mono (by decide)) rfl C_end_of.m C_end_of.k C_end_of.b .nil pass0 (pa_cons (pv 4) pa_nil)) (pv 0) (nomark _)))))) (pss_one (ps_ret (pv 3))) pss_nil)
    (pss_one (ps_set (i := 2) sc_spot_fault.nd rfl (Or.inl rfl) (pe_op op_add (pe_call G_end_of (hr.mono (by decide)) rfl C_end_of.m C_end_of.k C_end_of.b .nil pass0 (pa_cons (pv 4) pa_nil)) pe_int)))))
  (pss_one (ps_ret pe_non)))), read_of h fun ds os QA EA hf => ?_⟩
    obtain ⟨len, sp, xs, M, rfl, hsp, hfs, hl, q⟩ := hf
    have hfa := fits_all.mp hfs
    try dsimp only [cxOf, Cx.nox, Cx.wish]
    show W K _ _ _ ⟨[some (.d (.int len)), some (.d sp), none, none, none], os⟩
    repeat (walk_at "b")
    refine w_for (iw_en (aw_cons (ew_var (d := .d sp) rfl (aw_nil ⟨xs, by rcases hsp with rfl | rfl; exact .inl rfl; exact .inr rfl, ?_⟩))))
    refine ⟨fun i S' => ∃ (least : Int) (o3 o4 : Option Sv), S' = ⟨[some (.d (.int len)), some (.d sp), some (.d (.int least)), o3, o4], os⟩ ∧ faultD len 0 0 xs = faultD len least i (xs.drop i), ⟨0, _, _, rfl, rfl⟩, ?_, ?_⟩
    · rintro i d S' hd ⟨least, o3, o4, rfl, hq⟩
      obtain ⟨x, hx, rfl⟩ := enumD_get hd
      have hi : i < xs.length := (List.getElem?_eq_some_iff.mp hx).1
      have ex : xs[i] = x := (List.getElem?_eq_some_iff.mp hx).2
      have hm : x ∈ xs := List.mem_of_getElem? hx
      have hln := lns_mem hm
      rw [List.drop_eq_getElem_cons hi, ex] at hq
      have ei : (0 + (i : Nat) : Int) = (i : Int) := by omega
      rw [ei]
      refine gw_tup rfl ?_
      repeat (walk_at "b")
      refine ⟨x, M, rfl, hfa x hm, by omega, ?_⟩
      have bad : ¬ (spotB x = true ∧ least ≤ atD x ∧ endD x ≤ len) → RetOk os.length QA (.d (.int i)) os := fun h => by
        have z : faultD len least i (x :: xs.drop (i + 1)) = .int i := by rw [faultD, if_neg h]
        rw [hq, z] at q
        exact ret_same q
      refine ⟨_, rfl, br_iteB (fun e => ?_) (fun e => ?_)⟩
      · repeat (walk_at "b")
        refine bad fun z => ?_
        rw [z.1] at e
        cases e
      · have e2 : spotB x = true := by simpa using e
        obtain ⟨a, o, n, rfl⟩ := spot_is e2
        repeat (walk_at "b")
        refine br_ite (fun h1 => ?_) (fun h1 => ?_)
        · repeat (walk_at "b")
          refine bad fun z => ?_
          have : least ≤ a := z.2.1
          omega
        · repeat (walk_at "b")
          refine ⟨a, o, n, rfl, ?_⟩
          repeat (walk_at "b")
          refine br_ite (fun h2 => ?_) (fun h2 => ?_)
          · repeat (walk_at "b")
            refine bad fun z => ?_
            have : a + (o.length : Int) ≤ len := z.2.2
            omega
          · repeat (walk_at "b")
            refine ⟨a, o, n, rfl, ?_⟩
            repeat (walk_at "b")
            refine ⟨_, _, _, rfl, ?_⟩
            rw [hq, faultD, if_pos ⟨e2, by show least ≤ a; omega, by show a + (o.length : Int) ≤ len; omega⟩]
            rfl
    · rintro S' ⟨least, o3, o4, rfl, hq⟩
      rw [enumD_len, List.drop_length] at hq
      repeat (walk_at "b")
      rw [hq] at q
      exact ret_same q
end

open PySem PySem.Spec PyProof.Rows L2 Br
/-- a patch's fields -/
def pfs (l : Int) (xs : List D) : List (Str × D) := [("length", .int l), ("spots", .tup xs)]
/-- what is asked of the class -/
structure Pcl (K : PySem.W.Frag) (C : Addr) : Prop where
  i : IsC K C
  nl : NoAttr K C "length"
  ns : NoAttr K C "spots"
def fInit (C : Addr) : FD := fun ds os QA _ => ∃ (os0 : Os) (len : Nat) (sp : D) (xs : List D) (M : Nat), ds = [.o os0.length, .d (.int len), .d sp] ∧ os = os0 ++ [.mi C []] ∧ (sp = .tup xs ∨ sp = .lst xs) ∧ D.fits M xs = true ∧ D.lns xs ≤ 9000000 ∧
  sp.cpy = true ∧ sp.dpt ≤ 3 ∧ faultD len 0 0 xs = .non ∧ QA .non (os0 ++ [.mi C (pfs len xs)])
def fEq (C : Addr) : FD := fun ds os QA _ => ∃ (l1 l2 : Int) (xs ys : List D) (p q : PyData), ds = [.d (.ob C (pfs l1 xs)), .d (.ob C (pfs l2 ys))] ∧ (D.tup xs).py = some p ∧ (D.tup ys).py = some q ∧ SeqAt.shaped p = true ∧ SeqAt.shaped q = true ∧
  QA (.bl (decide (l1 = l2) && PyData.eqv p q)) os
theorem last_at {os0 : Os} {x : Ob} : (os0 ++ [x])[os0.length]? = some x := by simp
theorem last_set {os0 : Os} {x y : Ob} : (os0 ++ [x]).set os0.length y = os0 ++ [y] := by
  rw [List.set_append_right _ _ (Nat.le_refl _)]
  simp
section
variable {P : Program} {w : World} {K : PySem.W.Frag} {mg : Str → Option Value} {base : Heap}
theorem okD {x qual : Str} {st : Stmt} {f : Addr} {fd : FuncData} {N ps : List Str} {k : Nat} {sp : Sp} {dvs : List V} {kws : List (Str × V)} (F : FunD K x qual (defArgs st) (defBody st) (defScope st) dvs kws f fd) (S : FnScope N ps (defScope st)) (len : ∀ vs H Q E, sp vs H Q E → vs.length = ps.length)
    (hbody : ∀ (cdv : Value) (A : Around) (outer : List Env) (s : Shared) (H : Hp) (vs : List V) (Q : VK) (E : XK), Room k (A.deeper (envOfC qual (defScope st) s.heap.objs.size f cdv)) → sp vs H Q E →
      ∃ t, PSs (cxOf CX0 P w K mg base N qual (defScope st) f cdv A outer s H E).nox (defBody st) t ∧ t { nx := fun _ H' => Q .non H', rt := Q } (L2.start N vs) H) : FnOk P w K mg base CX0 (k + 1) f fd ps sp :=
  F.ok S len fun cdv A outer s H vs Q E hr hs => by
    obtain ⟨t, h, q⟩ := hbody cdv A outer s H vs Q E hr hs
    exact ⟨t, h.nox, q⟩
abbrev s_Patch_init : Stmt := inClass (topS 25) 0
abbrev N_Patch_init : List Str := ["self", "length", "spots", "fault"]
theorem sc_Patch_init : FnScope N_Patch_init ["self", "length", "spots"] (defScope s_Patch_init) := ⟨rfl, rfl, rfl, by decide +kernel, rfl, by decide +kernel, by decide +kernel⟩
theorem ok_Patch_init {C f a1 a2 a3 a4 : Addr} {fd d1 d2 d3 d4 : FuncData} {dvs : List V} (F : FunD K "__init__" "Patch.__init__" (defArgs s_Patch_init) (defBody s_Patch_init) (defScope s_Patch_init) dvs [] f fd) (T : Pcl K C) (z_tuple : mg "tuple" = none)
    (G_is_whole : FnOk P w K mg base CX0 1 a1 d1 ["thing"] (spD K fWhole)) (C_is_whole : Cal K mg "is_whole" a1 d1 ["thing"])
    (G_is_listed : FnOk P w K mg base CX0 1 a2 d2 ["thing"] (spD K fListed)) (C_is_listed : Cal K mg "is_listed" a2 d2 ["thing"])
    (G_spot_fault : FnOk P w K mg base CX0 5 a3 d3 ["length", "spots"] (spD K fFault)) (C_spot_fault : Cal K mg "spot_fault" a3 d3 ["length", "spots"])
    (G_copied : FnOk P w K mg base CX0 4 a4 d4 ["thing"] (spD K (fCop 3))) (C_copied : Cal K mg "copied" a4 d4 ["thing"]) : FnOk P w K mg base CX0 6 f fd ["self", "length", "spots"] (spD K (fInit C)) := by
  refine okD F sc_Patch_init (fun vs H Q E h => ?_) (fun cdv A outer s H vs Q E hr h => ?_)
  · obtain ⟨as, os, ds, QA, EA, R, r, ⟨os0, len, sp, xs, M, rfl, _⟩, _⟩ := h
    rw [r.length]
    rfl
  · refine ⟨_, (pss_cons (ps_if (PW.pt (pw_or (pt_not (pt_val (pe_call G_is_whole (hr.mono (by decide)) rfl C_is_whole.m C_is_whole.k C_is_whole.b .nil pass0 (pa_cons (pv 1) pa_nil)))) (pw_or (pt_cmpR op_lt (pv 1) pe_int (nomark _)) (pw_or1 (pt_not (pt_val (pe_call G_is_listed (hr.mono (by decide)) rfl C_is_listed.m C_is_listed.k C_is_listed.b .nil pass0 (pa_cons (pv 2) pa_nil)))))))) pss_never pss_nil)
  (pss_cons (ps_set (i := 3) sc_Patch_init.nd rfl (Or.inl rfl) (pe_call G_spot_fault (hr.mono (by decide)) rfl C_spot_fault.m C_spot_fault.k C_spot_fault.b .nil pass0 (pa_cons (pv 1) (pa_cons (pv 2) pa_nil))))
  (pss_cons (ps_if (pt_cmpR op_notN1 (pv 3) pe_non (nomark _)) pss_never pss_nil)
  (pss_cons (ps_fld (pv 0) (pe_call G_copied (hr.mono (by decide)) rfl C_copied.m C_copied.k C_copied.b .nil pass0 (pa_cons (pv 1) pa_nil)) rfl)
  (pss_one (ps_fld (pv 0) (pe_callTy call_tupA (by rfl) z_tuple (by decide +kernel) (pa_cons (pe_call G_copied (hr.mono (by decide)) rfl C_copied.m C_copied.k C_copied.b .nil pass0 (pa_cons (pv 2) pa_nil)) pa_nil)) rfl)))))), read_of h fun ds os QA EA hf => ?_⟩
    obtain ⟨os0, len, sp, xs, M, rfl, rfl, hsp, hfs, hl, hc, hd, hq, q⟩ := hf
    try dsimp only [cxOf, Cx.nox, Cx.wish]
    show W K _ _ _ ⟨[some (.o os0.length), some (.d (.int len)), some (.d sp), none], os0 ++ [.mi C []]⟩
    repeat (walk_at "b")
    refine ⟨_, "int", rfl, rfl, ?_⟩
    refine ⟨true, rfl, br_nT ?_⟩
    repeat (walk_at "b")
    rw [decide_eq_false (show ¬ ((len : Int) < 0) by omega)]
    repeat (walk_at "b")
    have hty : ∃ a, sp.ty = some a ∧ isLst sp = true := by
      rcases hsp with rfl | rfl
      · exact ⟨_, rfl, rfl⟩
      · exact ⟨_, rfl, rfl⟩
    obtain ⟨a, ha, hL⟩ := hty
    refine ⟨sp, a, rfl, ha, ?_⟩
    rw [hL]
    refine ⟨true, rfl, br_nT ?_⟩
    repeat (walk_at "b")
    refine ⟨len, sp, xs, M, rfl, hsp, hfs, hl, ?_⟩
    rw [hq]
    repeat (walk_at "b")
    refine bw_notN0 ⟨_, rfl, br_F ?_⟩
    repeat (walk_at "b")
    refine w_fld ?_
    repeat (walk_at "b")
    refine ⟨.int len, rfl, rfl, Nat.zero_le _, ?_⟩
    repeat (walk_at "b")
    refine ⟨_, C, [], .int len, rfl, rfl, last_at, T.i.c, T.nl, by decide, ?_⟩
    dsimp only
    rw [last_set]
    repeat (walk_at "b")
    refine w_fld ?_
    repeat (walk_at "b")
    refine ⟨sp, rfl, hc, hd, ?_⟩
    refine aw_nil ?_
    have fin2 : RetOk (List.length (os0 ++ [Ob.mi C []])) QA (.d .non) (os0 ++ [.mi C (pfs len xs)]) := by
      show QA _ ((os0 ++ [Ob.mi C (pfs len xs)]).take (os0 ++ [Ob.mi C []]).length)
      rw [List.take_of_length_le (by rw [List.length_append, List.length_append]; exact Nat.le_refl _)]
      exact q
    rcases hsp with rfl | rfl
    · refine cw_tupU ?_
      repeat (walk_at "b")
      refine ⟨_, C, [("length", .int len)], .tup xs, rfl, rfl, last_at, T.i.c, T.ns, by show 1 < 1000; decide, ?_⟩
      rw [last_set]
      exact fin2
    · refine cw_tupL ?_
      repeat (walk_at "b")
      refine ⟨_, C, [("length", .int len)], .tup xs, rfl, rfl, last_at, T.i.c, T.ns, by show 1 < 1000; decide, ?_⟩
      rw [last_set]
      exact fin2
abbrev s_Patch_eq : Stmt := inClass (topS 25) 1
abbrev N_Patch_eq : List Str := ["self", "other"]
theorem sc_Patch_eq : FnScope N_Patch_eq ["self", "other"] (defScope s_Patch_eq) := ⟨rfl, rfl, rfl, by decide +kernel, rfl, by decide +kernel, by decide +kernel⟩
theorem ok_Patch_eq {C f a1 : Addr} {fd d1 : FuncData} (F : Fun K "__eq__" "Patch.__eq__" s_Patch_eq f fd) (T : Pcl K C) (z_isinstance : mg "isinstance" = none) (Y_Patch : Ycl K mg "Patch" C a1 d1 ["self", "length", "spots"]) : FnOk P w K mg base CX0 1 f fd ["self", "other"] (spD K (fEq C)) := by
  refine F.ok sc_Patch_eq (fun vs H Q E h => ?_) (fun cdv A outer s H vs Q E hr h => ?_)
  · obtain ⟨as, os, ds, QA, EA, R, r, ⟨l1, l2, xs, ys, p, q, rfl, _⟩, _⟩ := h
    rw [r.length]
    rfl
  · have hu64 : (A.deeper (envOfC "Patch.__eq__" (defScope s_Patch_eq) s.heap.objs.size f cdv)).units + 64 < cLine := by
      have := hr.un
      omega
    refine ⟨_, (pss_one (ps_ret (pe_and (pe_callB call_isi (by rfl) z_isinstance (by decide +kernel) (pa_cons (pv 1) (pa_cons (pe_glob (v := V.ref _) (by rfl) Y_Patch.m rfl) pa_nil))) (pe_and (pe_cmpR op_eq (pe_fld (pv 0) rfl) (pe_fld (pv 1) rfl) (nomark _)) (pe_one (pe_cmpR (op_eqD hu64) (pe_fld (pv 0) rfl) (pe_fld (pv 1) rfl) (nomark _))))))), read_of h fun ds os QA EA hf => ?_⟩
    obtain ⟨l1, l2, xs, ys, p, q, rfl, hp, hq, sp, sq, qa⟩ := hf
    try dsimp only [cxOf, Cx.nox, Cx.wish]
    show W K _ _ _ ⟨[some (.d (.ob C (pfs l1 xs))), some (.d (.ob C (pfs l2 ys)))], os⟩
    refine w_ret (ew_andV (ew_isiO T.i ?_))
    repeat (walk_at "b")
    refine ew_fld ?_
    repeat (walk_at "b")
    refine ⟨C, pfs l1 xs, .int l1, rfl, T.i.c, T.nl, rfl, ?_⟩
    refine ew_fld ?_
    repeat (walk_at "b")
    refine ⟨C, pfs l2 ys, .int l2, rfl, T.i.c, T.nl, rfl, ?_⟩
    repeat (walk_at "b")
    refine br_ite (fun h1 => ?_) (fun h1 => ?_)
    · repeat (walk_at "b")
      refine ew_fld ?_
      repeat (walk_at "b")
      refine ⟨C, pfs l1 xs, .tup xs, rfl, T.i.c, T.ns, rfl, ?_⟩
      refine ew_fld ?_
      repeat (walk_at "b")
      refine ⟨C, pfs l2 ys, .tup ys, rfl, T.i.c, T.ns, rfl, ?_⟩
      refine bw_eqD hp hq sp sq (ret_same ?_)
      rw [decide_eq_true h1] at qa
      exact qa
    · rw [decide_eq_false h1] at qa
      exact ret_same qa
end

open PySem PySem.Spec PyProof.Rows L2 Br
open Pm (Spot okS fitF hasO)
def spotD (s : Spot) : D := .tup [.int s.1, rowD s.2.1, rowD s.2.2]
abbrev spotsD (ss : List Spot) : List D := ss.map spotD
/-- the first place at which the row isn't the one that is taken out -/
def mis1 (row : List Int) : Nat → List Int → Option Nat
  | _, [] => none
  | a, x :: o => if a < row.length ∧ row[a]? ≠ some x then some a else mis1 row (a + 1) o
def mis (row : List Int) : List Spot → Option Nat
  | [] => none
  | s :: g => (mis1 row s.1 s.2.1).or (mis row g)
def misD (len : Nat) (ss : List Spot) (row : List Int) : D := match mis row ss with
  | some p => .int p
  | none => if row.length = len then .non else .int (min row.length len : Nat)
def fMis (C : Addr) : FD := fun ds os QA _ => ∃ (len : Nat) (ss : List Spot) (row : List Int), ds = [.d (.ob C (pfs len (spotsD ss))), .d (rowD row)] ∧ (∀ s ∈ ss, s.1 < 2 ^ 61) ∧ QA (misD len ss row) os
/-- of a row that fits -/
def fFit0 (C : Addr) : FD := fun ds os QA _ => ∃ (len : Nat) (ss : List Spot) (row : List Int), ds = [.d (.ob C (pfs len (spotsD ss))), .d (rowD row)] ∧ len < 2 ^ 60 ∧ okS len 0 ss ∧ row.length = len ∧ mis row ss = none ∧ (fitF row 0 ss).length ≤ 90000 ∧ QA (rowD (fitF row 0 ss)) os
theorem cut_row {row : List Int} {e a : Nat} (he : e ≤ row.length) (ha : a ≤ row.length) : Br.cutD (row.map D.int) (some (e : Int)) (some (a : Int)) = ((row.drop e).take (a - e)).map D.int := by
  unfold Br.cutD
  rw [HT.sIx_nat, HT.sIx_nat, List.length_map, Nat.min_eq_left he, Nat.min_eq_left ha, List.map_take, List.map_drop]
theorem cut_row0 {row : List Int} {e : Nat} (he : e ≤ row.length) : Br.cutD (row.map D.int) (some (e : Int)) none = (row.drop e).map D.int := by
  unfold Br.cutD
  rw [HT.sIx_nat, HT.sIx_none, List.length_map, Nat.min_eq_left he, List.take_of_length_le (by rw [List.length_drop, List.length_map]; exact Nat.le_refl _), List.map_drop]
theorem cut_rowN {row : List Int} {a : Nat} (ha : a ≤ row.length) : Br.cutD (row.map D.int) none (some (a : Int)) = (row.take a).map D.int := by
  unfold Br.cutD
  rw [HT.sIx_nat, HT.sIx_none, List.length_map, Nat.min_eq_left ha, List.drop_zero, Nat.sub_zero, List.map_take]
theorem row_at {row : List Int} {p : Nat} (h : p < row.length) : L2.atI (row.map D.int) (p : Int) = some (.int row[p]) := atI_nat (by rw [List.getElem?_map, List.getElem?_eq_getElem h]; rfl)
theorem ret_push {os : Os} {x : Ob} {d : D} {QA : D → Os → Prop} (q : QA d os) : RetOk os.length QA (.d d) (os ++ [x]) := by
  show QA d ((os ++ [x]).take os.length)
  rw [List.take_left' rfl]
  exact q
theorem okS_le {len : Nat} : ∀ {ss : List Spot} {l : Nat}, okS len l ss → ∀ s ∈ ss, s.1 ≤ len
  | [], _, _, s, h => nomatch h
  | (a, o, n) :: g, l, hk, s, h => by
    obtain ⟨h1, h2, h3, h4, h5, h6⟩ := hk
    rcases List.mem_cons.mp h with rfl | z
    · show a ≤ len
      omega
    · exact okS_le h6 s z
section
variable {P : Program} {w : World} {K : PySem.W.Frag} {mg : Str → Option Value} {base : Heap}
abbrev s_misfit_place : Stmt := topS 27
abbrev N_misfit_place : List Str := ["patch", "row", "at", "old", "_", "place", "byte"]
theorem sc_misfit_place : FnScope N_misfit_place ["patch", "row"] (defScope s_misfit_place) := ⟨rfl, rfl, rfl, by decide +kernel, rfl, by decide +kernel, by decide +kernel⟩
theorem ok_misfit_place {C f : Addr} {fd : FuncData} (F : Fun K "misfit_place" "misfit_place" s_misfit_place f fd) (T : Pcl K C) (z_len : mg "len" = none) (z_min : mg "min" = none) (z_enumerate : mg "enumerate" = none) : FnOk P w K mg base CX0 1 f fd ["patch", "row"] (spD K (fMis C)) := by
  refine F.ok sc_misfit_place (fun vs H Q E h => ?_) (fun cdv A outer s H vs Q E hr h => ?_)
  · obtain ⟨as, os, ds, QA, EA, R, r, ⟨len, ss, row, rfl, _⟩, _⟩ := h
    rw [r.length]
    rfl
  · refine ⟨_, (pss_cons (ps_for PassesOwn.never rfl (pi_tup (pe_fld (pv 0) rfl)) (pg_tup (by rfl) (pgs_cons (pg_name (i := 2) sc_misfit_place.nd rfl (Or.inl rfl)) (pgs_cons (pg_name (i := 3) sc_misfit_place.nd rfl (Or.inl rfl)) (pgs_cons (pg_name (i := 4) sc_misfit_place.nd rfl (Or.inl rfl)) pgs_nil))))
    (pss_one (ps_for PassesOwn.never rfl (pi_enS (by rfl) z_enumerate (pa_cons (pv 3) pa_nil) (pk_cons (pv 2) pk_nil)) (pg_tup (by rfl) (pgs_cons (pg_name (i := 5) sc_misfit_place.nd rfl (Or.inl rfl)) (pgs_cons (pg_name (i := 6) sc_misfit_place.nd rfl (Or.inl rfl)) pgs_nil)))
      (pss_one (ps_if (PW.pt (pw_and (pt_cmpR op_lt (pv 5) (pe_callB call_lenA (by rfl) z_len PySem.boot_len (pa_cons (pv 1) pa_nil)) (nomark _)) (pw_and1 (pt_cmpR op_ne (pe_ix (r := rIxT K) ix_tup (pv 1) (pv 5) (fun _ _ => rfl)) (pv 6) (nomark _))))) (pss_one (ps_ret (pv 5))) pss_nil)))))
  (pss_one (ps_ret (pe_ifExp (pt_cmpR op_eq (pe_callB call_lenA (by rfl) z_len PySem.boot_len (pa_cons (pv 1) pa_nil)) (pe_fld (pv 0) rfl) (nomark _)) pe_non (pe_callB (call_min2A rfl) (by rfl) z_min (by decide +kernel) (pa_cons (pe_callB call_lenA (by rfl) z_len PySem.boot_len (pa_cons (pv 1) pa_nil)) (pa_cons (pe_fld (pv 0) rfl) pa_nil))))))), read_of h fun ds os QA EA hf => ?_⟩
    obtain ⟨len, ss, row, rfl, hb, q⟩ := hf
    try dsimp only [cxOf, Cx.nox, Cx.wish]
    show W K _ _ _ ⟨[some (.d (.ob C (pfs len (spotsD ss)))), some (.d (rowD row)), none, none, none, none, none], os⟩
    refine w_seq (w_for (iw_tup (ew_fld (ew_var (d := .d (.ob C (pfs len (spotsD ss)))) rfl ⟨C, _, .tup (spotsD ss), rfl, T.i.c, T.ns, rfl, _, rfl, ?_⟩))))
    refine ⟨fun i S' => ∃ o2 o3 o4 o5 o6 : Option Sv, S' = ⟨[some (.d (.ob C (pfs len (spotsD ss)))), some (.d (rowD row)), o2, o3, o4, o5, o6], os⟩ ∧ mis row ss = mis row (ss.drop i), ⟨_, _, _, _, _, rfl, rfl⟩, ?_, ?_⟩
    · rintro i d S' hd ⟨o2, o3, o4, o5, o6, rfl, hq⟩
      rw [List.getElem?_map] at hd
      obtain ⟨⟨a, o, n⟩, hs, rfl⟩ := Option.map_eq_some_iff.mp hd
      have hi : i < ss.length := (List.getElem?_eq_some_iff.mp hs).1
      have ei : ss[i] = (a, o, n) := (List.getElem?_eq_some_iff.mp hs).2
      have ha : a < 2 ^ 61 := hb (a, o, n) (List.mem_of_getElem? hs)
      rw [List.drop_eq_getElem_cons hi, ei] at hq
      have hq2 : mis row ss = (mis1 row a o).or (mis row (ss.drop (i + 1))) := hq
      refine gw_tup rfl ?_
      repeat (walk_at "b")
      refine w_for (iw_enS ?_)
      repeat (walk_at "b")
      refine ⟨⟨by omega, by omega⟩, ?_⟩
      refine ⟨fun j S' => ∃ o5 o6 : Option Sv, S' = ⟨[some (.d (.ob C (pfs len (spotsD ss)))), some (.d (rowD row)), some (.d (.int a)), some (.d (rowD o)), some (.d (rowD n)), o5, o6], os⟩ ∧ mis1 row a o = mis1 row (a + j) (o.drop j), ⟨_, _, rfl, rfl⟩, ?_, ?_⟩
      · rintro j d S' hd ⟨o5, o6, rfl, hm⟩
        obtain ⟨x, hx, rfl⟩ := enumD_get hd
        rw [List.getElem?_map] at hx
        obtain ⟨y, hy, rfl⟩ := Option.map_eq_some_iff.mp hx
        have hj : j < o.length := (List.getElem?_eq_some_iff.mp hy).1
        have ej : o[j] = y := (List.getElem?_eq_some_iff.mp hy).2
        rw [List.drop_eq_getElem_cons hj, ej, mis1] at hm
        refine gw_tup rfl ?_
        repeat (walk_at "b")
        rw [List.length_map]
        refine br_ite (fun h1 => ?_) (fun h1 => ?_)
        · repeat (walk_at "b")
          have hp : a + j < row.length := by omega
          have ep : ((a : Int) + (j : Nat)) = ((a + j : Nat) : Int) := by omega
          rw [ep]
          refine bw_ixT (row_at hp) ?_
          repeat (walk_at "b")
          refine br_iteN (fun h2 => ?_) (fun h2 => ?_)
          · repeat (walk_at "b")
            rw [if_pos ⟨hp, by rw [List.getElem?_eq_getElem hp]; exact fun z => h2 (Option.some.inj z)⟩] at hm
            have e : misD len ss row = .int ((a + j : Nat) : Int) := by
              unfold misD
              rw [hq2, hm]
              rfl
            rw [e] at q
            exact ret_same q
          · repeat (walk_at "b")
            rw [if_neg (fun z => z.2 (by rw [List.getElem?_eq_getElem hp, h2]))] at hm
            exact ⟨_, _, rfl, hm⟩
        · repeat (walk_at "b")
          rw [if_neg (fun z => h1 (by have := z.1; omega))] at hm
          exact ⟨_, _, rfl, hm⟩
      · rintro S' ⟨o5, o6, rfl, hm⟩
        rw [enumD_len, List.length_map, List.drop_length] at hm
        have e : mis1 row a o = none := by rw [hm, mis1]
        refine ⟨_, _, _, _, _, rfl, ?_⟩
        rw [hq2, e]
        rfl
    · rintro S' ⟨o2, o3, o4, o5, o6, rfl, hq⟩
      rw [List.length_map, List.drop_length] at hq
      have e : misD len ss row = if row.length = len then .non else .int (min row.length len : Nat) := by
        unfold misD
        rw [hq]
        rfl
      rw [e] at q
      repeat (walk_at "b")
      refine ew_fld ?_
      repeat (walk_at "b")
      refine ⟨C, pfs len (spotsD ss), .int len, rfl, T.i.c, T.nl, rfl, ?_⟩
      repeat (walk_at "b")
      rw [List.length_map]
      refine br_ite (fun h1 => ?_) (fun h1 => ?_)
      · rw [if_pos (by omega)] at q
        repeat (walk_at "b")
        exact ret_same q
      · rw [if_neg (by omega)] at q
        repeat (walk_at "b")
        refine ew_fld ?_
        repeat (walk_at "b")
        refine ⟨C, pfs len (spotsD ss), .int len, rfl, T.i.c, T.nl, rfl, ?_⟩
        repeat (walk_at "b")
        refine cw_min2 ?_
        have e2 : (if (len : Int) < ((row.map D.int).length : Int) then (len : Int) else ((row.map D.int).length : Int)) = ((min row.length len : Nat) : Int) := by
          rw [List.length_map]
          split <;> omega
        rw [e2]
        exact ret_same q
abbrev s_fitted : Stmt := topS 26
abbrev N_fitted : List Str := ["patch", "row", "fault", "whole", "end", "at", "old", "new"]
theorem sc_fitted : FnScope N_fitted ["patch", "row"] (defScope s_fitted) := ⟨rfl, rfl, rfl, by decide +kernel, rfl, by decide +kernel, by decide +kernel⟩
theorem ok_fitted0 {C f a1 a2 : Addr} {fd d1 d2 : FuncData} (F : Fun K "fitted" "fitted" s_fitted f fd) (T : Pcl K C) (z_len : mg "len" = none) (z_tuple : mg "tuple" = none)
    (G_misfit_place : FnOk P w K mg base CX0 1 a1 d1 ["patch", "row"] (spD K (fMis C))) (C_misfit_place : Cal K mg "misfit_place" a1 d1 ["patch", "row"])
    (G_copiedO : FnOk P w K mg base CX0 2 a2 d2 ["thing"] (spD K fCopO)) (C_copied : Cal K mg "copied" a2 d2 ["thing"]) : FnOk P w K mg base CX0 3 f fd ["patch", "row"] (spD K (fFit0 C)) := by
  refine F.ok sc_fitted (fun vs H Q E h => ?_) (fun cdv A outer s H vs Q E hr h => ?_)
  · obtain ⟨as, os, ds, QA, EA, R, r, ⟨len, ss, row, rfl, _⟩, _⟩ := h
    rw [r.length]
    rfl
  · refine ⟨_, (pss_cons (ps_set (i := 2) sc_fitted.nd rfl (Or.inl rfl) (pe_call G_misfit_place (hr.mono (by decide)) rfl C_misfit_place.m C_misfit_place.k C_misfit_place.b .nil pass0 (pa_cons (pv 0) (pa_cons (pv 1) pa_nil))))
  (pss_cons (ps_if (pt_cmpR op_notN1 (pv 2) pe_non (nomark _)) pss_never pss_nil)
  (pss_cons (ps_set (i := 3) sc_fitted.nd rfl (Or.inl rfl) (pe_lst pa_nil))
  (pss_cons (ps_set (i := 4) sc_fitted.nd rfl (Or.inl rfl) pe_int)
  (pss_cons (ps_for PassesOwn.never rfl (pi_tup (pe_fld (pv 0) rfl)) (pg_tup (by rfl) (pgs_cons (pg_name (i := 5) sc_fitted.nd rfl (Or.inl rfl)) (pgs_cons (pg_name (i := 6) sc_fitted.nd rfl (Or.inl rfl)) (pgs_cons (pg_name (i := 7) sc_fitted.nd rfl (Or.inl rfl)) pgs_nil))))
    (pss_cons (ps_expr (pe_bm PySem.F.plainAttrs_list PySem.F.slot_list_extend PySem.F.type_list_extend mt_extT (pv 3) (pa_cons (pe_slice (r := rSlA K) sl_tupA (pv 1) (po_some (pv 4)) (po_some (pv 5))) pa_nil)))
    (pss_cons (ps_expr (pe_bm PySem.F.plainAttrs_list PySem.F.slot_list_extend PySem.F.type_list_extend mt_extT (pv 3) (pa_cons (pv 7) pa_nil)))
    (pss_one (ps_set (i := 4) sc_fitted.nd rfl (Or.inl rfl) (pe_op op_add (pv 5) (pe_callB call_lenA (by rfl) z_len PySem.boot_len (pa_cons (pv 6) pa_nil))))))))
  (pss_cons (ps_expr (pe_bm PySem.F.plainAttrs_list PySem.F.slot_list_extend PySem.F.type_list_extend mt_extT (pv 3) (pa_cons (pe_slice (r := rSlA K) sl_tupA (pv 1) (po_some (pv 4)) po_none) pa_nil)))
  (pss_one (ps_ret (pe_callTy call_tupA (by rfl) z_tuple (by decide +kernel) (pa_cons (pe_call G_copiedO (hr.mono (by decide)) rfl C_copied.m C_copied.k C_copied.b .nil pass0 (pa_cons (pv 3) pa_nil)) pa_nil)))))))))), read_of h fun ds os QA EA hf => ?_⟩
    obtain ⟨len, ss, row, rfl, hb, hok, hlen, hmis, hsz, q⟩ := hf
    try dsimp only [cxOf, Cx.nox, Cx.wish]
    show W K _ _ _ ⟨[some (.d (.ob C (pfs len (spotsD ss)))), some (.d (rowD row)), none, none, none, none, none, none], os⟩
    repeat (walk_at "b")
    refine ⟨len, ss, row, rfl, fun s hs => by have := okS_le hok s hs; omega, ?_⟩
    have e0 : misD len ss row = .non := by
      unfold misD
      rw [hmis]
      exact if_pos hlen
    rw [e0]
    repeat (walk_at "b")
    refine bw_notN0 ⟨_, rfl, br_F ?_⟩
    refine w_next ?_
    refine w_seq (w_newL ?_)
    dsimp only [List.set_cons_zero, List.set_cons_succ]
    repeat (walk_at "b")
    refine w_for (iw_tup (ew_fld (ew_var (d := .d (.ob C (pfs len (spotsD ss)))) rfl ⟨C, _, .tup (spotsD ss), rfl, T.i.c, T.ns, rfl, _, rfl, ?_⟩)))
    refine ⟨fun i S' => ∃ (acc : List Int) (e l : Nat) (o5 o6 o7 : Option Sv), S' = ⟨[some (.d (.ob C (pfs len (spotsD ss)))), some (.d (rowD row)), some (.d .non), some (.o os.length), some (.d (.int e)), o5, o6, o7], os ++ [.ml (acc.map D.int)]⟩ ∧ acc ++ fitF row e (ss.drop i) = fitF row 0 ss ∧ okS len l (ss.drop i) ∧ e ≤ l ∧ e ≤ len,
      ⟨[], 0, 0, _, _, _, rfl, rfl, hok, Nat.le_refl _, Nat.zero_le _⟩, ?_, ?_⟩
    · rintro i d S' hd ⟨acc, e, l, o5, o6, o7, rfl, hq, hk, hel, hen⟩
      rw [List.getElem?_map] at hd
      obtain ⟨⟨a, o, n⟩, hs, rfl⟩ := Option.map_eq_some_iff.mp hd
      have hi : i < ss.length := (List.getElem?_eq_some_iff.mp hs).1
      have ei : ss[i] = (a, o, n) := (List.getElem?_eq_some_iff.mp hs).2
      rw [List.drop_eq_getElem_cons hi, ei] at hq hk
      obtain ⟨k1, k2, k3, k4, k5, k6⟩ := hk
      rw [fitF] at hq
      have hl1 := congrArg List.length hq
      simp only [List.length_append] at hl1
      refine gw_tup rfl ?_
      repeat (walk_at "b")
      refine w_drop (ew_ext ?_)
      repeat (walk_at "b")
      refine ⟨_, _, rfl, last_at, ?_⟩
      repeat (walk_at "b")
      refine sw_T ?_
      rw [cut_row (by omega) (by omega)]
      refine ⟨_, _, rfl, last_at, by rw [List.length_map, List.length_map, sizeLine_eq]; omega, ?_⟩
      rw [last_set, ← List.map_append]
      repeat (walk_at "b")
      refine w_drop (ew_ext ?_)
      repeat (walk_at "b")
      refine ⟨_, _, rfl, last_at, ?_⟩
      repeat (walk_at "b")
      refine ⟨_, _, rfl, last_at, by rw [List.length_map, List.length_map, List.length_append, sizeLine_eq]; omega, ?_⟩
      rw [last_set, ← List.map_append]
      repeat (walk_at "b")
      rw [List.length_map]
      refine ⟨acc ++ (row.drop e).take (a - e) ++ n, a + o.length, a + o.length + 1, _, _, _, by rw [show ((a : Int) + (o.length : Int)) = ((a + o.length : Nat) : Int) by omega], ?_, k6, by omega, by omega⟩
      rw [← hq]
      simp only [List.append_assoc]
    · rintro S' ⟨acc, e, l, o5, o6, o7, rfl, hq, hk, hel, hen⟩
      rw [List.length_map, List.drop_length, fitF] at hq
      have hl1 := congrArg List.length hq
      simp only [List.length_append] at hl1
      repeat (walk_at "b")
      refine w_drop (ew_ext ?_)
      repeat (walk_at "b")
      refine ⟨_, _, rfl, last_at, ?_⟩
      repeat (walk_at "b")
      refine sw_T ?_
      rw [cut_row0 (by omega)]
      refine ⟨_, _, rfl, last_at, by rw [List.length_map, List.length_map, sizeLine_eq]; omega, ?_⟩
      rw [last_set, ← List.map_append, hq]
      repeat (walk_at "b")
      refine ⟨_, _, rfl, last_at, by omega, ?_⟩
      repeat (walk_at "b")
      refine cw_tupL ?_
      exact ret_push q
end

open PySem PySem.Spec PyProof.Rows L2 Br
open Pm (Spot okS fitF hasO)
theorem atI_last {α : Type} {xs : List α} {z : α} : L2.atI (xs ++ [z]) (-1) = some z := by
  unfold L2.atI
  have e : L2.ixN (xs ++ [z]).length (-1) = some xs.length := by
    unfold L2.ixN
    simp
    omega
  rw [e]
  simp
theorem int_ln : ∀ (ns : List Int), D.lns (ns.map D.int) = 1923 * ns.length
  | [] => rfl
  | x :: r => by
    have e : D.lns ((x :: r).map D.int) = 1921 + 2 + D.lns (r.map D.int) := rfl
    rw [e, int_ln r, List.length_cons]
    omega
theorem spot_ln (ss : List Spot) : D.lns (spotsD ss) ≤ 1950 * Pm.wt ss := by
  induction ss with
  | nil => exact Nat.le_refl _
  | cons s g ih =>
    obtain ⟨a, o, n⟩ := s
    have e : D.lns (spotsD ((a, o, n) :: g)) = (1921 + 2 + (D.lns (o.map D.int) + 3 + 2 + (D.lns (n.map D.int) + 3 + 2 + 0)) + 3) + 2 + D.lns (spotsD g) := rfl
    rw [e, int_ln, int_ln, Pm.wt_cons]
    simp only
    omega
theorem row_fit {M : Nat} {ns : List Int} (h : ∀ x ∈ ns, 0 ≤ x ∧ x < 256) (hM : 256 ≤ M) : (rowD ns).fit M = true := by
  refine fits_all.mpr fun d hd => ?_
  obtain ⟨x, hx, rfl⟩ := List.mem_map.mp hd
  have := h x hx
  exact decide_eq_true (by omega)
theorem row_cpy {ns : List Int} (h : ns.length ≤ 100000) : (rowD ns).cpy = true := by
  show (decide ((ns.map D.int).length ≤ 100000) && D.cpys (ns.map D.int)) = true
  rw [Bool.and_eq_true]
  refine ⟨decide_eq_true (by rw [List.length_map]; exact h), cpys_all.mpr fun d hd => ?_⟩
  obtain ⟨x, hx, rfl⟩ := List.mem_map.mp hd
  rfl
theorem row_dpt {ns : List Int} : (rowD ns).dpt ≤ 1 := by
  show D.dpts (ns.map D.int) + 1 ≤ 1
  have : D.dpts (ns.map D.int) ≤ 0 := dpts_le fun d hd => by
    obtain ⟨x, hx, rfl⟩ := List.mem_map.mp hd
    exact Nat.le_refl _
  omega
theorem row_b {ns : List Int} (h : ∀ x ∈ ns, 0 ≤ x ∧ x < 256) : rowB (rowD ns) = true := by
  refine List.all_eq_true.mpr fun d hd => ?_
  obtain ⟨x, hx, rfl⟩ := List.mem_map.mp hd
  have := h x hx
  show (decide (0 ≤ x) && decide (x ≤ 255)) = true
  rw [decide_eq_true this.1, decide_eq_true (by omega)]
  rfl
theorem wt_mem {ss : List Spot} : ∀ s ∈ ss, 1 + s.2.1.length + s.2.2.length ≤ Pm.wt ss := by
  induction ss with
  | nil => intro s h; cases h
  | cons t g ih =>
    intro s h
    rw [Pm.wt_cons]
    rcases List.mem_cons.mp h with rfl | z
    · omega
    · have := ih s z
      omega
theorem wt_len {ss : List Spot} : ss.length ≤ Pm.wt ss := by
  induction ss with
  | nil => exact Nat.zero_le _
  | cons t g ih =>
    rw [Pm.wt_cons, List.length_cons]
    omega
theorem okS_all {len : Nat} : ∀ {ss : List Spot} {l : Nat}, okS len l ss → ∀ s ∈ ss, s.1 ≤ len ∧ (∀ b ∈ s.2.1, 0 ≤ b ∧ b < 256) ∧ (∀ b ∈ s.2.2, 0 ≤ b ∧ b < 256)
  | [], _, _, s, h => nomatch h
  | (a, o, n) :: g, l, hk, s, h => by
    obtain ⟨h1, h2, h3, h4, h5, h6⟩ := hk
    rcases List.mem_cons.mp h with rfl | z
    · exact ⟨by show a ≤ len; omega, h4, h5⟩
    · exact okS_all h6 s z
theorem fault_ok {len : Nat} : ∀ {ss : List Spot} {l i : Nat}, okS len l ss → faultD len l i (spotsD ss) = .non
  | [], _, _, _ => rfl
  | (a, o, n) :: g, l, i, hk => by
    obtain ⟨h1, h2, h3, h4, h5, h6⟩ := hk
    have e : spotsD ((a, o, n) :: g) = spotD (a, o, n) :: spotsD g := rfl
    have hs : spotB (spotD (a, o, n)) = true := by
      show (true && (rowB (rowD o) && (rowB (rowD n) && decide (0 < (o.map D.int).length + (n.map D.int).length)))) = true
      rw [row_b h4, row_b h5, decide_eq_true (by rw [List.length_map, List.length_map]; exact h3)]
      rfl
    have he : endD (spotD (a, o, n)) = ((a + o.length : Nat) : Int) := by
      show (a : Int) + ((o.map D.int).length : Nat) = _
      rw [List.length_map]
      omega
    rw [e, faultD, if_pos ⟨hs, by show (l : Int) ≤ (a : Int); omega, by rw [he]; omega⟩, he]
    have e2 : (((a + o.length : Nat) : Int) + 1) = ((a + o.length + 1 : Nat) : Int) := by omega
    rw [e2]
    exact fault_ok h6
theorem init_ok {ss : List Spot} {len : Nat} (hk : okS len 0 ss) (hl : len ≤ 1000) (hw : Pm.wt ss ≤ 4000) :
    D.fits (10 ^ 30) (spotsD ss) = true ∧ D.lns (spotsD ss) ≤ 9000000 ∧ (decide ((spotsD ss).length ≤ 100000) && D.cpys (spotsD ss)) = true ∧ D.dpts (spotsD ss) + 1 ≤ 3 ∧ faultD len 0 0 (spotsD ss) = .non := by
  have big : 256 ≤ 10 ^ 30 := by decide
  refine ⟨fits_all.mpr fun d hd => ?_, ?_, ?_, ?_, fault_ok hk⟩
  · obtain ⟨s, hs, rfl⟩ := List.mem_map.mp hd
    obtain ⟨h1, h2, h3⟩ := okS_all hk s hs
    show D.fits _ [.int s.1, rowD s.2.1, rowD s.2.2] = true
    refine fits_all.mpr fun d hd => ?_
    simp only [List.mem_cons, List.not_mem_nil, or_false] at hd
    rcases hd with rfl | rfl | rfl
    · exact decide_eq_true (by omega)
    · exact row_fit h2 big
    · exact row_fit h3 big
  · have := spot_ln ss
    omega
  · rw [Bool.and_eq_true]
    refine ⟨decide_eq_true (by have := wt_len (ss := ss); rw [List.length_map]; omega), cpys_all.mpr fun d hd => ?_⟩
    obtain ⟨s, hs, rfl⟩ := List.mem_map.mp hd
    have hm := wt_mem s hs
    show (decide (3 ≤ 100000) && D.cpys [.int s.1, rowD s.2.1, rowD s.2.2]) = true
    rw [Bool.and_eq_true]
    refine ⟨by decide, cpys_all.mpr fun d hd => ?_⟩
    simp only [List.mem_cons, List.not_mem_nil, or_false] at hd
    rcases hd with rfl | rfl | rfl
    · rfl
    · exact row_cpy (by omega)
    · exact row_cpy (by omega)
  · have : D.dpts (spotsD ss) ≤ 2 := dpts_le fun d hd => by
      obtain ⟨s, hs, rfl⟩ := List.mem_map.mp hd
      show D.dpts [.int s.1, rowD s.2.1, rowD s.2.2] + 1 ≤ 2
      have : D.dpts [.int s.1, rowD s.2.1, rowD s.2.2] ≤ 1 := dpts_le fun d hd => by
        simp only [List.mem_cons, List.not_mem_nil, or_false] at hd
        rcases hd with rfl | rfl | rfl
        · exact Nat.zero_le _
        · exact row_dpt
        · exact row_dpt
      omega
    omega
theorem cut_one {row : List Int} {i : Nat} (h : i < row.length) : Br.cutD (row.map D.int) (some (i : Int)) (some ((i : Int) + 1)) = [D.int row[i]] := by
  have e : ((i : Int) + 1) = ((i + 1 : Nat) : Int) := by omega
  rw [e, cut_row (by omega) (by omega), List.drop_eq_getElem_cons h, show i + 1 - i = 1 by omega]
  rfl
theorem spotsD_app {w : List Spot} {t : Spot} : spotsD (w ++ [t]) = spotsD w ++ [spotD t] := by
  unfold spotsD
  rw [List.map_append]
  rfl
theorem cut_from {row : List Int} {e : Nat} : Br.cutD (row.map D.int) (some (e : Int)) none = (row.drop e).map D.int := by
  unfold Br.cutD
  rw [HT.sIx_nat, HT.sIx_none, List.length_map]
  by_cases h : e ≤ row.length
  · rw [Nat.min_eq_left h, List.take_of_length_le (by rw [List.length_drop, List.length_map]; exact Nat.le_refl _), List.map_drop]
  · rw [Nat.min_eq_right (by omega), Nat.sub_self, List.take_zero, List.drop_of_length_le (by omega)]
    rfl
theorem cut_to {row : List Int} {a : Nat} : Br.cutD (row.map D.int) none (some (a : Int)) = (row.take a).map D.int := by
  unfold Br.cutD
  rw [HT.sIx_nat, HT.sIx_none, List.length_map, List.drop_zero, Nat.sub_zero]
  by_cases h : a ≤ row.length
  · rw [Nat.min_eq_left h, List.map_take]
  · rw [Nat.min_eq_right (by omega), List.take_of_length_le (by rw [List.length_map]; exact Nat.le_refl _), List.take_of_length_le (by omega)]
theorem cut_seg {row : List Int} {e a : Nat} (he : e ≤ row.length) (ha : e ≤ a) : Br.cutD (row.map D.int) (some (e : Int)) (some (a : Int)) = ((row.drop e).take (a - e)).map D.int := by
  by_cases h : a ≤ row.length
  · exact cut_row he h
  · unfold Br.cutD
    rw [HT.sIx_nat, HT.sIx_nat, List.length_map, Nat.min_eq_left he, Nat.min_eq_right (by omega), List.map_take, List.map_drop, List.take_of_length_le (by rw [List.length_drop, List.length_map]; exact Nat.le_refl _), List.take_of_length_le (by rw [List.length_drop, List.length_map]; omega)]
theorem isR_app {a b : List Int} (h : isR a) (g : isR b) : isR (a ++ b) := fun x hx => (List.mem_append.mp hx).elim (h x) (g x)
theorem isR_take {a : List Int} (h : isR a) (n : Nat) : isR (a.take n) := fun x hx => h x (List.mem_of_mem_take hx)
theorem isR_drop {a : List Int} (h : isR a) (n : Nat) : isR (a.drop n) := fun x hx => h x (List.mem_of_mem_drop hx)
theorem Pn.pushL {k : Nat} {cells : List Int} {b : Int} {o os : Os} (xs : Os) (h : Pn k cells b o os) : Pn k cells b (o ++ xs) (os ++ xs) := by
  obtain ⟨n, l, e, hk, hn, hl⟩ := h
  exact ⟨n, l, by rw [e, List.set_append_left _ _ hk], by rw [List.length_append]; omega, hn, hl⟩
theorem Pn.popL {k : Nat} {cells : List Int} {b : Int} {o os2 xs : Os} (hk : k < o.length) (h : Pn k cells b (o ++ xs) os2) : ∃ os3, os2 = os3 ++ xs ∧ Pn k cells b o os3 := by
  obtain ⟨n, l, e, _, hn, hl⟩ := h
  exact ⟨o.set k _, by rw [e, List.set_append_left _ _ hk], n, l, rfl, hk, hn, hl⟩
theorem w_mid {K : PySem.W.Frag} {X : Xc} {S : Sa} {E : Ea} {t : TS} (Mid : Sa → Prop) (h1 : W K X t { E with nx := Mid } S) (h2 : ∀ S', Mid S' → E.nx S') : W K X t E S :=
  w_mono h1 h2 (fun _ _ z => z) (fun _ z => z) fun _ z => z
theorem okS_in {len : Nat} : ∀ {ss : List Spot} {l : Nat}, okS len l ss → ∀ s ∈ ss, s.1 + s.2.1.length ≤ len
  | [], _, _, s, h => nomatch h
  | (a, o, n) :: g, l, hk, s, h => by
    obtain ⟨h1, h2, h3, h4, h5, h6⟩ := hk
    rcases List.mem_cons.mp h with rfl | z
    · exact h2
    · exact okS_in h6 s z
theorem okS_mono {len : Nat} : ∀ {g : List Spot} {l l' : Nat}, l ≤ l' → okS len l' g → okS len l g
  | [], _, _, _, _ => True.intro
  | (a, o, n) :: g, l, l', h, hk => by
    obtain ⟨h1, h2, h3, h4, h5, h6⟩ := hk
    exact ⟨by omega, h2, h3, h4, h5, h6⟩
theorem wt_snoc {w : List Spot} {t : Spot} : Pm.wt (w ++ [t]) = Pm.wt w + (1 + t.2.1.length + t.2.2.length) := by
  simp [Pm.wt]

open PySem PySem.Spec PyProof.Rows L2 Br
open Pm (Spot okS fitF hasO)
def fSpots : FD := fun ds os QA _ => ∃ (k : Nat) (row : List Int) (cells : List Int) (b : Int) (o : Os), ds = [.o k, .d (rowD row)] ∧ Pn k cells b o os ∧ isR row ∧ row.length ≤ 300 ∧ b < 2 ^ 36 ∧
  ∀ ss os', okS row.length 0 ss → (∀ s ∈ ss, hasO row s) → ss.length ≤ 12 → (∀ s ∈ ss, s.2.2.length ≤ 3) → Pn k cells (b + 200000) o os' → QA (.tup (spotsD ss)) os'
section
variable {P : Program} {w : World} {K : PySem.W.Frag} {mg : Str → Option Value} {base : Heap}
abbrev s_l_spots : Stmt := topS 36
abbrev N_l_spots : List Str := ["_law_feed_here", "_law_line", "_law_some", "_law_at", "_law_old", "_law_new"]
theorem sc_l_spots : FnScope N_l_spots ["_law_feed_here", "_law_line"] (defScope s_l_spots) := ⟨rfl, rfl, rfl, by decide +kernel, rfl, by decide +kernel, by decide +kernel⟩
theorem ok_l_spots {f a1 a2 : Addr} {fd d1 d2 : FuncData} (F : Fun K "_law_spots" "_law_spots" s_l_spots f fd) (z_len : mg "len" = none) (z_tuple : mg "tuple" = none)
    (G_l_draw : FnOk P w K mg base CX0 1 a1 d1 ["_law_feed_here", "_law_many"] (spD K fDraw)) (C_l_draw : Cal K mg "_law_draw" a1 d1 ["_law_feed_here", "_law_many"])
    (G_l_bytes : FnOk P w K mg base CX0 3 a2 d2 ["_law_feed_here", "_law_most"] (spD K fBytes)) (C_l_bytes : Cal K mg "_law_bytes" a2 d2 ["_law_feed_here", "_law_most"]) : FnOk P w K mg base CX0 4 f fd ["_law_feed_here", "_law_line"] (spD K fSpots) := by
  refine F.ok sc_l_spots (fun vs H Q E h => ?_) (fun cdv A outer s H vs Q E hr h => ?_)
  · obtain ⟨as, os, ds, QA, EA, R, r, ⟨k, row, cells, b, o, rfl, _⟩, _⟩ := h
    rw [r.length]
    rfl
  · have hu64 : (A.deeper (envOfC "_law_spots" (defScope s_l_spots) s.heap.objs.size f cdv)).units + 64 < cLine := by
      have := hr.un
      omega
    refine ⟨_, (pss_cons (ps_par (i := 2) (j := 3) (by rfl) sc_l_spots.nd rfl rfl (by decide) rfl rfl (pa_cons (pe_lst pa_nil) (pa_cons (pe_call G_l_draw (hr.mono (by decide)) rfl C_l_draw.m C_l_draw.k C_l_draw.b .nil pass0 (pa_cons (pv 0) (pa_cons pe_int pa_nil))) pa_nil)) (by rfl))
  (pss_cons (ps_while PassesOwn.never (PW.pt (pw_and (pt_cmpR op_le (pv 3) (pe_callB call_lenA (by rfl) z_len PySem.boot_len (pa_cons (pv 1) pa_nil)) (nomark _)) (pw_and1 (pt_cmpR op_lt (pe_callB call_lenA (by rfl) z_len PySem.boot_len (pa_cons (pv 2) pa_nil)) pe_int (nomark _)))))
    (pss_cons (ps_set (i := 4) sc_l_spots.nd rfl (Or.inl rfl) (pe_slice (r := rSlA K) sl_tupA (pv 1) (po_some (pv 3)) (po_some (pe_op op_add (pv 3) (pe_call G_l_draw (hr.mono (by decide)) rfl C_l_draw.m C_l_draw.k C_l_draw.b .nil pass0 (pa_cons (pv 0) (pa_cons pe_int pa_nil)))))))
    (pss_cons (ps_set (i := 5) sc_l_spots.nd rfl (Or.inl rfl) (pe_ix (r := rIxL K) ix_list (pe_lst (pa_cons (pv 4) (pa_cons (pe_tup pa_nil) (pa_cons (pe_call G_l_bytes (hr.mono (by decide)) rfl C_l_bytes.m C_l_bytes.k C_l_bytes.b .nil pass0 (pa_cons (pv 0) (pa_cons pe_int pa_nil))) (pa_cons (pe_call G_l_bytes (hr.mono (by decide)) rfl C_l_bytes.m C_l_bytes.k C_l_bytes.b .nil pass0 (pa_cons (pv 0) (pa_cons pe_int pa_nil))) pa_nil))))) (pe_call G_l_draw (hr.mono (by decide)) rfl C_l_draw.m C_l_draw.k C_l_draw.b .nil pass0 (pa_cons (pv 0) (pa_cons pe_int pa_nil))) (fun _ _ => rfl)))
    (pss_cons (ps_if (PW.pt (pw_or (pt_cmpR (op_neNilT hu64) (pv 4) (pe_tup pa_nil) (nomark _)) (pw_or1 (pt_cmpR (op_neNilT hu64) (pv 5) (pe_tup pa_nil) (nomark _))))) (pss_one (ps_expr (pe_bm PySem.F.plainAttrs_list PySem.F.slot_list_append PySem.F.type_list_append mt_append (pv 2) (pa_cons (pe_tup (pa_cons (pv 3) (pa_cons (pv 4) (pa_cons (pv 5) pa_nil)))) pa_nil)))) pss_nil)
    (pss_one (ps_set (i := 3) sc_l_spots.nd rfl (Or.inl rfl) (pe_op op_add (pe_op op_add (pe_op op_add (pv 3) (pe_callB call_lenA (by rfl) z_len PySem.boot_len (pa_cons (pv 4) pa_nil))) pe_int) (pe_call G_l_draw (hr.mono (by decide)) rfl C_l_draw.m C_l_draw.k C_l_draw.b .nil pass0 (pa_cons (pv 0) (pa_cons pe_int pa_nil))))))))))
  (pss_one (ps_ret (pe_callTy call_tupA (by rfl) z_tuple (by decide +kernel) (pa_cons (pv 2) pa_nil)))))), read_of h fun ds os QA EA hf => ?_⟩
    obtain ⟨k, row, cells, b, o, rfl, ho, hrow, hlen, hb, q⟩ := hf
    have hk : k < o.length := let ⟨_, _, _, h, _⟩ := ho; h
    try dsimp only [cxOf, Cx.nox, Cx.wish]
    show W K _ _ _ ⟨[some (.o k), some (.d (rowD row)), none, none, none, none], os⟩
    refine w_seq (w_parL ?_)
    repeat (walk_at "b")
    refine ⟨k, 4, cells, b, o ++ [.ml []], rfl, ho.push _, by omega, by omega, fun p0 os1 d0 d1 ho1 => ?_⟩
    obtain ⟨os1, rfl, hp1⟩ := ho1.pop hk
    obtain ⟨p0, rfl⟩ := Int.eq_ofNat_of_zero_le d0
    rw [show List.length os = List.length os1 by rw [ho.len, hp1.len]]
    repeat (walk_at "b")
    refine w_while (fun m S' => ∃ (acc : List Spot) (p : Nat) (o4 o5 : Option Sv) (os2 : Os), S' = ⟨[some (.o k), some (.d (rowD row)), some (.o os1.length), some (.d (.int (p : Int))), o4, o5], os2 ++ [.ml (spotsD acc)]⟩ ∧ m = row.length + 1 - p ∧
      (∀ g, okS row.length p g → okS row.length 0 (acc ++ g)) ∧ (∀ s ∈ acc, hasO row s) ∧ Pm.wt acc ≤ 7 * p ∧ acc.length ≤ p ∧ p ≤ row.length + 12 ∧ Pn k cells (b + 1 + 610 * p) o os2 ∧ acc.length ≤ 12 ∧ ∀ s ∈ acc, s.2.2.length ≤ 3) _
      ⟨[], p0, _, _, os1, rfl, rfl, fun g hg => okS_mono (Nat.zero_le _) hg, fun s hs => (nomatch hs), Nat.zero_le _, Nat.zero_le _, by omega, hp1.mono (by omega), Nat.zero_le _, fun s hs => (nomatch hs)⟩ ?_
    rintro m S' ⟨acc, p, o4, o5, os2, rfl, rfl, hok, has, hwt, hal, hp, ho2, hc12, hs3⟩
    have hl2 : List.length os1 = List.length os2 := by rw [hp1.len, ho2.len]
    repeat (walk_at "b")
    rw [List.length_map]
    refine br_ite (fun hpl => ?_) (fun hpl => ?_)
    · have hpl : p ≤ row.length := by omega
      repeat (walk_at "b")
      refine cw_lenO (by rw [hl2]; exact last_at) ?_
      repeat (walk_at "b")
      refine br_ite (fun h12 => ?_) (fun h12 => ?_)
      rotate_left
      · have hz := hok [] True.intro
        rw [List.append_nil] at hz
        have hfin : Pn k cells (b + 200000) o os2 := ho2.mono (by omega)
        repeat (walk_at "b")
        rw [hl2]
        refine cw_tupO last_at ?_
        exact ret_push (q acc os2 hz has hc12 hs3 hfin)
      repeat (walk_at "b")
      refine ⟨k, 4, cells, b + 1 + 610 * p, o ++ [.ml (spotsD acc)], rfl, ho2.push _, by omega, by omega, fun d os3 d0 d1 ho3 => ?_⟩
      obtain ⟨os3, rfl, hp3⟩ := ho3.pop hk
      obtain ⟨d, rfl⟩ := Int.eq_ofNat_of_zero_le d0
      repeat (walk_at "b")
      refine sw_T ?_
      rw [show ((p : Int) + (d : Int)) = ((p + d : Nat) : Int) by omega, cut_seg hpl (by omega), show p + d - p = d by omega]
      have hold : isR ((row.drop p).take d) ∧ ((row.drop p).take d).length ≤ 3 ∧ p + ((row.drop p).take d).length ≤ row.length ∧ ∀ j, j < ((row.drop p).take d).length → row[p + j]? = ((row.drop p).take d)[j]? := by
        refine ⟨isR_take (isR_drop hrow _) _, by rw [List.length_take]; omega, by rw [List.length_take, List.length_drop]; omega, fun j hj => ?_⟩
        rw [List.length_take, List.length_drop] at hj
        rw [List.getElem?_take_of_lt (by omega), List.getElem?_drop]
      revert hold
      generalize (row.drop p).take d = old
      rintro ⟨hold1, hold2, hold3, hold4⟩
      repeat (walk_at "b")
      refine ⟨k, 3, cells, b + 1 + 610 * p + 1, o ++ [.ml (spotsD acc)], rfl, hp3.push _, by omega, by omega, fun n1 os4 hn1 hn1l ho4 => ?_⟩
      obtain ⟨os4, rfl, hp4⟩ := ho4.pop hk
      repeat (walk_at "b")
      refine ⟨k, 3, cells, b + 1 + 610 * p + 1 + 300, o ++ [.ml (spotsD acc)], rfl, hp4.push _, by omega, by omega, fun n2 os5 hn2 hn2l ho5 => ?_⟩
      obtain ⟨os5, rfl, hp5⟩ := ho5.pop hk
      repeat (walk_at "b")
      refine ⟨k, 4, cells, b + 1 + 610 * p + 1 + 300 + 300, o ++ [.ml (spotsD acc)], rfl, hp5.push _, by omega, by omega, fun e os6 e0 e1 ho6 => ?_⟩
      obtain ⟨os6, rfl, hp6⟩ := ho6.pop hk
      have hl6 : List.length os1 = List.length os6 := by rw [hp1.len, hp6.len]
      obtain ⟨x, hx, hm⟩ := at_mem (xs := [D.tup (old.map D.int), .tup [], .tup (n1.map D.int), .tup (n2.map D.int)]) e0 e1
      refine bw_ixL hx ?_
      obtain ⟨new, rfl, hnew, hnewl⟩ : ∃ new : List Int, x = rowD new ∧ isR new ∧ new.length ≤ 3 := by
        simp only [List.mem_cons, List.not_mem_nil, or_false] at hm
        rcases hm with rfl | rfl | rfl | rfl
        · exact ⟨old, rfl, hold1, hold2⟩
        · exact ⟨[], rfl, fun b hb => (nomatch hb), Nat.zero_le _⟩
        · exact ⟨n1, rfl, hn1, hn1l⟩
        · exact ⟨n2, rfl, hn2, hn2l⟩
      repeat (walk_at "b")
      refine br_iteB (fun f1 => ?_) (fun f1 => ?_)
      · have pos : 0 < old.length + new.length := by
          cases old with
          | nil => cases f1
          | cons x r => rw [List.length_cons]; omega
        repeat (walk_at "b")
        refine w_drop (ew_app ?_)
        repeat (walk_at "b")
        refine ⟨_, _, rfl, by rw [hl6]; exact last_at, ?_⟩
        repeat (walk_at "b")
        refine ⟨_, _, rfl, by rw [hl6]; exact last_at, by rw [List.length_map, sizeLine_eq]; omega, ?_⟩
        rw [hl6, last_set, ← hl6]
        have e3 : spotsD acc ++ [D.tup [.int (p : Int), .tup (old.map D.int), .tup (new.map D.int)]] = spotsD (acc ++ [(p, old, new)]) := by
          rw [spotsD_app]
          rfl
        rw [e3]
        have hok2 : ∀ g, okS row.length (p + old.length + 1) g → okS row.length 0 (acc ++ [(p, old, new)] ++ g) := fun g hg => by
          rw [List.append_assoc]
          exact hok ((p, old, new) :: g) ⟨Nat.le_refl _, hold3, pos, hold1, hnew, hg⟩
        have has2 : ∀ s ∈ acc ++ [(p, old, new)], hasO row s := fun s hs => by
          rcases List.mem_append.mp hs with z | z
          · exact has s z
          · rw [List.mem_singleton.mp z]
            exact hold4
        have hwt2 : Pm.wt (acc ++ [(p, old, new)]) ≤ 7 * (p + 1) := by
          rw [wt_snoc]
          simp only
          omega
        have hal2 : (acc ++ [(p, old, new)]).length ≤ p + 1 := by
          rw [List.length_append, List.length_singleton]
          omega
        have hc2 : (acc ++ [(p, old, new)]).length ≤ 12 := by
          rw [List.length_append, List.length_singleton]
          rw [List.length_map] at h12
          omega
        have hs2 : ∀ s ∈ acc ++ [(p, old, new)], s.2.2.length ≤ 3 := fun s hs => by
          rcases List.mem_append.mp hs with z | z
          · exact hs3 s z
          · rw [List.mem_singleton.mp z]
            exact hnewl
        repeat (walk_at "b")
        rw [List.length_map]
        refine ⟨k, 6, cells, b + 1 + 610 * p + 1 + 300 + 300 + 1, o ++ [.ml (spotsD (acc ++ [(p, old, new)]))], rfl, hp6.push _, by omega, by omega, fun g os7 g0 g1 ho7 => ?_⟩
        obtain ⟨os7, rfl, hp7⟩ := ho7.pop hk
        obtain ⟨g, rfl⟩ := Int.eq_ofNat_of_zero_le g0
        repeat (walk_at "b")
        exact ⟨row.length + 1 - (p + old.length + 1 + g), by omega, acc ++ [(p, old, new)], p + old.length + 1 + g, some (.d (rowD old)), some (.d (rowD new)), os7, by rw [show ((p : Int) + (old.length : Int) + 1 + (g : Int)) = ((p + old.length + 1 + g : Nat) : Int) by omega], rfl, fun gg hg => hok2 gg (okS_mono (by omega) hg), has2, by omega, by omega, by omega, hp7.mono (by omega), hc2, hs2⟩
      · repeat (walk_at "b")
        have o0 : old = [] := by
          cases old with
          | nil => rfl
          | cons x r => cases f1
        refine br_iteB (fun f2 => ?_) (fun f2 => ?_)
        · have pos : 0 < old.length + new.length := by
            cases new with
            | nil => cases f2
            | cons x r => rw [List.length_cons]; omega
          repeat (walk_at "b")
          refine w_drop (ew_app ?_)
          repeat (walk_at "b")
          refine ⟨_, _, rfl, by rw [hl6]; exact last_at, ?_⟩
          repeat (walk_at "b")
          refine ⟨_, _, rfl, by rw [hl6]; exact last_at, by rw [List.length_map, sizeLine_eq]; omega, ?_⟩
          rw [hl6, last_set, ← hl6]
          have e3 : spotsD acc ++ [D.tup [.int (p : Int), .tup (old.map D.int), .tup (new.map D.int)]] = spotsD (acc ++ [(p, old, new)]) := by
            rw [spotsD_app]
            rfl
          rw [e3]
          have hok2 : ∀ g, okS row.length (p + old.length + 1) g → okS row.length 0 (acc ++ [(p, old, new)] ++ g) := fun g hg => by
            rw [List.append_assoc]
            exact hok ((p, old, new) :: g) ⟨Nat.le_refl _, hold3, pos, hold1, hnew, hg⟩
          have has2 : ∀ s ∈ acc ++ [(p, old, new)], hasO row s := fun s hs => by
            rcases List.mem_append.mp hs with z | z
            · exact has s z
            · rw [List.mem_singleton.mp z]
              exact hold4
          have hwt2 : Pm.wt (acc ++ [(p, old, new)]) ≤ 7 * (p + 1) := by
            rw [wt_snoc]
            simp only
            omega
          have hal2 : (acc ++ [(p, old, new)]).length ≤ p + 1 := by
            rw [List.length_append, List.length_singleton]
            omega
          have hc2 : (acc ++ [(p, old, new)]).length ≤ 12 := by
            rw [List.length_append, List.length_singleton]
            rw [List.length_map] at h12
            omega
          have hs2 : ∀ s ∈ acc ++ [(p, old, new)], s.2.2.length ≤ 3 := fun s hs => by
            rcases List.mem_append.mp hs with z | z
            · exact hs3 s z
            · rw [List.mem_singleton.mp z]
              exact hnewl
          repeat (walk_at "b")
          rw [List.length_map]
          refine ⟨k, 6, cells, b + 1 + 610 * p + 1 + 300 + 300 + 1, o ++ [.ml (spotsD (acc ++ [(p, old, new)]))], rfl, hp6.push _, by omega, by omega, fun g os7 g0 g1 ho7 => ?_⟩
          obtain ⟨os7, rfl, hp7⟩ := ho7.pop hk
          obtain ⟨g, rfl⟩ := Int.eq_ofNat_of_zero_le g0
          repeat (walk_at "b")
          exact ⟨row.length + 1 - (p + old.length + 1 + g), by omega, acc ++ [(p, old, new)], p + old.length + 1 + g, some (.d (rowD old)), some (.d (rowD new)), os7, by rw [show ((p : Int) + (old.length : Int) + 1 + (g : Int)) = ((p + old.length + 1 + g : Nat) : Int) by omega], rfl, fun gg hg => hok2 gg (okS_mono (by omega) hg), has2, by omega, by omega, by omega, hp7.mono (by omega), hc2, hs2⟩
        · repeat (walk_at "b")
          have hok2 : ∀ g, okS row.length (p + old.length + 1) g → okS row.length 0 (acc ++ g) := fun g hg => hok g (okS_mono (by omega) hg)
          have has2 := has
          have hwt2 : Pm.wt acc ≤ 7 * (p + 1) := by omega
          have hal2 : acc.length ≤ p + 1 := by omega
          have hc2 := hc12
          have hs2 := hs3
          rw [List.length_map]
          refine ⟨k, 6, cells, b + 1 + 610 * p + 1 + 300 + 300 + 1, o ++ [.ml (spotsD (acc))], rfl, hp6.push _, by omega, by omega, fun g os7 g0 g1 ho7 => ?_⟩
          obtain ⟨os7, rfl, hp7⟩ := ho7.pop hk
          obtain ⟨g, rfl⟩ := Int.eq_ofNat_of_zero_le g0
          repeat (walk_at "b")
          exact ⟨row.length + 1 - (p + old.length + 1 + g), by omega, acc, p + old.length + 1 + g, some (.d (rowD old)), some (.d (rowD new)), os7, by rw [show ((p : Int) + (old.length : Int) + 1 + (g : Int)) = ((p + old.length + 1 + g : Nat) : Int) by omega], rfl, fun gg hg => hok2 gg (okS_mono (by omega) hg), has2, by omega, by omega, by omega, hp7.mono (by omega), hc2, hs2⟩
    · have hz := hok [] True.intro
      rw [List.append_nil] at hz
      have hfin : Pn k cells (b + 200000) o os2 := ho2.mono (by omega)
      repeat (walk_at "b")
      rw [hl2]
      refine cw_tupO last_at ?_
      exact ret_push (q acc os2 hz has hc12 hs3 hfin)
end

open PySem PySem.Spec PyProof.Rows L2 Br
open Pm (Spot okS fitF hasO en gr leK stepT spP)
theorem pys_map {ε : Type} {f : ε → D} {g : ε → PyData} (h : ∀ e, (f e).py = some (g e)) : ∀ l : List ε, D.pys (l.map f) = some (l.map g)
  | [] => rfl
  | e :: l => by
    show ((f e).py.bind fun p => (D.pys (l.map f)).map fun ps => p :: ps) = _
    rw [h e, pys_map h l]
    rfl
theorem row_py (ns : List Int) : (rowD ns).py = some (.tuple (ns.map .int)) := by
  show (D.pys (ns.map D.int)).map PyData.tuple = _
  rw [pys_map (g := PyData.int) (fun e => rfl)]
  rfl
theorem spot_py (s : Spot) : (spotD s).py = some (spP s) := by
  show (D.pys [.int s.1, rowD s.2.1, rowD s.2.2]).map PyData.tuple = _
  show ((some (PyData.int s.1)).bind fun p => (((rowD s.2.1).py.bind fun p => (((rowD s.2.2).py.bind fun p => (some []).map fun ps => p :: ps)).map fun ps => p :: ps)).map fun ps => p :: ps).map PyData.tuple = _
  rw [row_py, row_py]
  rfl
theorem spots_py (ss : List Spot) : (D.tup (spotsD ss)).py = some (.tuple (ss.map spP)) := by
  show (D.pys (ss.map spotD)).map PyData.tuple = _
  rw [pys_map spot_py]
  rfl
def fGrow : FD := fun ds os QA _ => ∃ (ss : List Spot) (x : D), ds = [.d x] ∧ (x = .tup (spotsD ss) ∨ x = .lst (spotsD ss)) ∧ ss.length ≤ 100000 ∧ QA (.int (gr ss)) os
def fGrowT : FD := fun ds os QA _ => ∃ (ss : List Spot), ds = [.d (.tup (spotsD ss))] ∧ ss.length ≤ 100000 ∧ QA (.int (gr ss)) os
def fGrowL : FD := fun ds os QA _ => ∃ (ss : List Spot), ds = [.d (.lst (spotsD ss))] ∧ ss.length ≤ 100000 ∧ QA (.int (gr ss)) os
def isAt (v : V) : Prop := ∃ i : Int, v = .int i
/-- a class of exceptions with its own __init__, over RuntimeError -/
structure Xre (K : PySem.W.Frag) (mg : Str → Option Value) (x : Str) (C f : Addr) (fd : FuncData) (ps : List Str) : Prop where
  T : OeB K C reMro "RuntimeError.__new__"
  iC : PySem.W.findIn K (.ref C) "__init__" = some (some (.ref f))
  tI : PySem.W.typeIn K (.ref f) = some (.type "function")
  b : Binds K fd ps []
  m : mg x = some (.ref C)
/-- what is asked of a kept exception's class -/
structure Kre (K : PySem.W.Frag) (C : Addr) : Prop where
  T : XfC K C
  E : ExcC K C
  cl : (PySem.W.clsIn K C).isSome = true
  at_ : PySem.W.findIn K (.ref C) "at" = some none
  xm : PySem.W.exmOne K (.ref C) (.ref C) = some true
  ve : PySem.W.kitOne K (.ref C) (.type "RuntimeError") = some true
theorem bw_notNI {K : PySem.W.Frag} {os : Os} {Q : Sv → Os → Prop} {i : Int} (q : Q (.d (.bl true)) os) : BW K rNotN (.d (.int i)) (.d .non) os Q :=
  bw_pure (fun as H v u Q' R rx ry k => by
    cases rx
    cases ry
    exact ⟨rfl, k _ (.bl true)⟩) q
theorem raise_at {K : PySem.W.Frag} {E : XK} {EA : Xa} {os : Os} {Sl : Sl} {En : Ea} {C : Addr} {i : Int} {te : TE}
    (h : EW K { wx := fun cls d (x : L2.St) H => E cls d H, xe := fun C fds S => EA C fds (S.os.take os.length) } te ⟨Sl, os⟩ fun x os' => x = .d (.int i) ∧ os' = os) (q : EA C [("at", .int i)] os) :
    W K { wx := fun cls d (x : L2.St) H => E cls d H, xe := fun C fds S => EA C fds (S.os.take os.length) } (fun x σ H => tMkO C (spI1 C "at" isAt) [] (tCons te tNil) σ H fun cls d H' => E cls d H') En ⟨Sl, os⟩ := by
  refine w_raise1 (Wx := fun cls d x H => E cls d H) rfl (aw_cons (ew_mono h ?_))
  rintro x os' ⟨rfl, rfl⟩
  refine aw_nil ⟨_, _, rfl, rfl, ⟨i, rfl⟩, ?_⟩
  show EA C _ (os'.take os'.length)
  rw [List.take_length]
  exact q
theorem init_okB {ss : List Spot} {len : Nat} (hk : okS len 0 ss) (hl : len ≤ 100000) (hw : Pm.wt ss ≤ 4000) :
    D.fits (10 ^ 30) (spotsD ss) = true ∧ D.lns (spotsD ss) ≤ 9000000 ∧ (decide ((spotsD ss).length ≤ 100000) && D.cpys (spotsD ss)) = true ∧ D.dpts (spotsD ss) + 1 ≤ 3 ∧ faultD len 0 0 (spotsD ss) = .non := by
  have big : 256 ≤ 10 ^ 30 := by decide
  refine ⟨fits_all.mpr fun d hd => ?_, ?_, ?_, ?_, fault_ok hk⟩
  · obtain ⟨s, hs, rfl⟩ := List.mem_map.mp hd
    obtain ⟨h1, h2, h3⟩ := okS_all hk s hs
    show D.fits _ [.int s.1, rowD s.2.1, rowD s.2.2] = true
    refine fits_all.mpr fun d hd => ?_
    simp only [List.mem_cons, List.not_mem_nil, or_false] at hd
    rcases hd with rfl | rfl | rfl
    · exact decide_eq_true (by omega)
    · exact row_fit h2 big
    · exact row_fit h3 big
  · have := spot_ln ss
    omega
  · rw [Bool.and_eq_true]
    refine ⟨decide_eq_true (by have := wt_len (ss := ss); rw [List.length_map]; omega), cpys_all.mpr fun d hd => ?_⟩
    obtain ⟨s, hs, rfl⟩ := List.mem_map.mp hd
    have hm := wt_mem s hs
    show (decide (3 ≤ 100000) && D.cpys [.int s.1, rowD s.2.1, rowD s.2.2]) = true
    rw [Bool.and_eq_true]
    refine ⟨by decide, cpys_all.mpr fun d hd => ?_⟩
    simp only [List.mem_cons, List.not_mem_nil, or_false] at hd
    rcases hd with rfl | rfl | rfl
    · rfl
    · exact row_cpy (by omega)
    · exact row_cpy (by omega)
  · have : D.dpts (spotsD ss) ≤ 2 := dpts_le fun d hd => by
      obtain ⟨s, hs, rfl⟩ := List.mem_map.mp hd
      show D.dpts [.int s.1, rowD s.2.1, rowD s.2.2] + 1 ≤ 2
      have : D.dpts [.int s.1, rowD s.2.1, rowD s.2.2] ≤ 1 := dpts_le fun d hd => by
        simp only [List.mem_cons, List.not_mem_nil, or_false] at hd
        rcases hd with rfl | rfl | rfl
        · exact Nat.zero_le _
        · exact row_dpt
        · exact row_dpt
      omega
    omega
/-- a patch as data -/
def patO (C : Addr) (len : Nat) (A : List Spot) : D := .ob C (pfs len (spotsD A))
/-- what is asked of two patches -/
structure Two (l1 l2 : Nat) (A B : List Spot) : Prop where
  a : okS l1 0 A
  b : okS l2 0 B
  la : l1 ≤ 500
  lb : l2 ≤ 500
  wa : Pm.wt A ≤ 1000
  wb : Pm.wt B ≤ 1000
def fLenB (C : Addr) : FD := fun ds os QA _ => ∃ (l : Nat) (A : List Spot), ds = [.d (patO C l A)] ∧ A.length ≤ 100000 ∧ QA (.int ((l : Int) + gr A)) os
section
variable {P : Program} {w : World} {K : PySem.W.Frag} {mg : Str → Option Value} {base : Heap}
theorem fn_or {k : Nat} {f : Addr} {fd : FuncData} {ps : List Str} {sp sp1 sp2 : Sp} (m : ∀ vs H Q E, sp vs H Q E → sp1 vs H Q E ∨ sp2 vs H Q E) (F1 : FnOk P w K mg base CX0 k f fd ps sp1) (F2 : FnOk P w K mg base CX0 k f fd ps sp2) : FnOk P w K mg base CX0 k f fd ps sp :=
  ⟨fun vs H Q E h => (m vs H Q E h).elim (F1.len vs H Q E) (F2.len vs H Q E), fun A outer s H args us vs Q E hr e0 hb r h => (m vs H Q E h).elim (fun h1 => F1.run A outer s H args us vs Q E hr e0 hb r h1) (fun h2 => F2.run A outer s H args us vs Q E hr e0 hb r h2)⟩
theorem spD_or {f f1 f2 : FD} (h : ∀ ds os QA EA, f ds os QA EA → f1 ds os QA EA ∨ f2 ds os QA EA) : ∀ vs H Q E, spD K f vs H Q E → spD K f1 vs H Q E ∨ spD K f2 vs H Q E := by
  rintro vs H Q E ⟨as, os, ds, QA, EA, R, r, hf, k⟩
  rcases h ds os QA EA hf with z | z
  · exact .inl ⟨as, os, ds, QA, EA, R, r, z, k⟩
  · exact .inr ⟨as, os, ds, QA, EA, R, r, z, k⟩
abbrev s_growth_of : Stmt := topS 19
abbrev N_growth_of : List Str := ["spots", "_", "old", "new"]
theorem sc_growth_of : FnScope N_growth_of ["spots"] (defScope s_growth_of) := ⟨rfl, rfl, rfl, by decide +kernel, rfl, by decide +kernel, by decide +kernel⟩
theorem ok_growth_ofT {f : Addr} {fd : FuncData} (F : Fun K "growth_of" "growth_of" s_growth_of f fd) (z_len : mg "len" = none) (z_sum : mg "sum" = none) : FnOk P w K mg base CX0 1 f fd ["spots"] (spD K fGrowT) := by
  refine F.ok sc_growth_of (fun vs H Q E h => ?_) (fun cdv A outer s H vs Q E hr h => ?_)
  · obtain ⟨as, os, ds, QA, EA, R, r, ⟨ss, rfl, _⟩, _⟩ := h
    rw [r.length]
    rfl
  · refine ⟨_, (pss_one (ps_ret (pe_callB (cr_sum rfl) (by rfl) z_sum (by decide +kernel) (pa_cons (pe_lc (own := [("_", 1), ("old", 2), ("new", 3)]) (g := (gTup _ 3 (gCons (gName 1) (gCons (gName 2) (gCons (gName 3) gNil))))) rfl sc_growth_of.nd (pi_tup (pv 0)) (blkOk_by (own := [("_", 1), ("old", 2), ("new", 3)]) (N := N_growth_of) (sc := defScope s_growth_of) (by decide +kernel)) (fun _ _ _ _ _ => (pg_tup (by rfl) (pgs_cons (pg_name (i := 1) sc_growth_of.nd rfl (Or.inl rfl)) (pgs_cons (pg_name (i := 2) sc_growth_of.nd rfl (Or.inl rfl)) (pgs_cons (pg_name (i := 3) sc_growth_of.nd rfl (Or.inl rfl)) pgs_nil))))) (fun _ _ _ _ _ => pts_nil) (fun _ _ _ _ _ => (pe_op op_sub (pe_callB (r := Br.rLen K) call_lenA (by rfl) z_len PySem.boot_len (pa_cons (pv 3) pa_nil)) (pe_callB (r := Br.rLen K) call_lenA (by rfl) z_len PySem.boot_len (pa_cons (pv 2) pa_nil))))) pa_nil)))), read_of h fun ds os QA EA hf => ?_⟩
    obtain ⟨ss, rfl, hlen, q⟩ := hf
    try dsimp only [cxOf, Cx.nox, Cx.wish]
    show W K _ _ _ ⟨[some (.d (.tup (spotsD ss))), none, none, none], os⟩
    repeat (walk_at "b")
    refine ew_lc (wg_tup (wgs_cons mg_name (mgs_cons mg_name (mgs_cons mg_name mgs_nil)) (wg_name (by decide)) (wgs_cons mg_name (mgs_cons mg_name mgs_nil) (wg_name (by decide)) (wgs_cons mg_name mgs_nil (wg_name (by decide)) wgs_nil)))) (mg_tup (mgs_cons mg_name (mgs_cons mg_name (mgs_cons mg_name mgs_nil)))) ?_
    refine iw_tup ?_
    repeat (walk_at "b")
    refine ⟨fun i acc os2 => os2 = os ∧ acc = ((ss.take i).map fun u => (u.2.2.length : Int) - u.2.1.length).map D.int, ⟨rfl, rfl⟩, ?_, ?_⟩
    · rintro i d acc os2 hd ⟨rfl, rfl⟩
      rw [List.getElem?_map] at hd
      obtain ⟨⟨a, o, n⟩, hs, rfl⟩ := Option.map_eq_some_iff.mp hd
      have hi : i < ss.length := (List.getElem?_eq_some_iff.mp hs).1
      have ei : ss[i] = (a, o, n) := (List.getElem?_eq_some_iff.mp hs).2
      refine gw_tup rfl ?_
      repeat (walk_at "b")
      refine tw_yes (br_T ?_)
      repeat (walk_at "b")
      refine ⟨_, _, rfl, rfl, by rw [List.length_map, List.length_map, List.length_take, sizeLine_eq]; omega, rfl, ?_⟩
      rw [← List.take_append_getElem hi, List.map_append, List.map_append, ei, List.length_map, List.length_map]
      rfl
    · rintro acc os2 ⟨rfl, rfl⟩
      rw [List.length_map, List.take_length]
      refine aw_nil (cw_sum (ret_same ?_))
      exact q
theorem ok_growth_ofL {f : Addr} {fd : FuncData} (F : Fun K "growth_of" "growth_of" s_growth_of f fd) (z_len : mg "len" = none) (z_sum : mg "sum" = none) : FnOk P w K mg base CX0 1 f fd ["spots"] (spD K fGrowL) := by
  refine F.ok sc_growth_of (fun vs H Q E h => ?_) (fun cdv A outer s H vs Q E hr h => ?_)
  · obtain ⟨as, os, ds, QA, EA, R, r, ⟨ss, rfl, _⟩, _⟩ := h
    rw [r.length]
    rfl
  · refine ⟨_, (pss_one (ps_ret (pe_callB (cr_sum rfl) (by rfl) z_sum (by decide +kernel) (pa_cons (pe_lc (own := [("_", 1), ("old", 2), ("new", 3)]) (g := (gTup _ 3 (gCons (gName 1) (gCons (gName 2) (gCons (gName 3) gNil))))) rfl sc_growth_of.nd (pi_list (pv 0)) (blkOk_by (own := [("_", 1), ("old", 2), ("new", 3)]) (N := N_growth_of) (sc := defScope s_growth_of) (by decide +kernel)) (fun _ _ _ _ _ => (pg_tup (by rfl) (pgs_cons (pg_name (i := 1) sc_growth_of.nd rfl (Or.inl rfl)) (pgs_cons (pg_name (i := 2) sc_growth_of.nd rfl (Or.inl rfl)) (pgs_cons (pg_name (i := 3) sc_growth_of.nd rfl (Or.inl rfl)) pgs_nil))))) (fun _ _ _ _ _ => pts_nil) (fun _ _ _ _ _ => (pe_op op_sub (pe_callB (r := Br.rLen K) call_lenA (by rfl) z_len PySem.boot_len (pa_cons (pv 3) pa_nil)) (pe_callB (r := Br.rLen K) call_lenA (by rfl) z_len PySem.boot_len (pa_cons (pv 2) pa_nil))))) pa_nil)))), read_of h fun ds os QA EA hf => ?_⟩
    obtain ⟨ss, rfl, hlen, q⟩ := hf
    try dsimp only [cxOf, Cx.nox, Cx.wish]
    show W K _ _ _ ⟨[some (.d (.lst (spotsD ss))), none, none, none], os⟩
    repeat (walk_at "b")
    refine ew_lc (wg_tup (wgs_cons mg_name (mgs_cons mg_name (mgs_cons mg_name mgs_nil)) (wg_name (by decide)) (wgs_cons mg_name (mgs_cons mg_name mgs_nil) (wg_name (by decide)) (wgs_cons mg_name mgs_nil (wg_name (by decide)) wgs_nil)))) (mg_tup (mgs_cons mg_name (mgs_cons mg_name (mgs_cons mg_name mgs_nil)))) ?_
    refine iw_list ?_
    repeat (walk_at "b")
    refine ⟨fun i acc os2 => os2 = os ∧ acc = ((ss.take i).map fun u => (u.2.2.length : Int) - u.2.1.length).map D.int, ⟨rfl, rfl⟩, ?_, ?_⟩
    · rintro i d acc os2 hd ⟨rfl, rfl⟩
      rw [List.getElem?_map] at hd
      obtain ⟨⟨a, o, n⟩, hs, rfl⟩ := Option.map_eq_some_iff.mp hd
      have hi : i < ss.length := (List.getElem?_eq_some_iff.mp hs).1
      have ei : ss[i] = (a, o, n) := (List.getElem?_eq_some_iff.mp hs).2
      refine gw_tup rfl ?_
      repeat (walk_at "b")
      refine tw_yes (br_T ?_)
      repeat (walk_at "b")
      refine ⟨_, _, rfl, rfl, by rw [List.length_map, List.length_map, List.length_take, sizeLine_eq]; omega, rfl, ?_⟩
      rw [← List.take_append_getElem hi, List.map_append, List.map_append, ei, List.length_map, List.length_map]
      rfl
    · rintro acc os2 ⟨rfl, rfl⟩
      rw [List.length_map, List.take_length]
      refine aw_nil (cw_sum (ret_same ?_))
      exact q
theorem ok_growth_of {f : Addr} {fd : FuncData} (F : Fun K "growth_of" "growth_of" s_growth_of f fd) (z_len : mg "len" = none) (z_sum : mg "sum" = none) : FnOk P w K mg base CX0 1 f fd ["spots"] (spD K fGrow) := by
  refine fn_or (spD_or fun ds os QA EA hf => ?_) (ok_growth_ofT F z_len z_sum) (ok_growth_ofL F z_len z_sum)
  obtain ⟨ss, x, rfl, hx, h⟩ := hf
  rcases hx with rfl | rfl
  · exact .inl ⟨ss, rfl, h⟩
  · exact .inr ⟨ss, rfl, h⟩
abbrev s_Misfit_init : Stmt := inClass (topS 12) 0
abbrev N_Misfit_init : List Str := ["self", "at"]
theorem sc_Misfit_init : FnScope N_Misfit_init ["self", "at"] (defScope s_Misfit_init) := ⟨rfl, rfl, rfl, by decide +kernel, rfl, by decide +kernel, by decide +kernel⟩
theorem ok_Misfit_init {C f a1 : Addr} {fd d1 : FuncData} (F : Fun K "__init__" "Misfit.__init__" s_Misfit_init f fd) (T : OeB K C reMro "RuntimeError.__new__") (nA : NoAttr K C "at") (z_RuntimeError : mg "RuntimeError" = none) (vV : PySem.W.findCls K (.type "RuntimeError") (.type "type") "__init__" = some (.val (.builtin "RuntimeError.__init__")))
    (G_copied : FnOk P w K mg base CX0 1 a1 d1 ["thing"] (spD K (fCop 0))) (C_copied : Cal K mg "copied" a1 d1 ["thing"]) : FnOk P w K mg base CX0 2 f fd ["self", "at"] (spI1 C "at" isAt) := by
  refine F.ok sc_Misfit_init (fun vs H Q E h => ?_) (fun cdv A outer s H vs Q E hr h => ?_)
  · obtain ⟨a, v, rfl, _⟩ := h
    rfl
  · obtain ⟨a, v, rfl, ⟨i, rfl⟩, ha, k⟩ := h
    refine ⟨_, pss_cons (ps_expr (pe_reinit (by rfl) z_RuntimeError vV (pa_cons (pv 0) (pa_cons pe_str pa_nil))))
      (pss_one (ps_reF (pv 0) (pe_call G_copied (hr.mono (by decide)) rfl C_copied.m C_copied.k C_copied.b .nil pass0 (pa_cons (pv 1) pa_nil)))), ?_⟩
    refine ⟨_, rfl, a, C, _, rfl, Nat.le_of_ble_eq_true rfl, T, ha, ?_⟩
    refine ⟨_, rfl, [], [], [.d (.int i)], fun d os' => d = .int i, fun _ _ _ => False, ⟨List.nodup_nil, rfl, fun k a ob h _ => by cases h⟩, .cons (Dx.int i) .nil, ⟨.int i, rfl, rfl, Nat.zero_le _, rfl⟩, ?_, fun _ _ _ _ _ _ _ _ _ _ _ z => z.elim⟩
    intro v H' d os' g R r e
    subst e
    cases r
    refine ⟨_, rfl, a, C, rfl, T, nA, g _ _ ha (by intro z; cases z), fun dx hdx hne => ?_⟩
    refine k dx _ ?_ hne upd_same (by rw [upd_ne hne]; exact upd_same) fun b o e hb => ?_
    · cases eh : H dx with
      | none => rfl
      | some o =>
        rw [g dx o eh (by intro z; cases z)] at hdx
        cases hdx
    · rw [upd_ne hb, upd_ne (ne_of_none (g b o e (by intro z; cases z)) hdx)]
      exact g b o e (by intro z; cases z)
abbrev s_length_behind : Stmt := topS 28
abbrev N_length_behind : List Str := ["patch"]
theorem sc_length_behind : FnScope N_length_behind ["patch"] (defScope s_length_behind) := ⟨rfl, rfl, rfl, by decide +kernel, rfl, by decide +kernel, by decide +kernel⟩
theorem ok_length_behind {C f a1 : Addr} {fd d1 : FuncData} (F : Fun K "length_behind" "length_behind" s_length_behind f fd) (T : Pcl K C)
    (G_growth_of : FnOk P w K mg base CX0 1 a1 d1 ["spots"] (spD K fGrow)) (C_growth_of : Cal K mg "growth_of" a1 d1 ["spots"]) : FnOk P w K mg base CX0 2 f fd ["patch"] (spD K (fLenB C)) := by
  refine F.ok sc_length_behind (fun vs H Q E h => ?_) (fun cdv A outer s H vs Q E hr h => ?_)
  · obtain ⟨as, os, ds, QA, EA, R, r, ⟨l, A, rfl, _⟩, _⟩ := h
    rw [r.length]
    rfl
  · refine ⟨_, (pss_one (ps_ret (pe_op op_add (pe_fld (pv 0) rfl) (pe_call G_growth_of (hr.mono (by decide)) rfl C_growth_of.m C_growth_of.k C_growth_of.b .nil pass0 (pa_cons (pe_fld (pv 0) rfl) pa_nil))))), read_of h fun ds os QA EA hf => ?_⟩
    obtain ⟨l, A, rfl, hl, q⟩ := hf
    try dsimp only [cxOf, Cx.nox, Cx.wish]
    show W K _ _ _ ⟨[some (.d (.ob C (pfs l (spotsD A))))], os⟩
    repeat (walk_at "b")
    refine ew_fld ?_
    repeat (walk_at "b")
    refine ⟨C, pfs l (spotsD A), .int l, rfl, T.i.c, T.nl, rfl, ?_⟩
    repeat (walk_at "b")
    refine ew_fld ?_
    repeat (walk_at "b")
    refine ⟨C, pfs l (spotsD A), .tup (spotsD A), rfl, T.i.c, T.ns, rfl, ?_⟩
    repeat (walk_at "b")
    refine ⟨A, _, rfl, .inl rfl, hl, ?_⟩
    repeat (walk_at "b")
    exact ret_same q
end

open PySem PySem.Spec PyProof.Rows L2 Br
open Pm (Spot okS fitF hasO en gr leK stepT spP lkA T1 T2 bp cam pin goe wan walkO walk leQ stepQ ends spansF pairT grW spotO unl spansOf big)
def camD (T : T1) : List (Key × D) := T.map fun e => (.inl (e.1 : Int), .tup [.int (e.2.1 : Int), rowD e.2.2])
def numD (U : T2) : List (Key × D) := U.map fun e => (.inl (e.1 : Int), .int e.2)
theorem key_ne {a b : Nat} (h : a ≠ b) : (Sum.inl (a : Int) : Key) ≠ Sum.inl (b : Int) := fun e => h (by cases e; rfl)
theorem look_map {α : Type} {g : α → D} {p : Nat} : ∀ {T : List (Nat × α)}, lookD (T.map fun e => ((.inl (e.1 : Int) : Key), g e.2)) (.inl (p : Int)) = (lkA T p).map g
  | [] => rfl
  | e :: T => by
    have ih := look_map (g := g) (p := p) (T := T)
    unfold lookD lkA at *
    rw [List.map_cons, List.find?_cons, List.find?_cons]
    by_cases h : e.1 = p
    · rw [decide_eq_true h]
      have h2 : (Sum.inl (e.1 : Int) : Key) = Sum.inl (p : Int) := by rw [h]
      rw [decide_eq_true h2]
      rfl
    · rw [decide_eq_false h, decide_eq_false (key_ne h)]
      exact ih
theorem look_cam {T : T1} {p : Nat} : lookD (camD T) (.inl (p : Int)) = (lkA T p).map fun e => .tup [.int (e.1 : Int), rowD e.2] := look_map (g := fun e : Nat × List Int => D.tup [.int (e.1 : Int), rowD e.2])
theorem look_num {U : T2} {p : Nat} : lookD (numD U) (.inl (p : Int)) = (lkA U p).map D.int := look_map (g := D.int)
theorem put_new {kvs : List (Key × D)} {k : Key} {v : D} (h : ∀ e ∈ kvs, e.1 ≠ k) : putD kvs k v = kvs ++ [(k, v)] := by
  unfold putD
  rw [if_neg]
  simp only [List.any_eq_true, decide_eq_true_eq, not_exists, not_and]
  exact h
theorem putC_new {T : T1} {p : Nat} {x : Nat × List Int} (h : ∀ e ∈ T, e.1 ≠ p) : putD (camD T) (.inl (p : Int)) (.tup [.int (x.1 : Int), rowD x.2]) = camD (T ++ [(p, x)]) := by
  rw [put_new]
  · unfold camD
    rw [List.map_append]
    rfl
  · intro e he
    obtain ⟨t, ht, rfl⟩ := List.mem_map.mp he
    exact key_ne (h t ht)
theorem putN_new {U : T2} {p : Nat} {x : Int} (h : ∀ e ∈ U, e.1 ≠ p) : putD (numD U) (.inl (p : Int)) (.int x) = numD (U ++ [(p, x)]) := by
  rw [put_new]
  · unfold numD
    rw [List.map_append]
    rfl
  · intro e he
    obtain ⟨t, ht, rfl⟩ := List.mem_map.mp he
    exact key_ne (h t ht)
theorem merge_new : ∀ {V U : T2}, (U ++ V).Pairwise (fun a b => a.1 ≠ b.1) → mergeD (numD U) (numD V) = numD (U ++ V)
  | [], U, _ => by simp [mergeD, numD]
  | v :: V, U, h => by
    have e : mergeD (numD U) (numD (v :: V)) = mergeD (putD (numD U) (.inl (v.1 : Int)) (.int v.2)) (numD V) := rfl
    have hd := (List.pairwise_append.mp h).2.2
    rw [e, putN_new (fun x hx => hd x hx v List.mem_cons_self), merge_new (by rw [List.append_assoc]; exact h), List.append_assoc]
    rfl
/-- the row between, as a thing of the store -/
def rbFs (p1 p2 p3 p4 : Addr) : List (Str × Addr) := [("came", p1), ("put_in", p2), ("goes", p3), ("wanted", p4)]
structure Btw (C : Addr) (os : Os) (j : Nat) (A B : List Spot) (p1 p2 p3 p4 : Addr) (k1 k2 k3 k4 : Nat) : Prop where
  i : os[j]? = some (.mr C (rbFs p1 p2 p3 p4))
  c : os[k1]? = some (.mp p1 (camD (cam 0 A)))
  u : os[k2]? = some (.mp p2 (numD (pin 0 A)))
  g : os[k3]? = some (.mp p3 (camD (goe B)))
  w : os[k4]? = some (.mp p4 (numD (wan B)))
  n : k1 ≠ k2 ∧ k1 ≠ k3 ∧ k1 ≠ k4 ∧ k2 ≠ k3 ∧ k2 ≠ k4 ∧ k3 ≠ k4 ∧ j ≠ k1 ∧ j ≠ k2 ∧ j ≠ k3 ∧ j ≠ k4
/-- the class of the row between -/
structure Rcl (K : PySem.W.Frag) (C : Addr) : Prop where
  c : Cls K C
  n1 : NoAttr K C "came"
  n2 : NoAttr K C "put_in"
  n3 : NoAttr K C "goes"
  n4 : NoAttr K C "wanted"
structure Mth (K : PySem.W.Frag) (C : Addr) (m : Str) (f : Addr) (fd : FuncData) (ps : List Str) : Prop where
  c : Cls K C
  m : Meth K C m f
  b : Binds K fd ps []
def fByP : FD := fun ds os QA _ => ∃ (b : Nat) (r : List Int), ds = [.d (.int (b : Int)), .d (rowD r)] ∧ r.length ≤ 100000 ∧ QA (.dk (numD (bp b r))) os
def fWalk : FD := fun ds os QA _ => ∃ (b e : Nat) (T : T1) (U : T2) (x y : Sv) (R : List Int), ds = [.d (.int (b : Int)), .d (.int (e : Int)), x, y] ∧ dctS x os = some (camD T) ∧ dctS y os = some (numD U) ∧ (∀ t ∈ T, t.1 ≤ t.2.1) ∧ walk T U b e = some R ∧ R.length ≤ 100000 ∧ QA (rowD R) os
def numO : Option Nat → D
  | none => .non
  | some n => .int n
def fUnl (C : Addr) : FD := fun ds os QA _ => ∃ (j : Nat) (A B : List Spot) (p1 p2 p3 p4 : Addr) (k1 k2 k3 k4 : Nat), ds = [.o j] ∧ Btw C os j A B p1 p2 p3 p4 k1 k2 k3 k4 ∧ (pin 0 A).length ≤ 100000 ∧ ((pin 0 A).map (·.1)).Nodup ∧
  (unl A B = [] → QA .non os) ∧ (∀ m ∈ unl A B, (∀ y ∈ unl A B, m ≤ y) → QA (.int (m : Int)) os)
def pairD (p : Nat × Nat) : D := .tup [.int (p.1 : Int), .int (p.2 : Int)]
def fEnds (C : Addr) : FD := fun ds os QA _ => ∃ (j : Nat) (A B : List Spot) (p1 p2 p3 p4 : Addr) (k1 k2 k3 k4 : Nat), ds = [.o j] ∧ Btw C os j A B p1 p2 p3 p4 k1 k2 k3 k4 ∧ A.length ≤ 10000 ∧ B.length ≤ 10000 ∧
  ((cam 0 A).map (·.1)).Nodup ∧ ((goe B).map (·.1)).Nodup ∧ QA (.lst ((ends (cam 0 A) ++ ends (goe B)).map pairD)) os
def fSpans (C : Addr) : FD := fun ds os QA _ => ∃ (j : Nat) (A B : List Spot) (p1 p2 p3 p4 : Addr) (k1 k2 k3 k4 : Nat), ds = [.o j] ∧ Btw C os j A B p1 p2 p3 p4 k1 k2 k3 k4 ∧ A.length ≤ 10000 ∧ B.length ≤ 10000 ∧
  ((cam 0 A).map (·.1)).Nodup ∧ ((goe B).map (·.1)).Nodup ∧ QA (.lst ((spansOf A B).map pairD)) os
def fSpot (C : Addr) : FD := fun ds os QA _ => ∃ (j b e : Nat) (A B : List Spot) (p1 p2 p3 p4 : Addr) (k1 k2 k3 k4 : Nat) (z : Int × List Int × List Int), ds = [.o j, .d (.int (b : Int)), .d (.int (e : Int))] ∧ Btw C os j A B p1 p2 p3 p4 k1 k2 k3 k4 ∧ A.length ≤ 100000 ∧
  (∀ t ∈ cam 0 A, t.1 ≤ t.2.1) ∧ (∀ t ∈ goe B, t.1 ≤ t.2.1) ∧ spotO A B (b, e) = some z ∧ z.2.1.length ≤ 100000 ∧ z.2.2.length ≤ 100000 ∧ QA (.tup [.int z.1, rowD z.2.1, rowD z.2.2]) os
theorem dct_app {x : Sv} {os l : Os} {kds : List (Key × D)} (h : dctS x os = some kds) : dctS x (os ++ l) = some kds := by
  cases x with
  | d z => cases z <;> first | exact h | cases h
  | o k =>
    have e1 : (os[k]?.bind Ob.dct) = some kds := h
    obtain ⟨ob, e2, e3⟩ := Option.bind_eq_some_iff.mp e1
    show ((os ++ l)[k]?.bind Ob.dct) = _
    rw [List.getElem?_append_left (List.getElem?_eq_some_iff.mp e2).1, e2]
    exact e3
  | fn a b => cases h
theorem lkA_mem {α : Type} {e : Nat × α} : ∀ {T : List (Nat × α)}, (T.map (·.1)).Nodup → e ∈ T → lkA T e.1 = some e.2
  | [], _, h => nomatch h
  | t :: T, hn, h => by
    rw [List.map_cons, List.nodup_cons] at hn
    unfold lkA
    rw [List.find?_cons]
    rcases List.mem_cons.mp h with rfl | h
    · rw [decide_eq_true rfl]
      rfl
    · have hne : ¬ t.1 = e.1 := fun z => hn.1 (List.mem_map.mpr ⟨e, h, z.symm⟩)
      rw [decide_eq_false hne]
      exact lkA_mem hn.2 h
theorem set_other {os : Os} {i k : Nat} {x y : Ob} (h : os[i]? = some y) (hne : k ≠ i) : (os.set k x)[i]? = some y := by
  rw [List.getElem?_set_ne hne]
  exact h
theorem app_at {os l : Os} {i : Nat} {y : Ob} (h : os[i]? = some y) : (os ++ l)[i]? = some y := by
  rw [List.getElem?_append_left (List.getElem?_eq_some_iff.mp h).1]
  exact h
theorem set_back {os : Os} {k : Nat} {x y : Ob} (h : os[k]? = some y) : (os.set k x).set k y = os := by
  rw [List.set_set]
  refine List.ext_getElem? fun i => ?_
  by_cases e : k = i
  · subst e
    rw [List.getElem?_set_self (List.getElem?_eq_some_iff.mp h).1, h]
  · rw [List.getElem?_set_ne e]
theorem getD_int {o : Option Int} {x : Int} : (o.map D.int).getD (.int x) = .int (o.getD x) := by
  cases o <;> rfl
theorem dct_at {os : Os} {k : Nat} {ob : Ob} {kds : List (Key × D)} (h : os[k]? = some ob) (e : ob.dct = some kds) : dctS (.o k) os = some kds := by
  show os[k]?.bind Ob.dct = _
  rw [h]
  exact e
theorem cam_len : ∀ {A : List Spot} {s : Int}, (cam s A).length = A.length
  | [], _ => rfl
  | (a, o, n) :: A, s => by
    simp only [cam, List.length_cons]
    rw [cam_len]
section
variable {P : Program} {w : World} {K : PySem.W.Frag} {mg : Str → Option Value} {base : Heap}
abbrev s_by_place : Stmt := topS 22
abbrev N_by_place : List Str := ["begin", "row", "number", "byte"]
theorem sc_by_place : FnScope N_by_place ["begin", "row"] (defScope s_by_place) := ⟨rfl, rfl, rfl, by decide +kernel, rfl, by decide +kernel, by decide +kernel⟩
theorem ok_by_place {f : Addr} {fd : FuncData} (F : Fun K "by_place" "by_place" s_by_place f fd) (z_enumerate : mg "enumerate" = none) : FnOk P w K mg base CX0 1 f fd ["begin", "row"] (spD K fByP) := by
  refine F.ok sc_by_place (fun vs H Q E h => ?_) (fun cdv A outer s H vs Q E hr h => ?_)
  · obtain ⟨as, os, ds, QA, EA, R, r, ⟨b, rw_, rfl, _⟩, _⟩ := h
    rw [r.length]
    rfl
  · refine ⟨_, (pss_one (ps_ret (pe_dc (own := [("number", 2), ("byte", 3)]) (g := (gTup _ 2 (gCons (gName 2) (gCons (gName 3) gNil)))) rfl sc_by_place.nd (pi_enA (by rfl) z_enumerate (pa_cons (pv 1) pa_nil)) (blkOk_by (own := [("number", 2), ("byte", 3)]) (N := N_by_place) (sc := defScope s_by_place) (by decide +kernel)) (fun _ _ _ _ _ => (pg_tup (by rfl) (pgs_cons (pg_name (i := 2) sc_by_place.nd rfl (Or.inl rfl)) (pgs_cons (pg_name (i := 3) sc_by_place.nd rfl (Or.inl rfl)) pgs_nil)))) (fun _ _ _ _ _ => pts_nil) (fun _ _ _ _ _ => (pe_op op_add (pv 0) (pv 2))) (fun _ _ _ _ _ => (pv 3))))), read_of h fun ds os QA EA hf => ?_⟩
    obtain ⟨b, row, rfl, hlen, q⟩ := hf
    try dsimp only [cxOf, Cx.nox, Cx.wish]
    show W K _ _ _ ⟨[some (.d (.int (b : Int))), some (.d (rowD row)), none, none], os⟩
    repeat (walk_at "b")
    refine ew_dc (wg_tup (wgs_cons mg_name (mgs_cons mg_name mgs_nil) (wg_name (by decide)) (wgs_cons mg_name mgs_nil (wg_name (by decide)) wgs_nil))) (mg_tup (mgs_cons mg_name (mgs_cons mg_name mgs_nil))) ?_
    refine iw_en ?_
    repeat (walk_at "b")
    refine ⟨row.map D.int, .inl rfl, fun i acc os2 => os2 = os ∧ acc = numD (bp b (row.take i)), ⟨rfl, rfl⟩, ?_, ?_⟩
    · rintro i d acc os2 hd ⟨rfl, rfl⟩
      obtain ⟨x, hx, rfl⟩ := enumD_get hd
      rw [List.getElem?_map] at hx
      obtain ⟨y, hy, rfl⟩ := Option.map_eq_some_iff.mp hx
      have hi : i < row.length := (List.getElem?_eq_some_iff.mp hy).1
      have ei : row[i] = y := (List.getElem?_eq_some_iff.mp hy).2
      refine gw_tup rfl ?_
      repeat (walk_at "b")
      refine tw_yes (br_T ?_)
      repeat (walk_at "b")
      refine ⟨.inl ((b + i : Nat) : Int), .int y, os2, by show Sv.d (.int _) = Sv.d (.int _); congr 2; omega, rfl, rfl, ?_, rfl, ?_⟩
      · unfold numD
        rw [List.length_map, Pm.bp_len, List.length_take, sizeLine_eq]
        omega
      · rw [← List.take_append_getElem hi, Pm.bp_snoc, ei, List.length_take, Nat.min_eq_left (Nat.le_of_lt hi)]
        refine putN_new fun e he => ?_
        have := Pm.bp_mem e he
        rw [List.length_take] at this
        omega
    · rintro acc os2 ⟨rfl, rfl⟩
      rw [enumD_len, List.length_map, List.take_length]
      exact ret_same q
abbrev s_row_walked : Stmt := topS 23
abbrev N_row_walked : List Str := ["begin", "end", "spots", "known", "row", "at", "told"]
theorem sc_row_walked : FnScope N_row_walked ["begin", "end", "spots", "known"] (defScope s_row_walked) := ⟨rfl, rfl, rfl, by decide +kernel, rfl, by decide +kernel, by decide +kernel⟩
theorem ok_row_walked {f : Addr} {fd : FuncData} (F : Fun K "row_walked" "row_walked" s_row_walked f fd) (z_tuple : mg "tuple" = none) : FnOk P w K mg base CX0 1 f fd ["begin", "end", "spots", "known"] (spD K fWalk) := by
  refine F.ok sc_row_walked (fun vs H Q E h => ?_) (fun cdv A outer s H vs Q E hr h => ?_)
  · obtain ⟨as, os, ds, QA, EA, R, r, ⟨b, e, T, U, x, y, R2, rfl, _⟩, _⟩ := h
    rw [r.length]
    rfl
  · have hu : (A.deeper (envOfC "row_walked" (defScope s_row_walked) s.heap.objs.size f cdv)).units + 1 < cLine := by
      have := hr.un
      omega
    refine ⟨_, (pss_cons (ps_set (i := 4) sc_row_walked.nd rfl (Or.inl rfl) (pe_lst pa_nil))
  (pss_cons (ps_set (i := 5) sc_row_walked.nd rfl (Or.inl rfl) (pv 0))
  (pss_cons (ps_while PassesOwn.never (pt_cmpR op_le (pv 5) (pv 1) (nomark _))
    (pss_cons (ps_if (pt_cmp (pc_din hu (pv 5) (pv 2))) (pss_cons (ps_asg (pe_dget hu (pv 2) (pv 5) (fun _ _ => rfl)) (pg_tup (by rfl) (pgs_cons (pg_name (i := 5) sc_row_walked.nd rfl (Or.inl rfl)) (pgs_cons (pg_name (i := 6) sc_row_walked.nd rfl (Or.inl rfl)) pgs_nil))))
      (pss_one (ps_expr (pe_bm PySem.F.plainAttrs_list PySem.F.slot_list_extend PySem.F.type_list_extend mt_extT (pv 4) (pa_cons (pv 6) pa_nil))))) pss_nil)
    (pss_cons (ps_if (pt_cmpR op_lt (pv 5) (pv 1) (nomark _)) (pss_one (ps_expr (pe_bm PySem.F.plainAttrs_list PySem.F.slot_list_append PySem.F.type_list_append mt_append (pv 4) (pa_cons (pe_dget hu (pv 3) (pv 5) (fun _ _ => rfl)) pa_nil)))) pss_nil)
    (pss_one (ps_aug (i := 5) sc_row_walked.nd rfl (Or.inl rfl) pe_int ip_add)))))
  (pss_one (ps_ret (pe_callTy call_tupA (by rfl) z_tuple (by decide +kernel) (pa_cons (pv 4) pa_nil))))))), read_of h fun ds os QA EA hf => ?_⟩
    obtain ⟨b, e, T, U, x, y, R, rfl, ex, ey, hT, hw, hl, q⟩ := hf
    try dsimp only [cxOf, Cx.nox, Cx.wish]
    show W K _ _ _ ⟨[some (.d (.int (b : Int))), some (.d (.int (e : Int))), some x, some y, none, none, none], os⟩
    have ex2 : ∀ {l : List D}, dctS x (os ++ [.ml l]) = some (camD T) := dct_app ex
    have ey2 : ∀ {l : List D}, dctS y (os ++ [.ml l]) = some (numD U) := dct_app ey
    refine w_seq (w_newL ?_)
    dsimp only [List.set_cons_zero, List.set_cons_succ]
    repeat (walk_at "b")
    refine w_seq (w_while (fun m S' => ∃ (a : Nat) (r0 r1 : List Int) (o6 : Option Sv), S' = ⟨[some (.d (.int (b : Int))), some (.d (.int (e : Int))), some x, some y, some (.o os.length), some (.d (.int (a : Int))), o6], os ++ [.ml (r0.map D.int)]⟩ ∧ walkO T U e m a = some r1 ∧ r0 ++ r1 = R) (e + 1 - b) ⟨b, [], R, _, rfl, hw, rfl⟩ ?_)
    rintro m S' ⟨a, r0, r1, o6, rfl, hw, hR⟩
    have hl0 : r0.length + r1.length ≤ 100000 := by rw [← List.length_append, hR]; exact hl
    repeat (walk_at "b")
    refine br_ite (fun h0 => ?_) (fun h0 => ?_)
    · have h0' : ¬ e < a := by omega
      cases m with
      | zero =>
        unfold walkO at hw
        rw [if_neg h0'] at hw
        cases hw
      | succ m =>
        unfold walkO at hw
        rw [if_neg h0'] at hw
        repeat (walk_at "b")
        refine ew_din (ew_var rfl (ew_var rfl ⟨camD T, .inl (a : Int), ex2, rfl, ?_⟩))
        rw [look_cam]
        cases hT1 : lkA T a with
        | none =>
          rw [hT1] at hw
          simp only at hw
          refine ⟨_, rfl, br_F ?_⟩
          repeat (walk_at "b")
          refine br_ite (fun h1 => ?_) (fun h1 => ?_)
          · have h1' : a < e := by omega
            rw [if_pos h1'] at hw
            obtain ⟨y1, hy1, hw⟩ := Option.bind_eq_some_iff.mp hw
            obtain ⟨r2, hr2, rfl⟩ := Option.map_eq_some_iff.mp hw
            rw [List.length_cons] at hl0
            repeat (walk_at "b")
            refine w_drop (ew_app ?_)
            repeat (walk_at "b")
            refine ⟨_, _, rfl, last_at, ?_⟩
            refine ew_dgetX (ew_var rfl (ew_var rfl ⟨numD U, .inl (a : Int), .int y1, ey2, rfl, by rw [look_num, hy1]; rfl, ?_⟩))
            refine ⟨_, _, rfl, last_at, by rw [List.length_map, sizeLine_eq]; omega, ?_⟩
            rw [last_set]
            repeat (walk_at "b")
            refine w_augI (x := (a : Int)) rfl ?_
            repeat (walk_at "b")
            refine ⟨m, Nat.lt_succ_self _, a + 1, r0 ++ [y1], r2, o6, ?_, hr2, by rw [← hR, List.append_assoc]; rfl⟩
            dsimp only [List.set_cons_zero, List.set_cons_succ]
            rw [List.map_append, Int.natCast_add]
            rfl
          · have h1' : ¬ a < e := by omega
            rw [if_neg h1'] at hw
            repeat (walk_at "b")
            refine w_augI (x := (a : Int)) rfl ?_
            repeat (walk_at "b")
            refine ⟨m, Nat.lt_succ_self _, a + 1, r0, r1, o6, ?_, hw, hR⟩
            dsimp only [List.set_cons_zero, List.set_cons_succ]
            rw [Int.natCast_add]
            rfl
        | some xo =>
          obtain ⟨x1, o⟩ := xo
          rw [hT1] at hw
          simp only at hw
          refine ⟨_, rfl, br_T ?_⟩
          repeat (walk_at "b")
          refine ew_dgetX (ew_var rfl (ew_var rfl ⟨camD T, .inl (a : Int), .tup [.int (x1 : Int), rowD o], ex2, rfl, by rw [look_cam, hT1]; rfl, ?_⟩))
          refine gw_tup rfl ?_
          repeat (walk_at "b")
          have hlo : r0.length + o.length ≤ 100000 := by
            split at hw
            · obtain ⟨y1, hy1, hw⟩ := Option.bind_eq_some_iff.mp hw
              obtain ⟨r2, hr2, rfl⟩ := Option.map_eq_some_iff.mp hw
              simp only [List.length_append, List.length_cons] at hl0
              omega
            · obtain ⟨r2, hr2, rfl⟩ := Option.map_eq_some_iff.mp hw
              simp only [List.length_append] at hl0
              omega
          refine w_drop (ew_ext ?_)
          repeat (walk_at "b")
          refine ⟨_, _, rfl, last_at, ?_⟩
          repeat (walk_at "b")
          refine ⟨o.map D.int, _, rfl, last_at, by rw [List.length_map, List.length_map, sizeLine_eq]; omega, ?_⟩
          rw [last_set]
          repeat (walk_at "b")
          refine br_ite (fun h1 => ?_) (fun h1 => ?_)
          · have h1' : x1 < e := by omega
            rw [if_pos h1'] at hw
            obtain ⟨y1, hy1, hw⟩ := Option.bind_eq_some_iff.mp hw
            obtain ⟨r2, hr2, rfl⟩ := Option.map_eq_some_iff.mp hw
            simp only [List.length_append, List.length_cons] at hl0
            repeat (walk_at "b")
            refine w_drop (ew_app ?_)
            repeat (walk_at "b")
            refine ⟨_, _, rfl, last_at, ?_⟩
            refine ew_dgetX (ew_var rfl (ew_var rfl ⟨numD U, .inl (x1 : Int), .int y1, dct_app ey, rfl, by rw [look_num, hy1]; rfl, ?_⟩))
            refine ⟨_, _, rfl, last_at, by rw [List.length_append, List.length_map, List.length_map, sizeLine_eq]; omega, ?_⟩
            rw [last_set]
            repeat (walk_at "b")
            refine w_augI (x := (x1 : Int)) rfl ?_
            repeat (walk_at "b")
            refine ⟨m, Nat.lt_succ_self _, x1 + 1, r0 ++ o ++ [y1], r2, some (.d (rowD o)), ?_, hr2, by rw [← hR]; simp⟩
            dsimp only [List.set_cons_zero, List.set_cons_succ]
            rw [List.map_append, List.map_append, Int.natCast_add]
            rfl
          · have h1' : ¬ x1 < e := by omega
            rw [if_neg h1'] at hw
            obtain ⟨r2, hr2, rfl⟩ := Option.map_eq_some_iff.mp hw
            repeat (walk_at "b")
            refine w_augI (x := (x1 : Int)) rfl ?_
            repeat (walk_at "b")
            refine ⟨m, Nat.lt_succ_self _, x1 + 1, r0 ++ o, r2, some (.d (rowD o)), ?_, hr2, by rw [← hR]; simp⟩
            dsimp only [List.set_cons_zero, List.set_cons_succ]
            rw [List.map_append, Int.natCast_add]
            rfl
    · have h0' : e < a := by omega
      have hr1 : r1 = [] := by
        cases m with
        | zero =>
          unfold walkO at hw
          rw [if_pos h0'] at hw
          cases hw
          rfl
        | succ m =>
          unfold walkO at hw
          rw [if_pos h0'] at hw
          cases hw
          rfl
      subst hr1
      rw [List.append_nil] at hR
      subst hR
      refine w_next ?_
      repeat (walk_at "b")
      refine cw_tupO last_at ?_
      show QA _ _
      rw [List.take_left' rfl]
      exact q
abbrev s_RowBetween_unlike_place : Stmt := inClass (topS 21) 1
abbrev N_RowBetween_unlike_place : List Str := ["self", "unlike", "at"]
theorem sc_RowBetween_unlike_place : FnScope N_RowBetween_unlike_place ["self"] (defScope s_RowBetween_unlike_place) := ⟨rfl, rfl, rfl, by decide +kernel, rfl, by decide +kernel, by decide +kernel⟩
theorem ok_unlike_place {C f : Addr} {fd : FuncData} (F : Fun K "unlike_place" "RowBetween.unlike_place" s_RowBetween_unlike_place f fd) (T : Rcl K C) (z_len : mg "len" = none) (z_min : mg "min" = none) : FnOk P w K mg base CX0 1 f fd ["self"] (spD K (fUnl C)) := by
  refine F.ok sc_RowBetween_unlike_place (fun vs H Q E h => ?_) (fun cdv A outer s H vs Q E hr h => ?_)
  · obtain ⟨as, os, ds, QA, EA, R, r, ⟨j, A1, B1, _, _, _, _, _, _, _, _, rfl, _⟩, _⟩ := h
    rw [r.length]
    rfl
  · have hu : (A.deeper (envOfC "RowBetween.unlike_place" (defScope s_RowBetween_unlike_place) s.heap.objs.size f cdv)).units + 1 < cLine := by
      have := hr.un
      omega
    have hu64 : (A.deeper (envOfC "RowBetween.unlike_place" (defScope s_RowBetween_unlike_place) s.heap.objs.size f cdv)).units + 64 < cLine := by
      have := hr.un
      omega
    refine ⟨_, (pss_cons (ps_lock (ps_setLc (i := 1) (own := [("at", 2)]) (g := (gName 2)) rfl sc_RowBetween_unlike_place.nd rfl rfl (sw_true rfl rfl rfl (by decide +kernel)) (pi_keys (pe_fldK (K := K) rfl (pv 0) rfl)) (blkOk_by (own := [("at", 2)]) (N := N_RowBetween_unlike_place) (sc := defScope s_RowBetween_unlike_place) (by decide +kernel)) (fun _ _ _ _ _ => (pg_name (i := 2) sc_RowBetween_unlike_place.nd rfl (Or.inl rfl))) (fun _ _ _ _ _ => (pts_one (pt_cmpR op_ne (pe_dget2 hu (pe_fldK (K := K) rfl (pv 0) rfl) (pv 2) (pe_dget hu (pe_fldK (K := K) rfl (pv 0) rfl) (pv 2) (fun _ _ => rfl)) ⟨rfl, rfl, rfl, rfl⟩) (pe_dget hu (pe_fldK (K := K) rfl (pv 0) rfl) (pv 2) (fun _ _ => rfl)) (nomark _)))) (fun _ _ _ _ _ => (pv 2))))
  (pss_one (ps_ret (pe_ifExp (pt_cmpR op_gt (pe_callB call_lenA (by rfl) z_len PySem.boot_len (pa_cons (pv 1) pa_nil)) pe_int (nomark _)) (pe_callB (cr_min rfl) (by rfl) z_min (by decide +kernel) (pa_cons (pv 1) pa_nil)) pe_non)))), read_of h fun ds os QA EA hf => ?_⟩
    obtain ⟨j, A, B, p1, p2, p3, p4, k1, k2, k3, k4, rfl, hB, hlen, hnd, q0, q1⟩ := hf
    try dsimp only [cxOf, Cx.nox, Cx.wish]
    show W K _ _ _ ⟨[some (.o j), none, none], os⟩
    refine w_seq (w_lock (j := k2) (p := p2) (kds := numD (pin 0 A)) hB.u fun od vs => ?_)
    have ej : (os.set k2 (.lp p2 od vs (numD (pin 0 A))))[j]? = some (.mr C (rbFs p1 p2 p3 p4)) := set_other hB.i (by have := hB.n; omega)
    have e2 : (os.set k2 (.lp p2 od vs (numD (pin 0 A))))[k2]? = some (.lp p2 od vs (numD (pin 0 A))) := get_set hB.u
    have e4 : (os.set k2 (.lp p2 od vs (numD (pin 0 A))))[k4]? = some (.mp p4 (numD (wan B))) := set_other hB.w (by have := hB.n; omega)
    refine w_asg (ew_lcS (wg_name (by decide)) mg_name (iws_keys ?_))
    refine ew_fldR (ew_var rfl ⟨j, C, rbFs p1 p2 p3 p4, p2, k2, _, rfl, ej, T.c, T.n2, rfl, e2, rfl, k2, p2, od, vs, numD (pin 0 A), rfl, e2, ?_⟩)
    refine ⟨fun i acc os2 => os2 = os.set k2 (.lp p2 od vs (numD (pin 0 A))) ∧ acc = ((((pin 0 A).take i).filter fun e => decide ((lkA (wan B) e.1).getD e.2 ≠ e.2)).map fun e => D.int (e.1 : Int)), ⟨rfl, rfl⟩, ?_, ?_, ?_⟩
    · rintro i acc os2 ⟨rfl, _⟩
      exact app_at e2
    · rintro i d acc os2 hd ⟨rfl, rfl⟩
      rw [List.getElem?_map] at hd
      obtain ⟨kv, hk, rfl⟩ := Option.map_eq_some_iff.mp hd
      unfold numD at hk
      rw [List.getElem?_map] at hk
      obtain ⟨e, he, rfl⟩ := Option.map_eq_some_iff.mp hk
      have hi : i < (pin 0 A).length := (List.getElem?_eq_some_iff.mp he).1
      have ei : (pin 0 A)[i] = e := (List.getElem?_eq_some_iff.mp he).2
      have hm : e ∈ pin 0 A := List.mem_of_getElem? he
      have hlk := lkA_mem hnd hm
      have hw : (os.set k2 (.lp p2 od vs (numD (pin 0 A))) ++ [Ob.ml ((((pin 0 A).take i).filter fun e => decide ((lkA (wan B) e.1).getD e.2 ≠ e.2)).map fun e => D.int (e.1 : Int))])[k4]? = some (.mp p4 (numD (wan B))) := app_at e4
      have hp : (os.set k2 (.lp p2 od vs (numD (pin 0 A))) ++ [Ob.ml ((((pin 0 A).take i).filter fun e => decide ((lkA (wan B) e.1).getD e.2 ≠ e.2)).map fun e => D.int (e.1 : Int))])[k2]? = some (.lp p2 od vs (numD (pin 0 A))) := app_at e2
      have hnext : ((pin 0 A).take (i + 1)).filter (fun e => decide ((lkA (wan B) e.1).getD e.2 ≠ e.2)) = ((pin 0 A).take i).filter (fun e => decide ((lkA (wan B) e.1).getD e.2 ≠ e.2)) ++ if (lkA (wan B) e.1).getD e.2 = e.2 then [] else [e] := by
        rw [← List.take_append_getElem hi, List.filter_append, ei]
        congr 1
        by_cases hx : (lkA (wan B) e.1).getD e.2 = e.2
        · simp [hx]
        · simp [hx]
      have hfl := List.length_filter_le (fun e : Nat × Int => decide ((lkA (wan B) e.1).getD e.2 ≠ e.2)) ((pin 0 A).take i)
      rw [List.length_take] at hfl
      refine gw_name ?_
      repeat (walk_at "b")
      refine ew_dget2 (ew_fldR (ew_var rfl ⟨j, C, rbFs p1 p2 p3 p4, p4, k4, _, rfl, app_at ej, T.c, T.n4, rfl, hw, rfl, numD (wan B), dct_at hw rfl, ?_⟩))
      refine ew_var rfl ?_
      refine ew_dgetX (ew_fldR (ew_var rfl ⟨j, C, rbFs p1 p2 p3 p4, p2, k2, _, rfl, app_at ej, T.c, T.n2, rfl, hp, rfl, ?_⟩))
      refine ew_var rfl ⟨numD (pin 0 A), .inl (e.1 : Int), .int e.2, dct_at hp rfl, rfl, by rw [look_num, hlk]; rfl, ?_⟩
      refine ⟨numD (wan B), .inl (e.1 : Int), .int e.2, dct_at hw rfl, rfl, rfl, ?_⟩
      rw [look_num, getD_int]
      refine ew_dgetX (ew_fldR (ew_var rfl ⟨j, C, rbFs p1 p2 p3 p4, p2, k2, _, rfl, app_at ej, T.c, T.n2, rfl, hp, rfl, ?_⟩))
      refine ew_var rfl ⟨numD (pin 0 A), .inl (e.1 : Int), .int e.2, dct_at hp rfl, rfl, by rw [look_num, hlk]; rfl, ?_⟩
      repeat (walk_at "b")
      refine br_iteN (fun hx => ?_) (fun hx => ?_)
      · refine ew_var rfl ⟨_, _, rfl, rfl, by rw [List.length_map, sizeLine_eq]; omega, rfl, ?_⟩
        rw [hnext, if_neg hx, List.map_append]
        rfl
      · refine ⟨_, rfl, rfl, ?_⟩
        rw [hnext, if_pos hx, List.append_nil]
    · rintro acc os2 ⟨rfl, rfl⟩
      have eL : (List.map (fun kv => keyD kv.1) (numD (pin 0 A))).length = (pin 0 A).length := by unfold numD; rw [List.length_map, List.length_map]
      rw [eL, List.take_length]
      have eu : (List.filter (fun e => decide ((lkA (wan B) e.1).getD e.2 ≠ e.2)) (pin 0 A)).map (fun e => D.int (e.1 : Int)) = ((unl A B).map fun n : Nat => (n : Int)).map D.int := by
        unfold unl
        rw [List.map_map, List.map_map]
        rfl
      rw [eu]
      refine ⟨e2, ?_⟩
      rw [set_back hB.u]
      dsimp only [List.set_cons_zero, List.set_cons_succ]
      repeat (walk_at "b")
      rw [List.length_map, List.length_map]
      refine br_ite (fun h0 => ?_) (fun h0 => ?_)
      · repeat (walk_at "b")
        refine cw_minI (by rw [List.length_map]; omega) fun m hm hle => ?_
        obtain ⟨n, hn, rfl⟩ := List.mem_map.mp hm
        refine ret_same (q1 n hn fun y hy => ?_)
        have := hle (y : Int) (List.mem_map.mpr ⟨y, hy, rfl⟩)
        omega
      · repeat (walk_at "b")
        exact ret_same (q0 (List.eq_nil_of_length_eq_zero (by omega)))
end

open PySem PySem.Spec PyProof.Rows L2 Br
open Pm (Spot okS fitF hasO en gr leK stepT spP lkA T1 T2 bp cam pin goe wan walkO walk leQ stepQ ends spansF pairT grW spotO unl spansOf big)
theorem spansD_app {w : List (Nat × Nat)} {t : Nat × Nat} : (w ++ [t]).map pairD = w.map pairD ++ [pairD t] := by
  rw [List.map_append]
  rfl
section
variable {P : Program} {w : World} {K : PySem.W.Frag} {mg : Str → Option Value} {base : Heap}
abbrev s_RowBetween_begins_and_ends : Stmt := inClass (topS 21) 3
abbrev N_RowBetween_begins_and_ends : List Str := ["self", "came", "begin"]
theorem sc_RowBetween_begins_and_ends : FnScope N_RowBetween_begins_and_ends ["self"] (defScope s_RowBetween_begins_and_ends) := ⟨rfl, rfl, rfl, by decide +kernel, rfl, by decide +kernel, by decide +kernel⟩
theorem ok_begins_and_ends {C f : Addr} {fd : FuncData} (F : Fun K "begins_and_ends" "RowBetween.begins_and_ends" s_RowBetween_begins_and_ends f fd) (T : Rcl K C) : FnOk P w K mg base CX0 1 f fd ["self"] (spD K (fEnds C)) := by
  refine F.ok sc_RowBetween_begins_and_ends (fun vs H Q E h => ?_) (fun cdv A outer s H vs Q E hr h => ?_)
  · obtain ⟨as, os, ds, QA, EA, R, r, ⟨j, A1, B1, _, _, _, _, _, _, _, _, rfl, _⟩, _⟩ := h
    rw [r.length]
    rfl
  · have hu : (A.deeper (envOfC "RowBetween.begins_and_ends" (defScope s_RowBetween_begins_and_ends) s.heap.objs.size f cdv)).units + 1 < cLine := by
      have := hr.un
      omega
    refine ⟨_, (pss_cons (ps_lock (ps_setLc (i := 1) (own := [("begin", 2)]) (g := (gName 2)) rfl sc_RowBetween_begins_and_ends.nd rfl rfl (sw_true rfl rfl rfl (by decide +kernel)) (pi_keys (pe_fldK (K := K) rfl (pv 0) rfl)) (blkOk_by (own := [("begin", 2)]) (N := N_RowBetween_begins_and_ends) (sc := defScope s_RowBetween_begins_and_ends) (by decide +kernel)) (fun _ _ _ _ _ => (pg_name (i := 2) sc_RowBetween_begins_and_ends.nd rfl (Or.inl rfl))) (fun _ _ _ _ _ => pts_nil) (fun _ _ _ _ _ => (pe_tup (pa_cons (pv 2) (pa_cons (pe_ix (r := rIxT K) ix_tup (pe_dget hu (pe_fldK (K := K) rfl (pv 0) rfl) (pv 2) (fun _ _ => rfl)) pe_int (fun _ _ => rfl)) pa_nil))))))
  (pss_one (ps_ret (pe_op op_catL (pv 1) (pe_lock (pe_lc (own := [("begin", 2)]) (g := (gName 2)) rfl sc_RowBetween_begins_and_ends.nd (pi_keys (pe_fldK (K := K) rfl (pv 0) rfl)) (blkOk_by (own := [("begin", 2)]) (N := N_RowBetween_begins_and_ends) (sc := defScope s_RowBetween_begins_and_ends) (by decide +kernel)) (fun _ _ _ _ _ => (pg_name (i := 2) sc_RowBetween_begins_and_ends.nd rfl (Or.inl rfl))) (fun _ _ _ _ _ => pts_nil) (fun _ _ _ _ _ => (pe_tup (pa_cons (pv 2) (pa_cons (pe_ix (r := rIxT K) ix_tup (pe_dget hu (pe_fldK (K := K) rfl (pv 0) rfl) (pv 2) (fun _ _ => rfl)) pe_int (fun _ _ => rfl)) pa_nil)))))))))), read_of h fun ds os QA EA hf => ?_⟩
    obtain ⟨j, A, B, p1, p2, p3, p4, k1, k2, k3, k4, rfl, hB, lA, lB, n1, n3, q⟩ := hf
    try dsimp only [cxOf, Cx.nox, Cx.wish]
    show W K _ _ _ ⟨[some (.o j), none, none], os⟩
    have one : ∀ {X : Xc} {S0 : Sl} {Qq : Sv → Os → Prop} {T1' : T1} {p : Addr} {k : Nat} {fn : Str} (hk : os[k]? = some (.mp p (camD T1'))) (hl : (rbFs p1 p2 p3 p4).lookup fn = some p) (hn : NoAttr K C fn) (hd : (T1'.map (·.1)).Nodup) (hlen : T1'.length ≤ 10000) (hjk : k ≠ j)
        (s0 : S0[0]? = some (some (.o j))) (sl : S0.length = 3) (qq : Qq (.d (.lst ((ends T1').map pairD))) os), EW K X (tLockE (tLc (iKeys (tFld K (tVar 0) fn)) (gName 2) tYes (tTup (tCons (tVar 2) (tCons (tOp (rIxT K) (tDGet (tFld K (tVar 0) fn) (tVar 2)) (tC (V.int 0))) tNil))) [2])) ⟨S0, os⟩ Qq := by
      intro X S0 Qq T1' p k fn hk hl hn hd hlen hjk s0 sl qq
      refine ew_lock (j := k) (p := p) (kds := camD T1') hk fun od vs => ?_
      have ej : (os.set k (.lp p od vs (camD T1')))[j]? = some (.mr C (rbFs p1 p2 p3 p4)) := set_other hB.i hjk
      have e2 : (os.set k (.lp p od vs (camD T1')))[k]? = some (.lp p od vs (camD T1')) := get_set hk
      refine ew_lcS (wg_name (by decide)) mg_name (iws_keys ?_)
      refine ew_fldR (ew_var s0 ⟨j, C, rbFs p1 p2 p3 p4, p, k, _, rfl, ej, T.c, hn, hl, e2, rfl, k, p, od, vs, camD T1', rfl, e2, ?_⟩)
      refine ⟨fun i acc os2 => os2 = os.set k (.lp p od vs (camD T1')) ∧ acc = (ends (T1'.take i)).map pairD, ⟨rfl, rfl⟩, ?_, ?_, ?_⟩
      · rintro i acc os2 ⟨rfl, _⟩
        exact app_at e2
      · rintro i d acc os2 hd2 ⟨rfl, rfl⟩
        rw [List.getElem?_map] at hd2
        obtain ⟨kv, hk2, rfl⟩ := Option.map_eq_some_iff.mp hd2
        unfold camD at hk2
        rw [List.getElem?_map] at hk2
        obtain ⟨e, he, rfl⟩ := Option.map_eq_some_iff.mp hk2
        have hi : i < T1'.length := (List.getElem?_eq_some_iff.mp he).1
        have ei : T1'[i] = e := (List.getElem?_eq_some_iff.mp he).2
        have hlk := lkA_mem hd (List.mem_of_getElem? he)
        have hp : (os.set k (.lp p od vs (camD T1')) ++ [Ob.ml ((ends (T1'.take i)).map pairD)])[k]? = some (.lp p od vs (camD T1')) := app_at e2
        have w0 : ((wipeS S0 [2]).set 2 (some (.d (keyD (.inl (e.1 : Int))))))[0]? = some (some (.o j)) := by
          show ((S0.set 2 none).set 2 _)[0]? = _
          rw [List.getElem?_set_ne (by decide), List.getElem?_set_ne (by decide)]
          exact s0
        have w2 : ((wipeS S0 [2]).set 2 (some (.d (keyD (.inl (e.1 : Int))))))[2]? = some (some (.d (keyD (.inl (e.1 : Int))))) := by
          show ((S0.set 2 none).set 2 _)[2]? = _
          rw [List.getElem?_set_self (by rw [List.length_set]; omega)]
        refine gw_name ?_
        refine tw_yes (br_T ?_)
        refine ew_tup2 (aw_cons (ew_var w2 (aw_cons (ew_op ?_))))
        refine ew_dgetX (ew_fldR (ew_var w0 ⟨j, C, rbFs p1 p2 p3 p4, p, k, _, rfl, app_at ej, T.c, hn, hl, hp, rfl, ?_⟩))
        refine ew_var w2 ⟨camD T1', .inl (e.1 : Int), .tup [.int (e.2.1 : Int), rowD e.2.2], dct_at hp rfl, rfl, by rw [look_cam, hlk]; rfl, ?_⟩
        refine ew_int (bw_ix0 (aw_nil ⟨_, rfl, by show 2 ≤ sizeLine; decide, _, _, rfl, rfl, ?_, rfl, ?_⟩))
        · unfold ends
          rw [List.length_map, List.length_map, List.length_take, sizeLine_eq]
          omega
        · have en : ends (T1'.take (i + 1)) = ends (T1'.take i) ++ [(e.1, e.2.1)] := by
            unfold ends
            rw [← List.take_append_getElem hi, List.map_append, ei]
            rfl
          rw [en, spansD_app]
          rfl
      · rintro acc os2 ⟨rfl, rfl⟩
        have eL : (List.map (fun kv => keyD kv.1) (camD T1')).length = T1'.length := by unfold camD; rw [List.length_map, List.length_map]
        rw [eL, List.take_length]
        refine ⟨e2, ?_⟩
        rw [set_back hk]
        exact qq
    have lC : (cam 0 A).length ≤ 10000 := by rw [cam_len]; exact lA
    have lG : (goe B).length ≤ 10000 := by unfold goe; rw [List.length_map]; exact lB
    refine w_seq (w_lockAsg (one hB.c rfl T.n1 n1 lC (by have := hB.n; omega) rfl rfl ?_))
    dsimp only [List.set_cons_zero, List.set_cons_succ]
    refine w_ret (ew_op (ew_var rfl (one hB.g rfl T.n3 n3 lG (by have := hB.n; omega) rfl rfl ?_)))
    refine bw_catL ?_ ?_
    · unfold ends
      rw [List.length_map, List.length_map, List.length_map, List.length_map, sizeLine_eq]
      omega
    · rw [List.map_append] at q
      exact ret_same q
abbrev s_RowBetween_spans : Stmt := inClass (topS 21) 2
abbrev N_RowBetween_spans : List Str := ["self", "whole", "begin", "end", "first", "last"]
theorem sc_RowBetween_spans : FnScope N_RowBetween_spans ["self"] (defScope s_RowBetween_spans) := ⟨rfl, rfl, rfl, by decide +kernel, rfl, by decide +kernel, by decide +kernel⟩
theorem ok_spans {C f a1 : Addr} {fd d1 : FuncData} (F : Fun K "spans" "RowBetween.spans" s_RowBetween_spans f fd) (z_len : mg "len" = none) (z_max : mg "max" = none) (z_sorted : mg "sorted" = none)
    (G_begins_and_ends : FnOk P w K mg base CX0 1 a1 d1 ["self"] (spD K (fEnds C))) (M_begins_and_ends : Mth K C "begins_and_ends" a1 d1 ["self"]) : FnOk P w K mg base CX0 2 f fd ["self"] (spD K (fSpans C)) := by
  refine F.ok sc_RowBetween_spans (fun vs H Q E h => ?_) (fun cdv A outer s H vs Q E hr h => ?_)
  · obtain ⟨as, os, ds, QA, EA, R, r, ⟨j, A1, B1, _, _, _, _, _, _, _, _, rfl, _⟩, _⟩ := h
    rw [r.length]
    rfl
  · have hu64 : (A.deeper (envOfC "RowBetween.spans" (defScope s_RowBetween_spans) s.heap.objs.size f cdv)).units + 64 < cLine := by
      have := hr.un
      omega
    refine ⟨_, (pss_cons (ps_set (i := 1) sc_RowBetween_spans.nd rfl (Or.inl rfl) (pe_lst pa_nil))
  (pss_cons (ps_for PassesOwn.never rfl (pi_list (pe_callB (r := rSortD K) (cr_sortD hu64) (by rfl) z_sorted (by decide +kernel) (pa_cons (pe_meth0 (pv 0) M_begins_and_ends.c M_begins_and_ends.m G_begins_and_ends (hr.mono (by decide)) M_begins_and_ends.b .nil pass0) pa_nil))) (pg_tup (by rfl) (pgs_cons (pg_name (i := 2) sc_RowBetween_spans.nd rfl (Or.inl rfl)) (pgs_cons (pg_name (i := 3) sc_RowBetween_spans.nd rfl (Or.inl rfl)) pgs_nil)))
    (pss_one (ps_if (PW.pt (pw_and (pt_cmpR op_gt (pe_callB call_lenA (by rfl) z_len PySem.boot_len (pa_cons (pv 1) pa_nil)) pe_int (nomark _)) (pw_and1 (pt_cmpR op_le (pv 2) (pe_ix (r := rIxT K) ix_tup (pe_ix (r := rIxL K) ix_list (pv 1) (pe_un un_neg pe_int) (fun _ _ => rfl)) pe_int (fun _ _ => rfl)) (nomark _))))) (pss_cons (ps_asg (pe_bm0 PySem.F.plainAttrs_list PySem.F.slot_list_pop PySem.F.type_list_pop mt_pop (pv 1)) (pg_tup (by rfl) (pgs_cons (pg_name (i := 4) sc_RowBetween_spans.nd rfl (Or.inl rfl)) (pgs_cons (pg_name (i := 5) sc_RowBetween_spans.nd rfl (Or.inl rfl)) pgs_nil))))
      (pss_one (ps_expr (pe_bm PySem.F.plainAttrs_list PySem.F.slot_list_append PySem.F.type_list_append mt_append (pv 1) (pa_cons (pe_tup (pa_cons (pv 4) (pa_cons (pe_callB (call_max2A rfl) (by rfl) z_max (by decide +kernel) (pa_cons (pv 5) (pa_cons (pv 3) pa_nil))) pa_nil))) pa_nil))))) (pss_one (ps_expr (pe_bm PySem.F.plainAttrs_list PySem.F.slot_list_append PySem.F.type_list_append mt_append (pv 1) (pa_cons (pe_tup (pa_cons (pv 2) (pa_cons (pv 3) pa_nil))) pa_nil)))))))
  (pss_one (ps_ret (pv 1))))), read_of h fun ds os QA EA hf => ?_⟩
    obtain ⟨j, A, B, p1, p2, p3, p4, k1, k2, k3, k4, rfl, hB, lA, lB, n1, n3, q⟩ := hf
    try dsimp only [cxOf, Cx.nox, Cx.wish]
    show W K _ _ _ ⟨[some (.o j), none, none, none, none, none], os⟩
    refine w_seq (w_newL ?_)
    dsimp only [List.set_cons_zero, List.set_cons_succ]
    have lC : (cam 0 A).length ≤ 10000 := by rw [cam_len]; exact lA
    have lG : (goe B).length ≤ 10000 := by unfold goe; rw [List.length_map]; exact lB
    have hB2 : Btw C (os ++ [.ml []]) j A B p1 p2 p3 p4 k1 k2 k3 k4 := ⟨app_at hB.i, app_at hB.c, app_at hB.u, app_at hB.g, app_at hB.w, hB.n⟩
    refine w_seq (w_for (iw_list (ew_cb (aw_cons (ew_meth (ew_var rfl ⟨j, rbFs p1 p2 p3 p4, rfl, hB2.i, rfl, aw_nil ?_⟩))))))
    refine ⟨j, A, B, p1, p2, p3, p4, k1, k2, k3, k4, rfl, hB2, lA, lB, n1, n3, aw_nil ?_⟩
    refine cw_sortD (es := ends (cam 0 A) ++ ends (goe B)) (f := pairD) (enc := pairT) rfl (fun e _ => rfl) (PySem.W.AllAlike.of fun _ _ => by simp [pairT, PySem.W.alike, PySem.W.alikeAll]) (PySem.W.Sortable.tuples fun b => ⟨_, _, rfl⟩) (fun e _ => by simp [pairT, PyData.depth, PyData.depthAll]) ?_
    rw [Pm.sort_pairs]
    have hI : ((ends (cam 0 A) ++ ends (goe B)).mergeSort leQ).length ≤ 20000 := by
      rw [List.length_mergeSort, List.length_append]
      unfold ends
      rw [List.length_map, List.length_map]
      omega
    unfold spansOf spansF at q
    generalize hIg : (ends (cam 0 A) ++ ends (goe B)).mergeSort leQ = I at hI q ⊢
    refine ⟨_, rfl, fun i S' => ∃ (wl : List (Nat × Nat)) (o2 o3 o4 o5 : Option Sv), S' = ⟨[some (.o j), some (.o os.length), o2, o3, o4, o5], os ++ [.ml (wl.map pairD)]⟩ ∧ wl = (I.take i).foldl stepQ [],
      ⟨[], _, _, _, _, rfl, rfl⟩, ?_, ?_⟩
    · rintro i d S' hd ⟨wl, o2, o3, o4, o5, rfl, hw⟩
      rw [List.getElem?_map] at hd
      obtain ⟨⟨b, e⟩, hs, rfl⟩ := Option.map_eq_some_iff.mp hd
      have hi : i < I.length := (List.getElem?_eq_some_iff.mp hs).1
      have ei : I[i] = (b, e) := (List.getElem?_eq_some_iff.mp hs).2
      have hwl : wl.length ≤ 20000 := by
        have := Pm.foldQ_len (I.take i) []
        rw [← hw, List.length_take] at this
        simp at this
        omega
      have hnext : (I.take (i + 1)).foldl stepQ [] = stepQ wl (b, e) := by
        rw [← List.take_append_getElem hi, List.foldl_append, ei, ← hw]
        rfl
      refine gw_tup rfl ?_
      repeat (walk_at "b")
      refine cw_lenO last_at ?_
      repeat (walk_at "b")
      refine br_ite (fun h0 => ?_) (fun h0 => ?_)
      · have hne : wl ≠ [] := fun z => by
          subst z
          exact absurd h0 (by decide)
        obtain ⟨wl, ⟨f2, l2⟩, rfl⟩ := (List.eq_nil_or_concat wl).resolve_left hne
        rw [List.concat_eq_append] at *
        rw [spansD_app]
        rw [List.length_append, List.length_singleton] at hwl
        repeat (walk_at "b")
        refine bw_ixO last_at atI_last ?_
        repeat (walk_at "b")
        refine bw_ix1 ?_
        repeat (walk_at "b")
        refine br_ite (fun h1 => ?_) (fun h1 => ?_)
        · repeat (walk_at "b")
          refine ew_pop0 ?_
          repeat (walk_at "b")
          refine ⟨_, _, _, rfl, last_at, ?_⟩
          rw [last_set]
          refine gw_tup rfl ?_
          repeat (walk_at "b")
          refine w_drop (ew_app ?_)
          repeat (walk_at "b")
          refine ⟨_, _, rfl, last_at, ?_⟩
          repeat (walk_at "b")
          refine cw_max2 ?_
          repeat (walk_at "b")
          refine ⟨_, _, rfl, last_at, by rw [List.length_map, sizeLine_eq]; omega, ?_⟩
          rw [last_set]
          refine ⟨wl ++ [(f2, max l2 e)], _, _, _, _, by rw [spansD_app, show max (l2 : Int) (e : Int) = ((max l2 e : Nat) : Int) by omega]; rfl, by rw [hnext, Pm.stepQ_snoc, if_pos (by simp only; omega)]⟩
        · rw [← spansD_app]
          repeat (walk_at "b")
          refine w_drop (ew_app ?_)
          repeat (walk_at "b")
          refine ⟨_, _, rfl, last_at, ?_⟩
          repeat (walk_at "b")
          refine ⟨_, _, rfl, last_at, by rw [List.length_map, List.length_append, List.length_singleton, sizeLine_eq]; omega, ?_⟩
          rw [last_set]
          refine ⟨wl ++ [(f2, l2)] ++ [(b, e)], _, _, _, _, by rw [spansD_app (w := wl ++ [(f2, l2)]), spansD_app]; rfl, by rw [hnext, Pm.stepQ_snoc, if_neg (by simp only; omega)]⟩
      · have hw0 : wl = [] := by
          cases wl with
          | nil => rfl
          | cons t g => exact absurd (show (0 : Int) < (((t :: g).map pairD).length : Nat) by simp) h0
        repeat (walk_at "b")
        refine w_drop (ew_app ?_)
        repeat (walk_at "b")
        refine ⟨_, _, rfl, last_at, ?_⟩
        repeat (walk_at "b")
        refine ⟨_, _, rfl, last_at, by rw [List.length_map, sizeLine_eq]; omega, ?_⟩
        rw [last_set]
        refine ⟨wl ++ [(b, e)], _, _, _, _, by rw [spansD_app]; rfl, by rw [hnext, hw0]; rfl⟩
    · rintro S' ⟨wl, o2, o3, o4, o5, rfl, hw⟩
      rw [List.length_map, List.take_length] at hw
      repeat (walk_at "b")
      rw [← hw] at q
      refine ⟨Nat.le_refl _, wl.map pairD, last_at, ?_⟩
      rw [List.take_left' rfl]
      exact q
abbrev s_RowBetween_spot_of : Stmt := inClass (topS 21) 4
abbrev N_RowBetween_spot_of : List Str := ["self", "begin", "end", "old", "growths", "first", "last"]
theorem sc_RowBetween_spot_of : FnScope N_RowBetween_spot_of ["self", "begin", "end"] (defScope s_RowBetween_spot_of) := ⟨rfl, rfl, rfl, by decide +kernel, rfl, by decide +kernel, by decide +kernel⟩
theorem ok_spot_of {C f a1 : Addr} {fd d1 : FuncData} (F : Fun K "spot_of" "RowBetween.spot_of" s_RowBetween_spot_of f fd) (T : Rcl K C) (z_len : mg "len" = none) (z_sum : mg "sum" = none)
    (G_row_walked : FnOk P w K mg base CX0 1 a1 d1 ["begin", "end", "spots", "known"] (spD K fWalk)) (C_row_walked : Cal K mg "row_walked" a1 d1 ["begin", "end", "spots", "known"]) : FnOk P w K mg base CX0 2 f fd ["self", "begin", "end"] (spD K (fSpot C)) := by
  refine F.ok sc_RowBetween_spot_of (fun vs H Q E h => ?_) (fun cdv A outer s H vs Q E hr h => ?_)
  · obtain ⟨as, os, ds, QA, EA, R, r, ⟨j, b, e, A1, B1, _, _, _, _, _, _, _, _, _, rfl, _⟩, _⟩ := h
    rw [r.length]
    rfl
  · refine ⟨_, (pss_cons (ps_lock (ps_setLc (i := 4) (own := [("first", 5), ("last", 6), ("old", 3)]) (g := (gTup _ 2 (gCons (gName 5) (gCons (gTup _ 2 (gCons (gName 6) (gCons (gName 3) gNil))) gNil)))) rfl sc_RowBetween_spot_of.nd rfl rfl (sw_true rfl rfl rfl (by decide +kernel)) (pi_items (pe_fldK (K := K) rfl (pv 0) rfl)) (blkOk_by (own := [("first", 5), ("last", 6), ("old", 3)]) (N := N_RowBetween_spot_of) (sc := defScope s_RowBetween_spot_of) (by decide +kernel)) (fun _ _ _ _ _ => (pg_tup (by rfl) (pgs_cons (pg_name (i := 5) sc_RowBetween_spot_of.nd rfl (Or.inl rfl)) (pgs_cons (pg_tup (by rfl) (pgs_cons (pg_name (i := 6) sc_RowBetween_spot_of.nd rfl (Or.inl rfl)) (pgs_cons (pg_name (i := 3) sc_RowBetween_spot_of.nd rfl (Or.inl rfl)) pgs_nil))) pgs_nil)))) (fun _ _ _ _ _ => (pts_one (pt_cmpR op_lt (pv 6) (pv 1) (nomark _)))) (fun _ _ _ _ _ => (pe_op op_sub (pe_op op_sub (pv 6) (pv 5)) (pe_callB (r := Br.rLen K) call_lenA (by rfl) z_len PySem.boot_len (pa_cons (pv 3) pa_nil))))))
  (pss_cons (ps_set (i := 3) sc_RowBetween_spot_of.nd rfl (Or.inl rfl) (pe_call G_row_walked (hr.mono (by decide)) rfl C_row_walked.m C_row_walked.k C_row_walked.b .nil pass0 (pa_cons (pv 1) (pa_cons (pv 2) (pa_cons (pe_fldK (K := K) rfl (pv 0) rfl) (pa_cons (pe_fldK (K := K) rfl (pv 0) rfl) pa_nil))))))
  (pss_one (ps_ret (pe_tup (pa_cons (pe_op op_sub (pv 1) (pe_callB (cr_sum rfl) (by rfl) z_sum (by decide +kernel) (pa_cons (pv 4) pa_nil))) (pa_cons (pv 3) (pa_cons (pe_call G_row_walked (hr.mono (by decide)) rfl C_row_walked.m C_row_walked.k C_row_walked.b .nil pass0 (pa_cons (pv 1) (pa_cons (pv 2) (pa_cons (pe_fldK (K := K) rfl (pv 0) rfl) (pa_cons (pe_fldK (K := K) rfl (pv 0) rfl) pa_nil))))) pa_nil)))))))), read_of h fun ds os QA EA hf => ?_⟩
    obtain ⟨j, b, e, A, B, p1, p2, p3, p4, k1, k2, k3, k4, z, rfl, hB, lA, t1, t3, hz, z1, z2, q⟩ := hf
    try dsimp only [cxOf, Cx.nox, Cx.wish]
    show W K _ _ _ ⟨[some (.o j), some (.d (.int (b : Int))), some (.d (.int (e : Int))), none, none, none, none], os⟩
    refine w_seq (w_lockAsg (ew_lock (j := k1) (p := p1) (kds := camD (cam 0 A)) hB.c fun od vs => ?_))
    have ej : (os.set k1 (.lp p1 od vs (camD (cam 0 A))))[j]? = some (.mr C (rbFs p1 p2 p3 p4)) := set_other hB.i (by have := hB.n; omega)
    have e2 : (os.set k1 (.lp p1 od vs (camD (cam 0 A))))[k1]? = some (.lp p1 od vs (camD (cam 0 A))) := get_set hB.c
    refine ew_lcS (wg_tup (wgs_cons mg_name (mgs_cons (mg_tup (mgs_cons mg_name (mgs_cons mg_name mgs_nil))) mgs_nil) (wg_name (by decide)) (wgs_cons (mg_tup (mgs_cons mg_name (mgs_cons mg_name mgs_nil))) mgs_nil (wg_tup (wgs_cons mg_name (mgs_cons mg_name mgs_nil) (wg_name (by decide)) (wgs_cons mg_name mgs_nil (wg_name (by decide)) wgs_nil))) wgs_nil))) (mg_tup (mgs_cons mg_name (mgs_cons (mg_tup (mgs_cons mg_name (mgs_cons mg_name mgs_nil))) mgs_nil))) (iws_items ?_)
    refine ew_fldR (ew_var rfl ⟨j, C, rbFs p1 p2 p3 p4, p1, k1, _, rfl, ej, T.c, T.n1, rfl, e2, rfl, k1, p1, od, vs, camD (cam 0 A), rfl, e2, ?_⟩)
    have lC : (cam 0 A).length ≤ 100000 := by rw [cam_len]; exact lA
    refine ⟨fun i acc os2 => os2 = os.set k1 (.lp p1 od vs (camD (cam 0 A))) ∧ acc = ((((cam 0 A).take i).filter fun t => decide (t.2.1 < b)).map fun t => (t.2.1 : Int) - t.1 - t.2.2.length).map D.int, ⟨rfl, rfl⟩, ?_, ?_, ?_⟩
    · rintro i acc os2 ⟨rfl, _⟩
      exact app_at e2
    · rintro i d acc os2 hd ⟨rfl, rfl⟩
      rw [List.getElem?_map] at hd
      obtain ⟨kv, hk, rfl⟩ := Option.map_eq_some_iff.mp hd
      unfold camD at hk
      rw [List.getElem?_map] at hk
      obtain ⟨⟨t1', t2', o⟩, he, rfl⟩ := Option.map_eq_some_iff.mp hk
      have hi : i < (cam 0 A).length := (List.getElem?_eq_some_iff.mp he).1
      have ei : (cam 0 A)[i] = (t1', t2', o) := (List.getElem?_eq_some_iff.mp he).2
      have hnext : (((cam 0 A).take (i + 1)).filter fun t => decide (t.2.1 < b)) = (((cam 0 A).take i).filter fun t => decide (t.2.1 < b)) ++ if t2' < b then [(t1', t2', o)] else [] := by
        rw [← List.take_append_getElem hi, List.filter_append, ei]
        congr 1
        by_cases hx : t2' < b <;> simp [hx]
      have hfl := List.length_filter_le (fun t : Nat × Nat × List Int => decide (t.2.1 < b)) ((cam 0 A).take i)
      rw [List.length_take] at hfl
      dsimp only [keyD]
      refine gw_tup rfl ?_
      repeat (walk_at "b")
      refine gw_tup rfl ?_
      repeat (walk_at "b")
      refine br_ite (fun hx => ?_) (fun hx => ?_)
      · have hx' : t2' < b := by omega
        repeat (walk_at "b")
        refine ⟨_, _, rfl, rfl, by rw [List.length_map, List.length_map, sizeLine_eq]; omega, rfl, ?_⟩
        rw [hnext, if_pos hx', List.map_append, List.map_append, List.length_map]
        rfl
      · have hx' : ¬ t2' < b := by omega
        refine ⟨_, rfl, rfl, ?_⟩
        rw [hnext, if_neg hx', List.append_nil]
    · rintro acc os2 ⟨rfl, rfl⟩
      have eL : (List.map (fun kv => D.tup [keyD kv.1, kv.2]) (camD (cam 0 A))).length = (cam 0 A).length := by unfold camD; rw [List.length_map, List.length_map]
      rw [eL, List.take_length]
      refine ⟨e2, ?_⟩
      rw [set_back hB.c]
      dsimp only [List.set_cons_zero, List.set_cons_succ]
      unfold spotO at hz
      obtain ⟨o, ho, hz⟩ := Option.bind_eq_some_iff.mp hz
      obtain ⟨n, hn, rfl⟩ := Option.map_eq_some_iff.mp hz
      refine w_seq (w_asg (ew_call (aw_cons (ew_var rfl (aw_cons (ew_var rfl (aw_cons ?_)))))))
      refine ew_fldR (ew_var rfl ⟨j, C, rbFs p1 p2 p3 p4, p1, k1, _, rfl, hB.i, T.c, T.n1, rfl, hB.c, rfl, aw_cons ?_⟩)
      refine ew_fldR (ew_var rfl ⟨j, C, rbFs p1 p2 p3 p4, p4, k4, _, rfl, hB.i, T.c, T.n4, rfl, hB.w, rfl, aw_nil ?_⟩)
      refine ⟨b, e, cam 0 A, wan B, .o k1, .o k4, o, rfl, dct_at hB.c rfl, dct_at hB.w rfl, t1, ho, z1, ?_⟩
      dsimp only [List.set_cons_zero, List.set_cons_succ]
      refine w_ret (ew_tup2 (aw_cons (ew_op (ew_var rfl (ew_cb (aw_cons (ew_var rfl (aw_nil (cw_sum ?_)))))))))
      refine bw_i0 (aw_cons (ew_var rfl (aw_cons (ew_call (aw_cons (ew_var rfl (aw_cons (ew_var rfl (aw_cons ?_)))))))))
      refine ew_fldR (ew_var rfl ⟨j, C, rbFs p1 p2 p3 p4, p3, k3, _, rfl, hB.i, T.c, T.n3, rfl, hB.g, rfl, aw_cons ?_⟩)
      refine ew_fldR (ew_var rfl ⟨j, C, rbFs p1 p2 p3 p4, p2, k2, _, rfl, hB.i, T.c, T.n2, rfl, hB.u, rfl, aw_nil ?_⟩)
      refine ⟨b, e, goe B, pin 0 A, .o k3, .o k2, n, rfl, dct_at hB.g rfl, dct_at hB.u rfl, t3, hn, z2, aw_nil ⟨_, rfl, by show 3 ≤ sizeLine; decide, ?_⟩⟩
      exact ret_same q
end

open PySem PySem.Spec PyProof.Rows L2 Br
open Pm (Spot okS fitF hasO en gr leK stepT spP lkA T1 T2 bp cam pin goe wan walkO walk leQ stepQ ends spansF pairT grW spotO unl spansOf big)
/-- the store behind os0: the row between, what it holds -/
def rbS (C : Addr) (os0 : Os) (p1 p2 p3 p4 : Addr) (c : T1) (u : T2) (g : T1) (w : T2) : Os := os0 ++ [.mr C (rbFs p1 p2 p3 p4), .mp p1 (camD c), .mp p2 (numD u), .mp p3 (camD g), .mp p4 (numD w)]
section
variable {C : Addr} {os0 : Os} {p1 p2 p3 p4 : Addr} {c : T1} {u : T2} {g : T1} {w : T2} {y : Ob}
theorem rb0 : (rbS C os0 p1 p2 p3 p4 c u g w)[os0.length]? = some (.mr C (rbFs p1 p2 p3 p4)) := by simp [rbS]
theorem rb1 : (rbS C os0 p1 p2 p3 p4 c u g w)[os0.length + 1]? = some (.mp p1 (camD c)) := by simp [rbS]
theorem rb2 : (rbS C os0 p1 p2 p3 p4 c u g w)[os0.length + 2]? = some (.mp p2 (numD u)) := by simp [rbS]
theorem rb3 : (rbS C os0 p1 p2 p3 p4 c u g w)[os0.length + 3]? = some (.mp p3 (camD g)) := by simp [rbS]
theorem rb4 : (rbS C os0 p1 p2 p3 p4 c u g w)[os0.length + 4]? = some (.mp p4 (numD w)) := by simp [rbS]
theorem rs1 {c2 : T1} : (rbS C os0 p1 p2 p3 p4 c u g w).set (os0.length + 1) (.mp p1 (camD c2)) = rbS C os0 p1 p2 p3 p4 c2 u g w := by simp [rbS, List.set_append]
theorem rs2 {u2 : T2} : (rbS C os0 p1 p2 p3 p4 c u g w).set (os0.length + 2) (.mp p2 (numD u2)) = rbS C os0 p1 p2 p3 p4 c u2 g w := by simp [rbS, List.set_append]
theorem rs3 {g2 : T1} : (rbS C os0 p1 p2 p3 p4 c u g w).set (os0.length + 3) (.mp p3 (camD g2)) = rbS C os0 p1 p2 p3 p4 c u g2 w := by simp [rbS, List.set_append]
theorem rs4 {w2 : T2} : (rbS C os0 p1 p2 p3 p4 c u g w).set (os0.length + 4) (.mp p4 (numD w2)) = rbS C os0 p1 p2 p3 p4 c u g w2 := by simp [rbS, List.set_append]
end
theorem w_os {K : PySem.W.Frag} {X : Xc} {t : TS} {E : Ea} {s : Sl} {os1 os2 : Os} (h : os1 = os2) (w : W K X t E ⟨s, os2⟩) : W K X t E ⟨s, os1⟩ := h ▸ w
def fRbI (C : Addr) : FGr := fun ds os QG => ∃ (os0 : Os) (A B : List Spot) (l1 l2 : Nat), ds = [.o os0.length, .d (.tup (spotsD A)), .d (.tup (spotsD B))] ∧ os = os0 ++ [.mr C []] ∧ okS l1 0 A ∧ okS l2 0 B ∧ Pm.wt A ≤ 10000 ∧ Pm.wt B ≤ 10000 ∧
  ∀ p1 p2 p3 p4, QG (.d .non) (rbS C os0 p1 p2 p3 p4 (cam 0 A) (pin 0 A) (goe B) (wan B))
theorem pin_len : ∀ {A : List Spot} {s : Int}, (pin s A).length ≤ Pm.wt A
  | [], _ => Nat.le_refl _
  | (a, o, n) :: A, s => by
    have := pin_len (A := A) (s := s + n.length - o.length)
    unfold pin
    rw [List.length_append, Pm.bp_len, Pm.wt_cons]
    simp only
    omega
theorem wan_len : ∀ {A : List Spot}, (wan A).length ≤ Pm.wt A
  | [] => Nat.le_refl _
  | (a, o, n) :: A => by
    have := wan_len (A := A)
    have e : wan ((a, o, n) :: A) = bp a o ++ wan A := rfl
    rw [e, List.length_append, Pm.bp_len, Pm.wt_cons]
    simp only
    omega
theorem bp_pw {b : Nat} {r : List Int} : (bp b r).Pairwise fun x y => x.1 ≠ y.1 := by
  induction r generalizing b with
  | nil => exact .nil
  | cons x r ih =>
    refine .cons (fun e he => ?_) ih
    have := Pm.bp_mem e he
    simp only
    omega
theorem pin_pw {len : Nat} : ∀ {A : List Spot} {l : Nat} {s : Int}, okS len l A → 0 ≤ (l : Int) + s → (pin s A).Pairwise (fun x y => x.1 ≠ y.1) ∧ ∀ e ∈ pin s A, (l : Int) + s ≤ e.1
  | [], _, _, _, _ => ⟨.nil, fun e he => by simp [pin] at he⟩
  | (a, o, n) :: A, l, s, h, hs => by
    obtain ⟨h1, h2, h3, _, _, h4⟩ := h
    obtain ⟨i1, i2⟩ := pin_pw (l := a + o.length + 1) (s := s + n.length - o.length) h4 (by omega)
    unfold pin
    refine ⟨List.pairwise_append.mpr ⟨bp_pw, i1, fun e he f hf => ?_⟩, fun e he => ?_⟩
    · have := Pm.bp_mem e he
      have := i2 f hf
      omega
    · rcases List.mem_append.mp he with he | he
      · have := Pm.bp_mem e he
        omega
      · have := i2 e he
        omega
theorem wan_pw {len : Nat} : ∀ {A : List Spot} {l : Nat}, okS len l A → (wan A).Pairwise (fun x y => x.1 ≠ y.1) ∧ ∀ e ∈ wan A, l ≤ e.1
  | [], _, _ => ⟨.nil, fun e he => by simp [wan] at he⟩
  | (a, o, n) :: A, l, h => by
    obtain ⟨h1, h2, h3, _, _, h4⟩ := h
    obtain ⟨i1, i2⟩ := wan_pw (l := a + o.length + 1) h4
    have e : wan ((a, o, n) :: A) = bp a o ++ wan A := rfl
    rw [e]
    refine ⟨List.pairwise_append.mpr ⟨bp_pw, i1, fun e he f hf => ?_⟩, fun e he => ?_⟩
    · have := Pm.bp_mem e he
      have := i2 f hf
      omega
    · rcases List.mem_append.mp he with he | he
      · have := Pm.bp_mem e he
        omega
      · have := i2 e he
        omega
theorem okS_take {len : Nat} : ∀ {A : List Spot} {l : Nat} (i : Nat), okS len l A → okS len l (A.take i)
  | [], _, _, _ => by simp [okS]
  | _ :: _, _, 0, _ => by simp [okS]
  | (a, o, n) :: A, l, i + 1, h => by
    obtain ⟨h1, h2, h3, h5, h6, h4⟩ := h
    rw [List.take_succ_cons]
    exact ⟨h1, h2, h3, h5, h6, okS_take i h4⟩
theorem goe_app (A B : List Spot) : goe (A ++ B) = goe A ++ goe B := by simp [goe]
theorem wan_app (A B : List Spot) : wan (A ++ B) = wan A ++ wan B := by simp [wan]
section
variable {P : Program} {w : World} {K : PySem.W.Frag} {mg : Str → Option Value} {base : Heap}
abbrev s_RowBetween_init : Stmt := inClass (topS 21) 0
abbrev N_RowBetween_init : List Str := ["self", "spots", "others", "number", "at", "old", "new", "begin"]
theorem sc_RowBetween_init : FnScope N_RowBetween_init ["self", "spots", "others"] (defScope s_RowBetween_init) := ⟨rfl, rfl, rfl, by decide +kernel, rfl, by decide +kernel, by decide +kernel⟩
theorem ok_RowBetween_init {C f a1 a2 a3 : Addr} {fd d1 d2 d3 : FuncData} (F : Fun K "__init__" "RowBetween.__init__" s_RowBetween_init f fd) (T : Rcl K C) (z_len : mg "len" = none) (z_enumerate : mg "enumerate" = none)
    (G_growth_of : FnOk P w K mg base CX0 1 a1 d1 ["spots"] (spD K fGrow)) (C_growth_of : Cal K mg "growth_of" a1 d1 ["spots"])
    (G_by_place : FnOk P w K mg base CX0 1 a2 d2 ["begin", "row"] (spD K fByP)) (C_by_place : Cal K mg "by_place" a2 d2 ["begin", "row"])
    (G_end_of : FnOk P w K mg base CX0 1 a3 d3 ["spot"] (spD K fEnd)) (C_end_of : Cal K mg "end_of" a3 d3 ["spot"]) : FnOk P w K mg base CX0 2 f fd ["self", "spots", "others"] (spG K (fRbI C)) := by
  refine F.ok sc_RowBetween_init (fun vs H Q E h => ?_) (fun cdv A outer s H vs Q E hr h => ?_)
  · obtain ⟨as, os, ds, QG, R, r, ⟨os0, A1, B1, _, _, rfl, _⟩, _⟩ := h
    rw [r.length]
    rfl
  · have hu : (A.deeper (envOfC "RowBetween.__init__" (defScope s_RowBetween_init) s.heap.objs.size f cdv)).units + 1 < cLine := by
      have := hr.un
      omega
    refine ⟨_, (pss_cons (ps_fld (pv 0) pe_dnewK rfl)
  (pss_cons (ps_fld (pv 0) pe_dnewK rfl)
  (pss_cons (ps_fld (pv 0) pe_dnewK rfl)
  (pss_cons (ps_fld (pv 0) pe_dnewK rfl)
  (pss_cons (ps_for PassesOwn.never rfl (pi_enA (by rfl) z_enumerate (pa_cons (pv 1) pa_nil)) (pg_tup (by rfl) (pgs_cons (pg_name (i := 3) sc_RowBetween_init.nd rfl (Or.inl rfl)) (pgs_cons (pg_tup (by rfl) (pgs_cons (pg_name (i := 4) sc_RowBetween_init.nd rfl (Or.inl rfl)) (pgs_cons (pg_name (i := 5) sc_RowBetween_init.nd rfl (Or.inl rfl)) (pgs_cons (pg_name (i := 6) sc_RowBetween_init.nd rfl (Or.inl rfl)) pgs_nil)))) pgs_nil)))
    (pss_cons (ps_set (i := 7) sc_RowBetween_init.nd rfl (Or.inl rfl) (pe_op op_add (pv 4) (pe_call G_growth_of (hr.mono (by decide)) rfl C_growth_of.m C_growth_of.k C_growth_of.b .nil pass0 (pa_cons (pe_slice (r := rSlA K) sl_tupA (pv 1) po_none (po_some (pv 3))) pa_nil))))
    (pss_cons (ps_dput hu (pe_fld (pv 0) rfl) (pv 7) (pe_tup (pa_cons (pe_op op_add (pv 7) (pe_callB call_lenA (by rfl) z_len PySem.boot_len (pa_cons (pv 6) pa_nil))) (pa_cons (pv 5) pa_nil))) rfl)
    (pss_one (ps_expr (pe_bm PySem.F.plainAttrs_dict PySem.F.slot_dict_update PySem.F.type_dict_update mt_update (pe_fld (pv 0) rfl) (pa_cons (pe_call G_by_place (hr.mono (by decide)) rfl C_by_place.m C_by_place.k C_by_place.b .nil pass0 (pa_cons (pv 7) (pa_cons (pv 6) pa_nil))) pa_nil)))))))
  (pss_one (ps_for PassesOwn.never rfl (pi_tup (pv 2)) (pg_tup (by rfl) (pgs_cons (pg_name (i := 4) sc_RowBetween_init.nd rfl (Or.inl rfl)) (pgs_cons (pg_name (i := 5) sc_RowBetween_init.nd rfl (Or.inl rfl)) (pgs_cons (pg_name (i := 6) sc_RowBetween_init.nd rfl (Or.inl rfl)) pgs_nil))))
    (pss_cons (ps_dput hu (pe_fld (pv 0) rfl) (pv 4) (pe_tup (pa_cons (pe_call G_end_of (hr.mono (by decide)) rfl C_end_of.m C_end_of.k C_end_of.b .nil pass0 (pa_cons (pe_tup (pa_cons (pv 4) (pa_cons (pv 5) (pa_cons (pv 6) pa_nil)))) pa_nil)) (pa_cons (pv 6) pa_nil))) rfl)
    (pss_one (ps_expr (pe_bm PySem.F.plainAttrs_dict PySem.F.slot_dict_update PySem.F.type_dict_update mt_update (pe_fld (pv 0) rfl) (pa_cons (pe_call G_by_place (hr.mono (by decide)) rfl C_by_place.m C_by_place.k C_by_place.b .nil pass0 (pa_cons (pv 4) (pa_cons (pv 5) pa_nil))) pa_nil)))))))))))), readG_of h fun ds os QG hf => ?_⟩
    obtain ⟨os0, A, B, l1, l2, rfl, rfl, hA, hB, wA, wB, q⟩ := hf
    try dsimp only [cxOf, Cx.nox, Cx.wish]
    show W K _ _ _ ⟨[some (.o os0.length), some (.d (.tup (spotsD A))), some (.d (.tup (spotsD B))), none, none, none, none, none], os0 ++ [.mr C []]⟩
    refine w_seq (w_fldNew (j := os0.length) (C := C) (fs := []) rfl last_at T.c T.n1 (by decide) rfl fun p1 => ?_)
    dsimp only
    rw [last_set]
    refine w_seq (w_fldNew (j := os0.length) (C := C) (fs := [("came", p1)]) rfl (by simp) T.c T.n2 (by simp) rfl fun p2 => ?_)
    refine w_seq (w_fldNew (j := os0.length) (C := C) (fs := [("came", p1), ("put_in", p2)]) rfl (by simp [List.set_append]) T.c T.n3 (by simp) rfl fun p3 => ?_)
    refine w_seq (w_fldNew (j := os0.length) (C := C) (fs := [("came", p1), ("put_in", p2), ("goes", p3)]) rfl (by simp [List.set_append]) T.c T.n4 (by simp) rfl fun p4 => ?_)
    have q := q p1 p2 p3 p4
    refine w_os (os2 := rbS C os0 p1 p2 p3 p4 [] [] [] []) (by simp [rbS, List.set_append, camD, numD, rbFs]) ?_
    have hnP : ∀ i, okS l1 0 (A.take i) := fun i => okS_take i hA
    have lA : A.length ≤ 10000 := Nat.le_trans wt_len wA
    have lB : B.length ≤ 10000 := Nat.le_trans wt_len wB
    refine w_seq (w_for (iw_en (aw_cons (ew_var rfl (aw_nil ⟨spotsD A, .inl rfl, ?_⟩)))))
    refine ⟨fun i S' => ∃ o3 o4 o5 o6 o7 : Option Sv, S' = ⟨[some (.o os0.length), some (.d (.tup (spotsD A))), some (.d (.tup (spotsD B))), o3, o4, o5, o6, o7], rbS C os0 p1 p2 p3 p4 (cam 0 (A.take i)) (pin 0 (A.take i)) [] []⟩, ⟨_, _, _, _, _, rfl⟩, ?_, ?_⟩
    · rintro i d S' hd ⟨o3, o4, o5, o6, o7, rfl⟩
      obtain ⟨x, hx, rfl⟩ := enumD_get hd
      rw [List.getElem?_map] at hx
      obtain ⟨⟨a, o, n⟩, hs, rfl⟩ := Option.map_eq_some_iff.mp hx
      have hi : i < A.length := (List.getElem?_eq_some_iff.mp hs).1
      have ei : A[i] = (a, o, n) := (List.getElem?_eq_some_iff.mp hs).2
      have hm := wt_mem (a, o, n) (List.mem_of_getElem? hs)
      simp only at hm
      obtain ⟨g1, g2, g3, g4⟩ := Pm.cam_lt (s := 0) hA (by simp) hs
      have eT : A.take (i + 1) = A.take i ++ [(a, o, n)] := by rw [← List.take_append_getElem hi, ei]
      have eC : cam 0 (A.take (i + 1)) = cam 0 (A.take i) ++ [(((a : Int) + gr (A.take i)).toNat, ((a : Int) + gr (A.take i)).toNat + n.length, o)] := by
        rw [eT, Pm.cam_app, Int.zero_add]
        rfl
      have eP : pin 0 (A.take (i + 1)) = pin 0 (A.take i) ++ bp ((a : Int) + gr (A.take i)).toNat n := by
        rw [eT, Pm.pin_app, Int.zero_add]
        simp [pin]
      have hb : ((((a : Int) + gr (A.take i)).toNat : Nat) : Int) = (a : Int) + gr (A.take i) := Int.toNat_of_nonneg (by omega)
      generalize hbg : ((a : Int) + gr (A.take i)).toNat = b at *
      refine gw_tup rfl ?_
      repeat (walk_at "b")
      refine gw_tup rfl ?_
      repeat (walk_at "b")
      refine sw_T ?_
      rw [Int.zero_add, cut_take (by rw [List.length_map]; omega), ← List.map_take]
      refine aw_nil ⟨A.take i, _, rfl, .inl rfl, by rw [List.length_take]; omega, ?_⟩
      repeat (walk_at "b")
      rw [← hb]
      dsimp only [List.set_cons_zero, List.set_cons_succ]
      refine w_dputP (ew_tup2 (aw_cons (ew_op (ew_var rfl (ew_cb (aw_cons (ew_var rfl (aw_nil (cw_lenU ?_)))))))))
      rw [List.length_map]
      refine bw_i0 (aw_cons (ew_var rfl (aw_nil ⟨_, rfl, by show 2 ≤ sizeLine; decide, ?_⟩)))
      refine ew_fldR (ew_var rfl ⟨os0.length, C, rbFs p1 p2 p3 p4, p1, os0.length + 1, _, rfl, rb0, T.c, T.n1, rfl, rb1, rfl, ?_⟩)
      refine ew_var rfl ⟨os0.length + 1, p1, _, .inl (b : Int), _, rfl, rfl, rb1, rfl, ?_, ?_⟩
      · unfold camD
        rw [List.length_map, cam_len, List.length_take, sizeLine_eq]
        omega
      have eC2 : putD (camD (cam 0 (A.take i))) (.inl (b : Int)) (.tup [.int ((b : Int) + (n.length : Nat)), rowD o]) = camD (cam 0 (A.take (i + 1))) := by
        rw [eC, ← Int.natCast_add]
        exact putC_new (x := (b + n.length, o)) fun e he => by have := g3 e he; omega
      rw [eC2, rs1]
      show W K _ _ _ _
      refine w_drop ?_
      refine ew_updP ?_
      refine ew_fldR ?_
      refine ew_var rfl (⟨os0.length, C, rbFs p1 p2 p3 p4, p2, os0.length + 2, .mp p2 (numD (pin 0 (A.take i))), rfl, rb0, T.c, T.n2, rfl, rb2, rfl, ?_⟩)
      refine ⟨os0.length + 2, p2, _, rfl, rb2, ew_call (aw_cons (ew_var rfl (aw_cons (ew_var rfl (aw_nil ⟨b, n, rfl, by omega, p2, _, _, rfl, rb2, ?_, ?_⟩)))))⟩
      · have wl := pin_len (A := A.take i) (s := 0)
        have wl2 := Pm.wt_sub (List.take_sublist i A)
        unfold numD
        rw [List.length_map, List.length_map, Pm.bp_len, sizeLine_eq]
        omega
      have hpw : (pin 0 (A.take i) ++ bp b n).Pairwise fun x y => x.1 ≠ y.1 := by
        rw [← eP]
        exact (pin_pw (okS_take (i + 1) hA) (by simp)).1
      rw [merge_new hpw, rs2, ← eP]
      exact ⟨_, _, _, _, _, rfl⟩
    · rintro S' ⟨o3, o4, o5, o6, o7, rfl⟩
      rw [enumD_len, List.length_map, List.take_length]
      show W K _ _ _ _
      refine w_for (iw_tup (ew_var rfl ⟨_, rfl, ?_⟩))
      refine ⟨fun i S' => ∃ o3 o4 o5 o6 o7 : Option Sv, S' = ⟨[some (.o os0.length), some (.d (.tup (spotsD A))), some (.d (.tup (spotsD B))), o3, o4, o5, o6, o7], rbS C os0 p1 p2 p3 p4 (cam 0 A) (pin 0 A) (goe (B.take i)) (wan (B.take i))⟩, ⟨_, _, _, _, _, rfl⟩, ?_, ?_⟩
      · rintro i d S' hd ⟨o3, o4, o5, o6, o7, rfl⟩
        rw [List.getElem?_map] at hd
        obtain ⟨⟨a, o, n⟩, hs, rfl⟩ := Option.map_eq_some_iff.mp hd
        have hi : i < B.length := (List.getElem?_eq_some_iff.mp hs).1
        have ei : B[i] = (a, o, n) := (List.getElem?_eq_some_iff.mp hs).2
        have hm := wt_mem (a, o, n) (List.mem_of_getElem? hs)
        simp only at hm
        obtain ⟨g1, g2, g3⟩ := Pm.goe_lt hB hs
        have eT : B.take (i + 1) = B.take i ++ [(a, o, n)] := by rw [← List.take_append_getElem hi, ei]
        have eC : goe (B.take (i + 1)) = goe (B.take i) ++ [(a, a + o.length, n)] := by
          rw [eT, goe_app]
          rfl
        have eP : wan (B.take (i + 1)) = wan (B.take i) ++ bp a o := by
          rw [eT, wan_app]
          simp [wan]
        have wl := wan_len (A := B.take i)
        have wl2 := Pm.wt_sub (List.take_sublist i B)
        refine gw_tup rfl ?_
        repeat (walk_at "b")
        dsimp only [List.set_cons_zero, List.set_cons_succ]
        refine w_dputP (ew_tup2 (aw_cons (ew_call (aw_cons (ew_tup2 (aw_cons (ew_var rfl (aw_cons (ew_var rfl (aw_cons (ew_var rfl (aw_nil ⟨_, rfl, by show 3 ≤ sizeLine; decide, aw_nil ⟨(a : Int), o.map D.int, n.map D.int, rfl, ?_⟩⟩))))))))))))
        rw [List.length_map]
        refine aw_cons (ew_var rfl (aw_nil ⟨_, rfl, by show 2 ≤ sizeLine; decide, ?_⟩))
        refine ew_fldR (ew_var rfl ⟨os0.length, C, rbFs p1 p2 p3 p4, p3, os0.length + 3, _, rfl, rb0, T.c, T.n3, rfl, rb3, rfl, ?_⟩)
        refine ew_var rfl ⟨os0.length + 3, p3, _, .inl (a : Int), _, rfl, rfl, rb3, rfl, ?_, ?_⟩
        · unfold camD goe
          rw [List.length_map, List.length_map, List.length_take, sizeLine_eq]
          omega
        have eC2 : putD (camD (goe (B.take i))) (.inl (a : Int)) (.tup [.int ((a : Int) + (o.length : Nat)), rowD n]) = camD (goe (B.take (i + 1))) := by
          rw [eC, ← Int.natCast_add]
          exact putC_new (x := (a + o.length, n)) fun e he => by have := g2 e he; omega
        rw [eC2, rs3]
        show W K _ _ _ _
        refine w_drop ?_
        refine ew_updP ?_
        refine ew_fldR ?_
        refine ew_var rfl (⟨os0.length, C, rbFs p1 p2 p3 p4, p4, os0.length + 4, .mp p4 (numD (wan (B.take i))), rfl, rb0, T.c, T.n4, rfl, rb4, rfl, ?_⟩)
        refine ⟨os0.length + 4, p4, _, rfl, rb4, ew_call (aw_cons (ew_var rfl (aw_cons (ew_var rfl (aw_nil ⟨a, o, rfl, by omega, p4, _, _, rfl, rb4, ?_, ?_⟩)))))⟩
        · unfold numD
          rw [List.length_map, List.length_map, Pm.bp_len, sizeLine_eq]
          omega
        have hpw : (wan (B.take i) ++ bp a o).Pairwise fun x y => x.1 ≠ y.1 := by
          rw [← eP]
          exact (wan_pw (okS_take (i + 1) hB)).1
        rw [merge_new hpw, rs4, ← eP]
        exact ⟨_, _, _, _, _, rfl⟩
      · rintro S' ⟨o3, o4, o5, o6, o7, rfl⟩
        rw [List.length_map, List.take_length]
        exact q
end

open PySem PySem.Spec PyProof.Rows L2 Br
open Pm (Spot okS fitF hasO en gr leK stepT spP lkA T1 T2 bp cam pin goe wan walkO walk leQ stepQ ends spansF pairT grW spotO unl spansOf big sZ)
def zD (z : Int × List Int × List Int) : D := .tup [.int z.1, rowD z.2.1, rowD z.2.2]
/-- both put together: what is asked ahead -/
structure ChO (l1 l2 : Nat) (A B ss : List Spot) : Prop where
  m : ∃ L : List (Int × List Int × List Int), (spansOf A B).map (spotO A B) = L.map some ∧ (∀ z ∈ L, z.2.1.length ≤ 100000 ∧ z.2.2.length ≤ 100000) ∧ L.filter big = ss.map sZ
  ok : okS l1 0 ss
  wt : Pm.wt ss ≤ 4000
def fChained (C M : Addr) : FD := fun ds os QA EA => ∃ (l1 l2 : Nat) (A B : List Spot), ds = [.d (patO C l1 A), .d (patO C l2 B)] ∧ Two l1 l2 A B ∧
  (∀ m ∈ unl A B, (∀ y ∈ unl A B, m ≤ y) → EA M [("at", .int (m : Int))] os) ∧ (unl A B = [] → (l1 : Int) + gr A ≠ l2 → EA M [("at", .int (min ((l1 : Int) + gr A) l2))] os) ∧
  (unl A B = [] → (l1 : Int) + gr A = l2 → ∃ ss, ChO l1 l2 A B ss ∧ QA (patO C l1 ss) os)
theorem raise_at2 {K : PySem.W.Frag} {E : XK} {EA : Xa} {os l : Os} {Sl : Sl} {En : Ea} {C : Addr} {i : Int} {te : TE}
    (h : EW K { wx := fun cls d (x : L2.St) H => E cls d H, xe := fun C fds S => EA C fds (S.os.take os.length) } te ⟨Sl, os ++ l⟩ fun x os' => x = .d (.int i) ∧ os' = os ++ l) (q : EA C [("at", .int i)] os) :
    W K { wx := fun cls d (x : L2.St) H => E cls d H, xe := fun C fds S => EA C fds (S.os.take os.length) } (fun x σ H => tMkO C (spI1 C "at" isAt) [] (tCons te tNil) σ H fun cls d H' => E cls d H') En ⟨Sl, os ++ l⟩ := by
  refine w_raise1 (Wx := fun cls d x H => E cls d H) rfl (aw_cons (ew_mono h ?_))
  rintro x os' ⟨rfl, rfl⟩
  refine aw_nil ⟨_, _, rfl, rfl, ⟨i, rfl⟩, ?_⟩
  show EA C _ ((os ++ l).take os.length)
  rw [List.take_left' rfl]
  exact q
theorem spans_len {A B : List Spot} : (spansOf A B).length ≤ A.length + B.length := by
  unfold spansOf spansF
  have h := Pm.foldQ_len ((ends (cam 0 A) ++ ends (goe B)).mergeSort leQ) []
  rw [List.length_mergeSort, List.length_append] at h
  unfold ends goe at *
  rw [List.length_map, List.length_map, List.length_map, cam_len] at h
  simpa using h
theorem cam_le : ∀ {A : List Spot} {s : Int}, ∀ t ∈ cam s A, t.1 ≤ t.2.1
  | [], _, t, h => by simp [cam] at h
  | (a, o, n) :: A, s, t, h => by
    rcases List.mem_cons.mp (show t ∈ ((a + s).toNat, (a + s).toNat + n.length, o) :: cam (s + n.length - o.length) A from h) with rfl | h
    · simp
    · exact cam_le t h
theorem goe_le {B : List Spot} : ∀ t ∈ goe B, t.1 ≤ t.2.1 := fun t h => by
  obtain ⟨s, _, rfl⟩ := List.mem_map.mp h
  simp
theorem pw_nodup {α : Type} {l : List (Nat × α)} (h : l.Pairwise fun x y => x.1 ≠ y.1) : (l.map (·.1)).Nodup := List.pairwise_map.mpr h
theorem cam_pw {len : Nat} : ∀ {A : List Spot} {l : Nat} {s : Int}, okS len l A → 0 ≤ (l : Int) + s → (cam s A).Pairwise (fun x y => x.1 ≠ y.1) ∧ ∀ e ∈ cam s A, (l : Int) + s ≤ e.1
  | [], _, _, _, _ => ⟨.nil, fun e he => by simp [cam] at he⟩
  | (a, o, n) :: A, l, s, h, hs => by
    obtain ⟨h1, h2, h3, _, _, h4⟩ := h
    obtain ⟨i1, i2⟩ := cam_pw (l := a + o.length + 1) (s := s + n.length - o.length) h4 (by omega)
    refine ⟨.cons (fun e he => ?_) i1, fun e he => ?_⟩
    · have := i2 e he
      simp only
      omega
    · rcases List.mem_cons.mp (show e ∈ ((a + s).toNat, (a + s).toNat + n.length, o) :: cam (s + n.length - o.length) A from he) with rfl | he
      · simp only
        omega
      · have := i2 e he
        omega
theorem goe_pw {len : Nat} : ∀ {A : List Spot} {l : Nat}, okS len l A → (goe A).Pairwise (fun x y => x.1 ≠ y.1) ∧ ∀ e ∈ goe A, l ≤ e.1
  | [], _, _ => ⟨.nil, fun e he => by simp [goe] at he⟩
  | (a, o, n) :: A, l, h => by
    obtain ⟨h1, h2, h3, _, _, h4⟩ := h
    obtain ⟨i1, i2⟩ := goe_pw (l := a + o.length + 1) h4
    refine ⟨.cons (fun e he => ?_) i1, fun e he => ?_⟩
    · have := i2 e he
      simp only
      omega
    · rcases List.mem_cons.mp (show e ∈ (a, a + o.length, n) :: goe A from he) with rfl | he
      · exact h1
      · have := i2 e he
        omega
section
variable {P : Program} {w : World} {K : PySem.W.Frag} {mg : Str → Option Value} {base : Heap}
abbrev s_chained : Stmt := topS 30
abbrev N_chained : List Str := ["one", "other", "between", "unlike", "length", "spots", "begin", "end", "at", "old", "new"]
theorem sc_chained : FnScope N_chained ["one", "other"] (defScope s_chained) := ⟨rfl, rfl, rfl, by decide +kernel, rfl, by decide +kernel, by decide +kernel⟩
theorem ok_chained {C R M f a1 a2 a3 a4 a5 a6 a7 : Addr} {fd d1 d2 d3 d4 d5 d6 d7 : FuncData} (F : Fun K "chained" "chained" s_chained f fd) (T : Pcl K C) (TR : Rcl K R) (z_len : mg "len" = none) (z_min : mg "min" = none)
    (G_RowBetween : FnOk P w K mg base CX0 2 a1 d1 ["self", "spots", "others"] (spG K (fRbI R))) (Y_RowBetween : Ycl K mg "RowBetween" R a1 d1 ["self", "spots", "others"])
    (G_unlike_place : FnOk P w K mg base CX0 1 a2 d2 ["self"] (spD K (fUnl R))) (M_unlike_place : Mth K R "unlike_place" a2 d2 ["self"])
    (G_spans : FnOk P w K mg base CX0 2 a3 d3 ["self"] (spD K (fSpans R))) (M_spans : Mth K R "spans" a3 d3 ["self"])
    (G_spot_of : FnOk P w K mg base CX0 2 a4 d4 ["self", "begin", "end"] (spD K (fSpot R))) (M_spot_of : Mth K R "spot_of" a4 d4 ["self", "begin", "end"])
    (G_length_behind : FnOk P w K mg base CX0 2 a5 d5 ["patch"] (spD K (fLenB C))) (C_length_behind : Cal K mg "length_behind" a5 d5 ["patch"])
    (G_Misfit : FnOk P w K mg base CX0 2 a6 d6 ["self", "at"] (spI1 M "at" isAt)) (X_Misfit : Xre K mg "Misfit" M a6 d6 ["self", "at"])
    (G_Patch : FnOk P w K mg base CX0 6 a7 d7 ["self", "length", "spots"] (spD K (fInit C))) (Y_Patch : Ycl K mg "Patch" C a7 d7 ["self", "length", "spots"]) : FnOk P w K mg base (CX P w) 8 f fd ["one", "other"] (spD K (fChained C M)) := by
  refine F.okX sc_chained (fun vs H Q E h => ?_) (fun cdv A outer s H vs Q E hr h => ?_)
  · obtain ⟨as, os, ds, QA, EA, R, r, ⟨l1, l2, A1, B1, rfl, _⟩, _⟩ := h
    rw [r.length]
    rfl
  · refine ⟨_, (pss_cons (ps_set (i := 2) sc_chained.nd rfl (Or.inr rfl) (pe_make Y_RowBetween.M G_RowBetween (hr.mono (by decide)) rfl Y_RowBetween.m Y_RowBetween.b .nil pass0 (pa_cons (pe_fldK (K := K) rfl (pv 0) rfl) (pa_cons (pe_fldK (K := K) rfl (pv 1) rfl) pa_nil))))
  (pss_cons (ps_set (i := 3) sc_chained.nd rfl (Or.inl rfl) (pe_meth0 (pv 2) M_unlike_place.c M_unlike_place.m G_unlike_place (hr.mono (by decide)) M_unlike_place.b .nil pass0))
  (pss_cons (ps_if (pt_cmpR op_notN1 (pv 3) pe_non (nomark _)) (pss_one (ps_raise rfl (takes_of rfl rfl rfl rfl) (pmk_re X_Misfit.T X_Misfit.iC X_Misfit.tI G_Misfit (hr.mono (by decide)) X_Misfit.b pass0 rfl X_Misfit.m (pa_cons (pv 3) pa_nil)))) pss_nil)
  (pss_cons (ps_set (i := 4) sc_chained.nd rfl (Or.inl rfl) (pe_call G_length_behind (hr.mono (by decide)) rfl C_length_behind.m C_length_behind.k C_length_behind.b .nil pass0 (pa_cons (pv 0) pa_nil)))
  (pss_cons (ps_if (pt_cmpR op_ne (pv 4) (pe_fldK (K := K) rfl (pv 1) rfl) (nomark _)) (pss_one (ps_raise rfl (takes_of rfl rfl rfl rfl) (pmk_re X_Misfit.T X_Misfit.iC X_Misfit.tI G_Misfit (hr.mono (by decide)) X_Misfit.b pass0 rfl X_Misfit.m (pa_cons (pe_callB (call_min2A rfl) (by rfl) z_min (by decide +kernel) (pa_cons (pv 4) (pa_cons (pe_fldK (K := K) rfl (pv 1) rfl) pa_nil))) pa_nil)))) pss_nil)
  (pss_cons (ps_setLc (i := 5) (own := [("begin", 6), ("end", 7)]) (g := (gTup _ 2 (gCons (gName 6) (gCons (gName 7) gNil)))) rfl sc_chained.nd rfl rfl (sw_true rfl rfl rfl (by decide +kernel)) (pi_list (pe_meth0 (pv 2) M_spans.c M_spans.m G_spans (hr.mono (by decide)) M_spans.b .nil pass0)) (blkOk_by (own := [("begin", 6), ("end", 7)]) (N := N_chained) (sc := defScope s_chained) (by decide +kernel)) (fun _ _ _ _ _ => (pg_tup (by rfl) (pgs_cons (pg_name (i := 6) sc_chained.nd rfl (Or.inl rfl)) (pgs_cons (pg_name (i := 7) sc_chained.nd rfl (Or.inl rfl)) pgs_nil)))) (fun _ _ _ _ _ => pts_nil) (fun _ _ _ _ _ => (pe_meth (pv 2) M_spot_of.c M_spot_of.m G_spot_of (hr.mono (by decide)) M_spot_of.b .nil pass0 (pa_cons (pv 6) (pa_cons (pv 7) pa_nil)))))
  (pss_one (ps_ret (pe_make Y_Patch.M G_Patch (hr.mono (by decide)) rfl Y_Patch.m Y_Patch.b .nil pass0 (pa_cons (pe_fldK (K := K) rfl (pv 0) rfl) (pa_cons (pe_lc (own := [("at", 8), ("old", 9), ("new", 10)]) (g := (gTup _ 3 (gCons (gName 8) (gCons (gName 9) (gCons (gName 10) gNil))))) rfl sc_chained.nd (pi_list (pv 5)) (blkOk_by (own := [("at", 8), ("old", 9), ("new", 10)]) (N := N_chained) (sc := defScope s_chained) (by decide +kernel)) (fun _ _ _ _ _ => (pg_tup (by rfl) (pgs_cons (pg_name (i := 8) sc_chained.nd rfl (Or.inl rfl)) (pgs_cons (pg_name (i := 9) sc_chained.nd rfl (Or.inl rfl)) (pgs_cons (pg_name (i := 10) sc_chained.nd rfl (Or.inl rfl)) pgs_nil))))) (fun _ _ _ _ _ => (pts_one (pt_cmpR op_gt (pe_op op_add (pe_callB (r := Br.rLen K) call_lenA (by rfl) z_len PySem.boot_len (pa_cons (pv 9) pa_nil)) (pe_callB (r := Br.rLen K) call_lenA (by rfl) z_len PySem.boot_len (pa_cons (pv 10) pa_nil))) pe_int (nomark _)))) (fun _ _ _ _ _ => (pe_tup (pa_cons (pv 8) (pa_cons (pv 9) (pa_cons (pv 10) pa_nil)))))) pa_nil))))))))))), read_of h fun ds os QA EA hf => ?_⟩
    obtain ⟨l1, l2, A, B, rfl, hT, hU, hL, hQ⟩ := hf
    try dsimp only [cxOf, Cx.nox, Cx.wish]
    show W K _ _ _ ⟨[some (.d (.ob C (pfs l1 (spotsD A)))), some (.d (.ob C (pfs l2 (spotsD B)))), none, none, none, none, none, none, none, none, none], os⟩
    have wA := hT.wa
    have wB := hT.wb
    have lA : A.length ≤ 1000 := Nat.le_trans wt_len wA
    have lB : B.length ≤ 1000 := Nat.le_trans wt_len wB
    refine w_seq (w_asgMakeG (aw_cons (ew_fld (ew_var rfl ⟨C, pfs l1 (spotsD A), .tup (spotsD A), rfl, T.i.c, T.ns, rfl, aw_cons (ew_fld (ew_var rfl ⟨C, pfs l2 (spotsD B), .tup (spotsD B), rfl, T.i.c, T.ns, rfl, aw_nil ?_⟩))⟩))))
    refine ⟨os, A, B, l1, l2, rfl, rfl, hT.a, hT.b, by omega, by omega, fun p1 p2 p3 p4 => ⟨rfl, ?_⟩⟩
    dsimp only [List.set_cons_zero, List.set_cons_succ]
    have hBt : Btw R (rbS R os p1 p2 p3 p4 (cam 0 A) (pin 0 A) (goe B) (wan B)) os.length A B p1 p2 p3 p4 (os.length + 1) (os.length + 2) (os.length + 3) (os.length + 4) := ⟨rb0, rb1, rb2, rb3, rb4, by omega⟩
    have npw := pw_nodup (pin_pw (s := 0) hT.a (by simp)).1
    have cpw := pw_nodup (cam_pw (s := 0) hT.a (by simp)).1
    have gpw := pw_nodup (goe_pw hT.b).1
    have hpl := pin_len (A := A) (s := 0)
    refine w_seq (w_asg (ew_meth (ew_var rfl ⟨os.length, rbFs p1 p2 p3 p4, rfl, rb0, rfl, aw_nil ?_⟩)))
    refine ⟨os.length, A, B, p1, p2, p3, p4, _, _, _, _, rfl, hBt, by omega, npw, fun hu0 => ?_, fun m hm hle => ?_⟩
    · dsimp only [List.set_cons_zero, List.set_cons_succ]
      repeat (walk_at "b")
      refine bw_notN0 ⟨_, rfl, br_F ?_⟩
      refine w_next ?_
      show W K _ _ _ _
      refine w_seq (w_asg (ew_call (aw_cons (ew_var rfl (aw_nil ⟨l1, A, rfl, by omega, ?_⟩)))))
      dsimp only [List.set_cons_zero, List.set_cons_succ]
      repeat (walk_at "b")
      refine ew_fld ?_
      repeat (walk_at "b")
      refine ⟨C, pfs l2 (spotsD B), .int l2, rfl, T.i.c, T.nl, rfl, ?_⟩
      repeat (walk_at "b")
      refine br_iteN (fun h0 => ?_) (fun h0 => ?_)
      · refine raise_at2 (i := min ((l1 : Int) + gr A) l2) ?_ (hL hu0 h0)
        repeat (walk_at "b")
        refine ew_fld ?_
        repeat (walk_at "b")
        refine ⟨C, pfs l2 (spotsD B), .int l2, rfl, T.i.c, T.nl, rfl, ?_⟩
        repeat (walk_at "b")
        exact cw_minM ⟨rfl, rfl⟩
      · obtain ⟨ss, hCh, hq⟩ := hQ hu0 h0
        obtain ⟨⟨L, hL1, hL2, hL3⟩, hok, hwt⟩ := hCh
        refine w_next ?_
        show W K _ _ _ _
        refine w_seq (w_asg ?_)
        refine ew_lc (wg_tup (wgs_cons mg_name (mgs_cons mg_name mgs_nil) (wg_name (by decide)) (wgs_cons mg_name mgs_nil (wg_name (by decide)) wgs_nil))) (mg_tup (mgs_cons mg_name (mgs_cons mg_name mgs_nil))) ?_
        refine iw_list (ew_meth (ew_var rfl ⟨os.length, rbFs p1 p2 p3 p4, rfl, rb0, rfl, aw_nil ?_⟩))
        refine ⟨os.length, A, B, p1, p2, p3, p4, _, _, _, _, rfl, hBt, by omega, by omega, cpw, gpw, _, rfl, ?_⟩
        have hsl := spans_len (A := A) (B := B)
        refine ⟨fun i acc os2 => os2 = rbS R os p1 p2 p3 p4 (cam 0 A) (pin 0 A) (goe B) (wan B) ∧ acc = (L.take i).map zD, ⟨rfl, rfl⟩, ?_, ?_⟩
        · rintro i d acc os2 hd ⟨rfl, rfl⟩
          rw [List.getElem?_map] at hd
          obtain ⟨⟨b, e⟩, hs, rfl⟩ := Option.map_eq_some_iff.mp hd
          have hz : ∃ z, L[i]? = some z ∧ spotO A B (b, e) = some z := by
            have h1 : ((spansOf A B).map (spotO A B))[i]? = (L.map some)[i]? := by rw [hL1]
            rw [List.getElem?_map, List.getElem?_map, hs] at h1
            have h2 : some (spotO A B (b, e)) = L[i]?.map some := h1
            cases hLi : L[i]? with
            | none =>
              rw [hLi] at h2
              cases h2
            | some z =>
              rw [hLi] at h2
              exact ⟨z, rfl, Option.some.inj h2⟩
          obtain ⟨z, hz1, hz2⟩ := hz
          have hi : i < L.length := (List.getElem?_eq_some_iff.mp hz1).1
          have ei : L[i] = z := (List.getElem?_eq_some_iff.mp hz1).2
          have hLl : L.length = (spansOf A B).length := by
            have := congrArg List.length hL1
            simpa using this.symm
          obtain ⟨zl1, zl2⟩ := hL2 z (List.mem_of_getElem? hz1)
          have hBt2 : Btw R (rbS R os p1 p2 p3 p4 (cam 0 A) (pin 0 A) (goe B) (wan B) ++ [.ml ((L.take i).map zD)]) os.length A B p1 p2 p3 p4 (os.length + 1) (os.length + 2) (os.length + 3) (os.length + 4) := ⟨app_at rb0, app_at rb1, app_at rb2, app_at rb3, app_at rb4, by omega⟩
          refine gw_tup rfl ?_
          repeat (walk_at "b")
          refine tw_yes (br_T ?_)
          refine ew_meth (ew_var rfl ⟨os.length, rbFs p1 p2 p3 p4, rfl, app_at rb0, rfl, aw_cons (ew_var rfl (aw_cons (ew_var rfl (aw_nil ?_))))⟩)
          refine ⟨os.length, b, e, A, B, p1, p2, p3, p4, _, _, _, _, z, rfl, hBt2, by omega, cam_le, goe_le, hz2, zl1, zl2, _, _, rfl, rfl, ?_, rfl, ?_⟩
          · rw [List.length_map, List.length_take, sizeLine_eq]
            omega
          · rw [← List.take_append_getElem hi, List.map_append, ei]
            rfl
        · rintro acc os2 ⟨rfl, rfl⟩
          have hLl : L.length = (spansOf A B).length := by
            have := congrArg List.length hL1
            simpa using this.symm
          rw [List.length_map, ← hLl, List.take_length]
          dsimp only [List.set_cons_zero, List.set_cons_succ]
          show W K _ _ _ _
          refine w_ret (ew_make (fun _ _ => .nil) (aw_cons (ew_fld (ew_var rfl ⟨C, pfs l1 (spotsD A), .int l1, rfl, T.i.c, T.nl, rfl, aw_cons ?_⟩))))
          refine ew_lc (wg_tup (wgs_cons mg_name (mgs_cons mg_name (mgs_cons mg_name mgs_nil)) (wg_name (by decide)) (wgs_cons mg_name (mgs_cons mg_name mgs_nil) (wg_name (by decide)) (wgs_cons mg_name mgs_nil (wg_name (by decide)) wgs_nil)))) (mg_tup (mgs_cons mg_name (mgs_cons mg_name (mgs_cons mg_name mgs_nil)))) ?_
          refine iw_list (ew_var rfl ⟨_, rfl, ?_⟩)
          refine ⟨fun i acc os2 => os2 = rbS R os p1 p2 p3 p4 (cam 0 A) (pin 0 A) (goe B) (wan B) ∧ acc = ((L.take i).filter big).map zD, ⟨rfl, rfl⟩, ?_, ?_⟩
          · rintro i d acc os2 hd ⟨rfl, rfl⟩
            rw [List.getElem?_map] at hd
            obtain ⟨⟨a, o, n⟩, hs, rfl⟩ := Option.map_eq_some_iff.mp hd
            have hi : i < L.length := (List.getElem?_eq_some_iff.mp hs).1
            have ei : L[i] = (a, o, n) := (List.getElem?_eq_some_iff.mp hs).2
            have hnext : (L.take (i + 1)).filter big = (L.take i).filter big ++ if 0 < o.length + n.length then [(a, o, n)] else [] := by
              rw [← List.take_append_getElem hi, List.filter_append, ei]
              congr 1
              by_cases hx : 0 < o.length + n.length <;> simp [big, hx]
            have hfl := List.length_filter_le big (L.take i)
            rw [List.length_take] at hfl
            refine gw_tup rfl ?_
            repeat (walk_at "b")
            rw [List.length_map, List.length_map]
            refine br_ite (fun hx => ?_) (fun hx => ?_)
            · repeat (walk_at "b")
              refine ⟨_, _, rfl, rfl, by rw [List.length_map, sizeLine_eq]; omega, rfl, ?_⟩
              rw [hnext, if_pos (by omega), List.map_append]
              rfl
            · refine ⟨_, rfl, rfl, ?_⟩
              rw [hnext, if_neg (by omega), List.append_nil]
          · rintro acc os2 ⟨rfl, rfl⟩
            rw [List.length_map, List.take_length, hL3, List.map_map]
            have eS : ss.map (zD ∘ sZ) = spotsD ss := rfl
            rw [eS]
            have hl := hT.la
            obtain ⟨i1, i2, i3, i4, i5⟩ := init_ok (ss := ss) hok (by omega) hwt
            refine aw_nil ⟨_, _, _, _, 10 ^ 30, rfl, rfl, .inr rfl, i1, i2, i3, i4, i5, rfl, _, _, rfl, ?_⟩
            show QA _ (List.take os.length (rbS R os p1 p2 p3 p4 (cam 0 A) (pin 0 A) (goe B) (wan B)))
            unfold rbS
            rw [List.take_left' rfl]
            exact hq
    · dsimp only [List.set_cons_zero, List.set_cons_succ]
      repeat (walk_at "b")
      refine bw_notNI ⟨_, rfl, br_T ?_⟩
      refine raise_at2 (i := (m : Int)) ?_ (hU m hm hle)
      repeat (walk_at "b")
      exact ⟨rfl, rfl⟩
end

open PySem PySem.Spec PyProof.Rows L2 Br
open Pm (Spot okS fitF hasO en gr)
def fLFit : FD := fun ds os QA _ => ∃ (len : Nat) (row : List Int) (ss : List Spot), ds = [.d (rowD row), .d (.tup (spotsD ss))] ∧ okS len 0 ss ∧ row.length = len ∧ row.length + Pm.wt ss ≤ 90000 ∧ QA (rowD (fitF row 0 ss)) os
/-- a row fitted, as from e on -/
theorem fit_from {row : List Int} {len : Nat} : ∀ {g : List Spot} {e l : Nat}, okS len l g → e ≤ l → e ≤ row.length → fitF row 0 g = row.take e ++ fitF row e g
  | [], e, l, _, _, he => by
    show row.drop 0 = row.take e ++ row.drop e
    rw [List.drop_zero, List.take_append_drop]
  | (a, o, n) :: g, e, l, hk, hel, he => by
    obtain ⟨h1, h2, h3, h4, h5, h6⟩ := hk
    have hae : e ≤ a := by omega
    show (row.drop 0).take (a - 0) ++ n ++ fitF row (a + o.length) g = row.take e ++ ((row.drop e).take (a - e) ++ n ++ fitF row (a + o.length) g)
    rw [List.drop_zero, Nat.sub_zero]
    have t : row.take a = row.take e ++ (row.drop e).take (a - e) := by
      rw [← List.take_append_drop e (row.take a), List.take_take, Nat.min_eq_left hae, List.drop_take]
    rw [t]
    simp only [List.append_assoc]
theorem fit_len {row : List Int} {len : Nat} : ∀ {g : List Spot} {e l : Nat}, okS len l g → e ≤ l → len ≤ row.length → (fitF row e g).length ≤ row.length - e + Pm.wt g
  | [], e, l, _, _, _ => by
    show (row.drop e).length ≤ _
    rw [List.length_drop]
    omega
  | (a, o, n) :: g, e, l, hk, hel, hl => by
    obtain ⟨h1, h2, h3, h4, h5, h6⟩ := hk
    have ih := fit_len (row := row) (g := g) (e := a + o.length) h6 (by omega) hl
    show ((row.drop e).take (a - e) ++ n ++ fitF row (a + o.length) g).length ≤ _
    rw [List.length_append, List.length_append, List.length_take, List.length_drop, Pm.wt_cons]
    simp only
    omega
section
variable {P : Program} {w : World} {K : PySem.W.Frag} {mg : Str → Option Value} {base : Heap}
abbrev s_l_fit : Stmt := topS 37
abbrev N_l_fit : List Str := ["_law_line", "_law_some", "_law_at", "_law_old", "_law_new"]
theorem sc_l_fit : FnScope N_l_fit ["_law_line", "_law_some"] (defScope s_l_fit) := ⟨rfl, rfl, rfl, by decide +kernel, rfl, by decide +kernel, by decide +kernel⟩
theorem ok_l_fit {f : Addr} {fd : FuncData} (F : Fun K "_law_fit" "_law_fit" s_l_fit f fd) (z_len : mg "len" = none) : FnOk P w K mg base CX0 1 f fd ["_law_line", "_law_some"] (spD K fLFit) := by
  refine F.ok sc_l_fit (fun vs H Q E h => ?_) (fun cdv A outer s H vs Q E hr h => ?_)
  · obtain ⟨as, os, ds, QA, EA, R, r, ⟨len, row, ss, rfl, _⟩, _⟩ := h
    rw [r.length]
    rfl
  · refine ⟨_, (pss_cons (ps_for PassesOwn.never rfl (pi_tup (pe_revT (pv 1))) (pg_tup (by rfl) (pgs_cons (pg_name (i := 2) sc_l_fit.nd rfl (Or.inl rfl)) (pgs_cons (pg_name (i := 3) sc_l_fit.nd rfl (Or.inl rfl)) (pgs_cons (pg_name (i := 4) sc_l_fit.nd rfl (Or.inl rfl)) pgs_nil))))
    (pss_one (ps_set (i := 0) sc_l_fit.nd rfl (Or.inl rfl) (pe_op op_catA (pe_op op_catA (pe_slice (r := rSlA K) sl_tupA (pv 0) po_none (po_some (pv 2))) (pv 4)) (pe_slice (r := rSlA K) sl_tupA (pv 0) (po_some (pe_op op_add (pv 2) (pe_callB call_lenA (by rfl) z_len PySem.boot_len (pa_cons (pv 3) pa_nil)))) po_none)))))
  (pss_one (ps_ret (pv 0)))), read_of h fun ds os QA EA hf => ?_⟩
    obtain ⟨len, row, ss, rfl, hk, hlen, hsz, q⟩ := hf
    try dsimp only [cxOf, Cx.nox, Cx.wish]
    show W K _ _ _ ⟨[some (.d (rowD row)), some (.d (.tup (spotsD ss))), none, none, none], os⟩
    repeat (walk_at "b")
    refine w_for (iw_tup ?_)
    repeat (walk_at "b")
    have drops : ∀ j, ∃ l, okS len l (ss.drop j) := by
      intro j
      induction j with
      | zero => exact ⟨0, hk⟩
      | succ j ih =>
        obtain ⟨l, h⟩ := ih
        cases hd : ss.drop j with
        | nil =>
          refine ⟨0, ?_⟩
          have : ss.drop (j + 1) = [] := by
            rw [← List.drop_drop, hd]
            rfl
          rw [this]
          exact True.intro
        | cons s g =>
          obtain ⟨a, o, n⟩ := s
          rw [hd] at h
          obtain ⟨_, _, _, _, _, h6⟩ := h
          refine ⟨_, (by
            have : ss.drop (j + 1) = g := by
              rw [← List.drop_drop, hd]
              rfl
            rw [this]
            exact h6)⟩
    have szd : ∀ j, Pm.wt (ss.drop j) ≤ Pm.wt ss := fun j => by
      have e : Pm.wt ss = Pm.wt (ss.take j) + Pm.wt (ss.drop j) := by
        unfold Pm.wt
        rw [← List.sum_append, ← List.map_append, List.take_append_drop]
      omega
    refine ⟨fun i S' => ∃ o2 o3 o4 : Option Sv, S' = ⟨[some (.d (rowD (fitF row 0 (ss.drop (ss.length - i))))), some (.d (.tup (spotsD ss))), o2, o3, o4], os⟩, ⟨_, _, _, by
      rw [Nat.sub_zero, List.drop_length]
      rfl⟩, ?_, ?_⟩
    · rintro i d S' hd ⟨o2, o3, o4, rfl⟩
      have hi : i < ss.length := by
        have := (List.getElem?_eq_some_iff.mp hd).1
        rw [List.length_reverse, List.length_map] at this
        exact this
      rw [List.getElem?_reverse (by rw [List.length_map]; exact hi), List.length_map, List.getElem?_map, List.getElem?_eq_getElem (by omega)] at hd
      have ed : d = spotD ss[ss.length - 1 - i] := by
        cases hd
        rfl
      obtain ⟨l, hok⟩ := drops (ss.length - 1 - i)
      have hsz2 := szd (ss.length - 1 - i)
      have hcons : ss.drop (ss.length - 1 - i) = ss[ss.length - 1 - i] :: ss.drop (ss.length - i) := by
        rw [List.drop_eq_getElem_cons (by omega), show ss.length - 1 - i + 1 = ss.length - i by omega]
      have e1 : ss.length - (i + 1) = ss.length - 1 - i := by omega
      rw [hcons] at hok hsz2
      have hnext : fitF row 0 (ss.drop (ss.length - (i + 1))) = fitF row 0 (ss[ss.length - 1 - i] :: ss.drop (ss.length - i)) := by rw [e1, hcons]
      revert hok hsz2 ed hnext
      generalize ss[ss.length - 1 - i] = s
      generalize ss.drop (ss.length - i) = g
      obtain ⟨a, o, n⟩ := s
      rintro rfl hok hsz2 hnext
      obtain ⟨h1, h2, h3, h4, h5, h6⟩ := hok
      rw [Pm.wt_cons] at hsz2
      simp only at hsz2
      have ff := fit_from (row := row) (e := a + o.length) h6 (by omega) (by omega)
      have fl := fit_len (row := row) (e := a + o.length) h6 (by omega) (by omega)
      refine gw_tup rfl ?_
      repeat (walk_at "b")
      refine sw_T ?_
      rw [cut_to]
      have t1 : (fitF row 0 g).take a = row.take a := by
        rw [ff, List.take_append_of_le_length (by rw [List.length_take]; omega), List.take_take, Nat.min_eq_left (by omega)]
      have t2 : (fitF row 0 g).drop (a + o.length) = fitF row (a + o.length) g := by
        rw [ff, List.drop_left' (by rw [List.length_take]; omega)]
      rw [t1]
      repeat (walk_at "b")
      refine bw_catT (by rw [List.length_map, List.length_map, List.length_take, sizeLine_eq]; omega) ?_
      rw [← List.map_append]
      repeat (walk_at "b")
      refine sw_T ?_
      rw [List.length_map, show ((a : Int) + (o.length : Int)) = ((a + o.length : Nat) : Int) by omega, cut_from, t2]
      refine bw_catT (by rw [List.length_map, List.length_map, List.length_append, List.length_take, sizeLine_eq]; omega) ?_
      rw [← List.map_append]
      repeat (walk_at "b")
      refine ⟨some (.d (.int a)), some (.d (rowD o)), some (.d (rowD n)), ?_⟩
      rw [hnext]
      have e2 : fitF row 0 ((a, o, n) :: g) = row.take a ++ n ++ fitF row (a + o.length) g := by
        show (row.drop 0).take (a - 0) ++ n ++ fitF row (a + o.length) g = _
        rw [List.drop_zero, Nat.sub_zero]
      rw [e2]
    · rintro S' ⟨o2, o3, o4, rfl⟩
      rw [List.length_reverse, List.length_map, Nat.sub_self, List.drop_zero]
      repeat (walk_at "b")
      exact ret_same q
end

open PySem PySem.Spec PyProof.Rows L2 Br
open Pm (Spot okS fitF hasO en gr leK unl Pt PtL Pat comp flip seenS backP)
def fBack (C : Addr) : FD := fun ds os QA _ => ∃ (l : Nat) (A : List Spot), ds = [.d (patO C l A)] ∧ okS l 0 A ∧ okS ((l : Int) + gr A).toNat 0 (Pm.inv 0 A) ∧ l ≤ 1000 ∧ Pm.wt A ≤ 1000 ∧ QA (patO C ((l : Int) + gr A).toNat (Pm.inv 0 A)) os
abbrev patD (C : Addr) (p : Pat) : D := patO C p.1 p.2
theorem pt_two {A B : List Spot} {l1 l2 : Nat} {w u v : List Int} {KA KB : Nat → Nat → Prop} (a : Pt l1 A w KA u) (b : Pt l2 B u KB v) (h1 : w.length ≤ 300) (h2 : u.length ≤ 300) (h3 : v.length ≤ 300) : Two l1 l2 A B := by
  have := a.len
  have := b.len
  have := a.wt
  have := b.wt
  exact ⟨a.ok, b.ok, by omega, by omega, by omega, by omega⟩
/-- put together, by rows that go that way -/
theorem chain_is {C M : Addr} {A B : List Spot} {l1 l2 : Nat} {w u v : List Int} {KA KB : Nat → Nat → Prop} {os : Os} {QA : D → Os → Prop} {EA : Xa} (a : Pt l1 A w KA u) (b : Pt l2 B u KB v) (h1 : w.length ≤ 300) (h2 : u.length ≤ 300) (h3 : v.length ≤ 300)
    (q : ∀ ss, Pt l1 ss w (comp KA KB) v → QA (patO C l1 ss) os) : fChained C M [.d (patO C l1 A), .d (patO C l2 B)] os QA EA := by
  obtain ⟨e1, e2, ss, ⟨L, m1, m2, m3⟩, hp⟩ := a.chain b
  refine ⟨l1, l2, A, B, rfl, pt_two a b h1 h2 h3, fun m hm => ?_, fun _ z => absurd e2 z, fun _ _ => ⟨ss, ⟨⟨L, m1, fun z hz => ?_, m3⟩, hp.ok, ?_⟩, q ss hp⟩⟩
  · rw [e1] at hm
    exact nomatch hm
  · have := m2 z hz
    omega
  · have := hp.wt
    have := hp.len
    omega
def fGroups (C : Addr) : FD := fun ds os QA _ => ∃ (k : Nat) (x : Sv) (ls : List Pat) (w v : List Int) (KK : Nat → Nat → Prop) (cells : List Int) (b : Int) (o : Os), ds = [.o k, x] ∧ lstS x os = some (ls.map (patD C)) ∧ Pn k cells b o os ∧ PtL ls w KK v ∧ ls.length ≤ 10 ∧ b < 2 ^ 36 ∧
  ∀ n S os', Pt n S w KK v → Pn k cells (b + 10) o os' → QA (patO C n S) os'
def fJoin (C : Addr) : FD := fun ds os QA _ => ∃ (x : Sv) (ls : List Pat) (w v : List Int) (KK : Nat → Nat → Prop), ds = [x] ∧ lstS x os = some (ls.map (patD C)) ∧ PtL ls w KK v ∧ ls.length ≤ 10 ∧
  ∀ n S, Pt n S w KK v → QA (patO C n S) os
section
variable {P : Program} {w : World} {K : PySem.W.Frag} {mg : Str → Option Value} {base : Heap}
abbrev s_turned_back : Stmt := topS 29
abbrev N_turned_back : List Str := ["patch", "spots", "number", "at", "old", "new"]
theorem sc_turned_back : FnScope N_turned_back ["patch"] (defScope s_turned_back) := ⟨rfl, rfl, rfl, by decide +kernel, rfl, by decide +kernel, by decide +kernel⟩
theorem ok_turned_back {C f a1 a2 a3 : Addr} {fd d1 d2 d3 : FuncData} (F : Fun K "turned_back" "turned_back" s_turned_back f fd) (T : Pcl K C) (z_enumerate : mg "enumerate" = none)
    (G_growth_of : FnOk P w K mg base CX0 1 a1 d1 ["spots"] (spD K fGrow)) (C_growth_of : Cal K mg "growth_of" a1 d1 ["spots"])
    (G_length_behind : FnOk P w K mg base CX0 2 a2 d2 ["patch"] (spD K (fLenB C))) (C_length_behind : Cal K mg "length_behind" a2 d2 ["patch"])
    (G_Patch : FnOk P w K mg base CX0 6 a3 d3 ["self", "length", "spots"] (spD K (fInit C))) (Y_Patch : Ycl K mg "Patch" C a3 d3 ["self", "length", "spots"]) : FnOk P w K mg base CX0 8 f fd ["patch"] (spD K (fBack C)) := by
  refine F.ok sc_turned_back (fun vs H Q E h => ?_) (fun cdv A outer s H vs Q E hr h => ?_)
  · obtain ⟨as, os, ds, QA, EA, R, r, ⟨l, A, rfl, _⟩, _⟩ := h
    rw [r.length]
    rfl
  · refine ⟨_, (pss_cons (ps_setLc (i := 1) (own := [("number", 2), ("at", 3), ("old", 4), ("new", 5)]) (g := (gTup _ 2 (gCons (gName 2) (gCons (gTup _ 3 (gCons (gName 3) (gCons (gName 4) (gCons (gName 5) gNil)))) gNil)))) rfl sc_turned_back.nd rfl rfl (sw_true rfl rfl rfl (by decide +kernel)) (pi_enA (by rfl) z_enumerate (pa_cons (pe_fldK (K := K) rfl (pv 0) rfl) pa_nil)) (blkOk_by (own := [("number", 2), ("at", 3), ("old", 4), ("new", 5)]) (N := N_turned_back) (sc := defScope s_turned_back) (by decide +kernel)) (fun _ _ _ _ _ => (pg_tup (by rfl) (pgs_cons (pg_name (i := 2) sc_turned_back.nd rfl (Or.inl rfl)) (pgs_cons (pg_tup (by rfl) (pgs_cons (pg_name (i := 3) sc_turned_back.nd rfl (Or.inl rfl)) (pgs_cons (pg_name (i := 4) sc_turned_back.nd rfl (Or.inl rfl)) (pgs_cons (pg_name (i := 5) sc_turned_back.nd rfl (Or.inl rfl)) pgs_nil)))) pgs_nil)))) (fun _ _ _ _ _ => pts_nil) (fun _ _ _ _ _ => (pe_tup (pa_cons (pe_op op_add (pv 3) (pe_call G_growth_of (hr.mono (by decide)) rfl C_growth_of.m C_growth_of.k C_growth_of.b .nil pass0 (pa_cons (pe_slice (r := rSlA K) sl_tupA (pe_fldK (K := K) rfl (pv 0) rfl) po_none (po_some (pv 2))) pa_nil))) (pa_cons (pv 5) (pa_cons (pv 4) pa_nil))))))
  (pss_one (ps_ret (pe_make Y_Patch.M G_Patch (hr.mono (by decide)) rfl Y_Patch.m Y_Patch.b .nil pass0 (pa_cons (pe_call G_length_behind (hr.mono (by decide)) rfl C_length_behind.m C_length_behind.k C_length_behind.b .nil pass0 (pa_cons (pv 0) pa_nil)) (pa_cons (pv 1) pa_nil)))))), read_of h fun ds os QA EA hf => ?_⟩
    obtain ⟨l, A, rfl, hA, hI, hl, hw, q⟩ := hf
    try dsimp only [cxOf, Cx.nox, Cx.wish]
    show W K _ _ _ ⟨[some (.d (.ob C (pfs l (spotsD A)))), none, none, none, none, none], os⟩
    have lA : A.length ≤ 1000 := Nat.le_trans wt_len hw
    refine w_seq (w_asg ?_)
    refine ew_lc (wg_tup (wgs_cons mg_name (mgs_cons (mg_tup (mgs_cons mg_name (mgs_cons mg_name (mgs_cons mg_name mgs_nil)))) mgs_nil) (wg_name (by decide)) (wgs_cons (mg_tup (mgs_cons mg_name (mgs_cons mg_name (mgs_cons mg_name mgs_nil)))) mgs_nil (wg_tup (wgs_cons mg_name (mgs_cons mg_name (mgs_cons mg_name mgs_nil)) (wg_name (by decide)) (wgs_cons mg_name (mgs_cons mg_name mgs_nil) (wg_name (by decide)) (wgs_cons mg_name mgs_nil (wg_name (by decide)) wgs_nil)))) wgs_nil))) (mg_tup (mgs_cons mg_name (mgs_cons (mg_tup (mgs_cons mg_name (mgs_cons mg_name (mgs_cons mg_name mgs_nil)))) mgs_nil))) ?_
    refine iw_en (aw_cons (ew_fld (ew_var rfl ⟨C, pfs l (spotsD A), .tup (spotsD A), rfl, T.i.c, T.ns, rfl, aw_nil ⟨spotsD A, .inl rfl, ?_⟩⟩)))
    refine ⟨fun i acc os2 => os2 = os ∧ acc = spotsD (Pm.inv 0 (A.take i)), ⟨rfl, rfl⟩, ?_, ?_⟩
    · rintro i d acc os2 hd ⟨rfl, rfl⟩
      obtain ⟨x, hx, rfl⟩ := enumD_get hd
      rw [List.getElem?_map] at hx
      obtain ⟨⟨a, o, n⟩, hs, rfl⟩ := Option.map_eq_some_iff.mp hx
      have hi : i < A.length := (List.getElem?_eq_some_iff.mp hs).1
      have ei : A[i] = (a, o, n) := (List.getElem?_eq_some_iff.mp hs).2
      obtain ⟨g1, _, _, _⟩ := Pm.cam_lt (s := 0) hA (by simp) hs
      have eI : Pm.inv 0 (A.take (i + 1)) = Pm.inv 0 (A.take i) ++ [(((a : Int) + gr (A.take i)).toNat, n, o)] := by
        rw [← List.take_append_getElem hi, ei, Pm.inv_app, Int.zero_add]
        rfl
      have hb : ((((a : Int) + gr (A.take i)).toNat : Nat) : Int) = (a : Int) + gr (A.take i) := Int.toNat_of_nonneg (by omega)
      refine gw_tup rfl ?_
      repeat (walk_at "b")
      refine gw_tup rfl ?_
      repeat (walk_at "b")
      refine tw_yes (br_T ?_)
      refine ew_tup2 (aw_cons (ew_op (ew_var rfl (ew_call (aw_cons (ew_sl (ew_fld (ew_var rfl ⟨C, pfs l (spotsD A), .tup (spotsD A), rfl, T.i.c, T.ns, rfl, ow_none (ow_some (ew_var rfl ⟨_, rfl, sw_T ?_⟩))⟩))))))))
      rw [Int.zero_add, cut_take (by rw [List.length_map]; omega), ← List.map_take]
      refine aw_nil ⟨A.take i, _, rfl, .inl rfl, by rw [List.length_take]; omega, bw_i0 (aw_cons (ew_var rfl (aw_cons (ew_var rfl (aw_nil ⟨_, rfl, by show 3 ≤ sizeLine; decide, _, _, rfl, rfl, ?_, rfl, ?_⟩)))))⟩
      · rw [List.length_map, Pm.inv_len, List.length_take, sizeLine_eq]
        omega
      · rw [eI, spotsD_app, ← hb]
        rfl
    · rintro acc os2 ⟨rfl, rfl⟩
      rw [enumD_len, List.length_map, List.take_length]
      dsimp only [List.set_cons_zero, List.set_cons_succ]
      show W K _ _ _ _
      refine w_ret (ew_make (fun _ _ => .nil) (aw_cons (ew_call (aw_cons (ew_var rfl (aw_nil ⟨l, A, rfl, by omega, aw_cons (ew_var rfl (aw_nil ?_))⟩))))))
      have hg := Pm.gr_hi A
      have hn0 := Pm.len_nn hA
      obtain ⟨i1, i2, i3, i4, i5⟩ := init_okB (ss := Pm.inv 0 A) hI (by omega) (by rw [Pm.wt_inv]; omega)
      exact ⟨os2, ((l : Int) + gr A).toNat, _, _, 10 ^ 30, by rw [Int.toNat_of_nonneg hn0]; rfl, rfl, .inr rfl, i1, i2, i3, i4, i5, rfl, os2, _, rfl, ret_same q⟩
abbrev s_l_joined_up : Stmt := topS 39
abbrev N_l_joined_up : List Str := ["_law_some", "_law_found", "_law_made"]
theorem sc_l_joined_up : FnScope N_l_joined_up ["_law_some"] (defScope s_l_joined_up) := ⟨rfl, rfl, rfl, by decide +kernel, rfl, by decide +kernel, by decide +kernel⟩
theorem ok_l_joined_up {C M f a1 : Addr} {fd d1 : FuncData} (F : Fun K "_law_joined_up" "_law_joined_up" s_l_joined_up f fd)
    (G_chained : FnOk P w K mg base (CX P w) 8 a1 d1 ["one", "other"] (spD K (fChained C M))) (C_chained : Cal K mg "chained" a1 d1 ["one", "other"]) : FnOk P w K mg base CX0 9 f fd ["_law_some"] (spD K (fJoin C)) := by
  refine F.ok sc_l_joined_up (fun vs H Q E h => ?_) (fun cdv A outer s H vs Q E hr h => ?_)
  · obtain ⟨as, os, ds, QA, EA, R, r, ⟨x, ls, _, _, _, rfl, _⟩, _⟩ := h
    rw [r.length]
    rfl
  · refine ⟨_, (pss_cons (ps_set (i := 1) sc_l_joined_up.nd rfl (Or.inl rfl) (pe_ix (r := rIxL K) ix_list (pv 0) pe_int (fun _ _ => rfl)))
  (pss_cons (ps_for PassesOwn.never rfl (pi_list (pe_slice sl_list (pv 0) (po_some pe_int) po_none)) (pg_name (i := 2) sc_l_joined_up.nd rfl (Or.inl rfl))
    (pss_one (ps_set (i := 1) sc_l_joined_up.nd rfl (Or.inl rfl) (pe_callS G_chained (hr.mono (by decide)) rfl C_chained.m C_chained.k C_chained.b (fun σ => passAt LamX.takes0 σ) (pa_cons (pv 1) (pa_cons (pv 2) pa_nil))))))
  (pss_one (ps_ret (pv 1))))), read_of h fun ds os QA EA hf => ?_⟩
    obtain ⟨x, ls, ww, v, KK, rfl, hx, hP, hl, q⟩ := hf
    try dsimp only [cxOf, Cx.nox, Cx.wish]
    show W K _ _ _ ⟨[some x, none, none], os⟩
    cases ls with
    | nil => exact hP.elim
    | cons p0 rest =>
      refine w_seq (w_asg (ew_op (ew_var rfl (ew_int (bw_ixS2 hx (atI_nat (j := 0) rfl) ?_)))))
      dsimp only [List.set_cons_zero, List.set_cons_succ]
      refine w_seq (w_for (iw_list (ew_sl (ew_var rfl (ow_some (ew_int ⟨1, rfl, ow_none (sw_S2 hx ?_)⟩))))))
      rw [show Br.cutD ((p0 :: rest).map (patD C)) (some 1) none = rest.map (patD C) by
        rw [show (1 : Int) = ((1 : Nat) : Int) from rfl, cut_drop (j := 1) (by simp)]
        rfl]
      refine ⟨_, rfl, fun i S' => ∃ (c : Pat) (o2 : Option Sv), S' = ⟨[some x, some (.d (patD C c)), o2], os⟩ ∧ PtL (c :: rest.drop i) ww KK v, ⟨p0, _, rfl, hP⟩, ?_, ?_⟩
      · rintro i d S' hd ⟨c, o2, rfl, hc⟩
        rw [List.getElem?_map] at hd
        obtain ⟨p1, hs, rfl⟩ := Option.map_eq_some_iff.mp hd
        have hi : i < rest.length := (List.getElem?_eq_some_iff.mp hs).1
        have ei : rest[i] = p1 := (List.getElem?_eq_some_iff.mp hs).2
        rw [List.drop_eq_getElem_cons hi, ei] at hc
        obtain ⟨u1, u2, u3, K1, K2, a, b, h1, h2, h3, rep⟩ := Pm.PtL_rep (pre := []) hc
        refine gw_name ?_
        dsimp only [List.set_cons_zero, List.set_cons_succ]
        refine w_asg (ew_callS00 (aw_cons (ew_var rfl (aw_cons (ew_var rfl (aw_nil ?_))))))
        refine chain_is a b h1 h2 h3 fun ss hss => ?_
        exact ⟨(c.1, ss), some (.d (patD C p1)), rfl, rep (c.1, ss) hss⟩
      · rintro S' ⟨c, o2, rfl, hc⟩
        rw [List.length_map, List.drop_length] at hc
        show W K _ _ _ _
        refine w_ret (ew_var rfl ?_)
        exact ret_same (q _ _ hc.1)
abbrev s_l_in_groups : Stmt := topS 38
abbrev N_l_in_groups : List Str := ["_law_feed_here", "_law_some", "_law_left", "_law_at"]
theorem sc_l_in_groups : FnScope N_l_in_groups ["_law_feed_here", "_law_some"] (defScope s_l_in_groups) := ⟨rfl, rfl, rfl, by decide +kernel, rfl, by decide +kernel, by decide +kernel⟩
theorem ok_l_in_groups {C M f a1 a2 : Addr} {fd d1 d2 : FuncData} (F : Fun K "_law_in_groups" "_law_in_groups" s_l_in_groups f fd) (z_list : mg "list" = none) (z_len : mg "len" = none)
    (G_l_draw : FnOk P w K mg base CX0 1 a2 d2 ["_law_feed_here", "_law_many"] (spD K fDraw)) (C_l_draw : Cal K mg "_law_draw" a2 d2 ["_law_feed_here", "_law_many"])
    (G_chained : FnOk P w K mg base (CX P w) 8 a1 d1 ["one", "other"] (spD K (fChained C M))) (C_chained : Cal K mg "chained" a1 d1 ["one", "other"]) : FnOk P w K mg base CX0 9 f fd ["_law_feed_here", "_law_some"] (spD K (fGroups C)) := by
  refine F.ok sc_l_in_groups (fun vs H Q E h => ?_) (fun cdv A outer s H vs Q E hr h => ?_)
  · obtain ⟨as, os, ds, QA, EA, R, r, ⟨k, x, ls, _, _, _, _, _, _, rfl, _⟩, _⟩ := h
    rw [r.length]
    rfl
  · refine ⟨_, (pss_cons (ps_set (i := 2) sc_l_in_groups.nd rfl (Or.inl rfl) (pe_callTy call_lstA (by rfl) z_list (by decide +kernel) (pa_cons (pv 1) pa_nil)))
  (pss_cons (ps_while PassesOwn.never (pt_cmpR op_gt (pe_callB call_lenA (by rfl) z_len PySem.boot_len (pa_cons (pv 2) pa_nil)) pe_int (nomark _))
    (pss_cons (ps_set (i := 3) sc_l_in_groups.nd rfl (Or.inl rfl) (pe_call G_l_draw (hr.mono (by decide)) rfl C_l_draw.m C_l_draw.k C_l_draw.b .nil pass0 (pa_cons (pv 0) (pa_cons (pe_op op_sub (pe_callB call_lenA (by rfl) z_len PySem.boot_len (pa_cons (pv 2) pa_nil)) pe_int) pa_nil))))
    (pss_one (ps_set (i := 2) sc_l_in_groups.nd rfl (Or.inl rfl) (pe_op op_catL (pe_op op_catL (pe_slice sl_list (pv 2) po_none (po_some (pv 3))) (pe_lst (pa_cons (pe_callS G_chained (hr.mono (by decide)) rfl C_chained.m C_chained.k C_chained.b (fun σ => passAt LamX.takes0 σ) (pa_cons (pe_ix (r := rIxL K) ix_list (pv 2) (pv 3) (fun _ _ => rfl)) (pa_cons (pe_ix (r := rIxL K) ix_list (pv 2) (pe_op op_add (pv 3) pe_int) (fun _ _ => rfl)) pa_nil))) pa_nil))) (pe_slice sl_list (pv 2) (po_some (pe_op op_add (pv 3) pe_int)) po_none))))))
  (pss_one (ps_ret (pe_ix (r := rIxL K) ix_list (pv 2) pe_int (fun _ _ => rfl)))))), read_of h fun ds os QA EA hf => ?_⟩
    obtain ⟨k, x, ls, ww, v, KK, cells, b, o, rfl, hx, ho, hP, hl, hb, q⟩ := hf
    try dsimp only [cxOf, Cx.nox, Cx.wish]
    show W K _ _ _ ⟨[some (.o k), some x, none, none], os⟩
    refine w_seq (w_asg (ew_cb (aw_cons (ew_var rfl (aw_nil (cw_lstS2 hx ?_))))))
    dsimp only [List.set_cons_zero, List.set_cons_succ]
    refine w_seq (w_while (fun m S' => ∃ (l2 : List Pat) (o3 : Option Sv) (os2 : Os), S' = ⟨[some (.o k), some x, some (.d (.lst (l2.map (patD C)))), o3], os2⟩ ∧ m = l2.length ∧ PtL l2 ww KK v ∧ l2.length ≤ ls.length ∧ Pn k cells (b + (ls.length - l2.length : Nat)) o os2) _ ⟨ls, _, os, rfl, rfl, hP, Nat.le_refl _, by rw [Nat.sub_self]; simpa using ho⟩ ?_)
    rintro m S' ⟨l2, o3, os2, rfl, rfl, hP2, hl2, ho2⟩
    repeat (walk_at "b")
    rw [List.length_map]
    refine br_ite (fun h0 => ?_) (fun h0 => ?_)
    · have h0' : 1 < l2.length := by omega
      repeat (walk_at "b")
      rw [List.length_map]
      refine ⟨k, (l2.length : Int) - 1, cells, b + (ls.length - l2.length : Nat), o, rfl, ho2, by omega, by omega, fun d os3 d0 d1 ho3 => ?_⟩
      obtain ⟨d, rfl⟩ := Int.eq_ofNat_of_zero_le d0
      have hd : d + 1 < l2.length := by omega
      have e1 : l2 = l2.take d ++ l2[d] :: l2[d + 1] :: l2.drop (d + 2) := by
        rw [← List.drop_eq_getElem_cons hd, ← List.drop_eq_getElem_cons (by omega), List.take_append_drop]
      have hP3 := hP2
      rw [e1] at hP3
      obtain ⟨u1, u2, u3, K1, K2, a, c, h1, h2, h3, rep⟩ := Pm.PtL_rep hP3
      refine gw_name ?_
      dsimp only [List.set_cons_zero, List.set_cons_succ]
      refine w_asg (ew_op (ew_op (ew_sl (ew_var rfl (ow_none (ow_some (ew_var rfl ⟨_, rfl, sw_S2 (ds := l2.map (patD C)) rfl ?_⟩))))))) 
      rw [cut_take (by rw [List.length_map]; omega), ← List.map_take]
      refine ew_lst2 (aw_cons (ew_callS00 (aw_cons (ew_op (ew_var rfl (ew_var rfl (bw_ixS2 (ds := l2.map (patD C)) (z := patD C l2[d]) rfl (atI_nat (by rw [List.getElem?_map, List.getElem?_eq_getElem (by omega)]; rfl)) ?_)))))))
      refine aw_cons (ew_op (ew_var rfl (ew_op (ew_var rfl (ew_int (bw_i0 ?_))))))
      rw [show (d : Int) + 1 = ((d + 1 : Nat) : Int) by omega]
      refine bw_ixS2 (ds := l2.map (patD C)) (z := patD C l2[d + 1]) rfl (atI_nat (by rw [List.getElem?_map, List.getElem?_eq_getElem hd]; rfl)) (aw_nil ?_)
      refine chain_is a c h1 h2 h3 fun ss hss => aw_nil ⟨_, rfl, by show 1 ≤ sizeLine; decide, bw_catL (by rw [List.length_map, List.length_take, sizeLine_eq]; simp only [List.length_cons, List.length_nil]; omega) ?_⟩
      refine ew_sl (ew_var rfl (ow_some (ew_op (ew_var rfl (ew_int (bw_i0 ⟨_, rfl, ow_none (sw_S2 (ds := l2.map (patD C)) rfl ?_)⟩))))))
      rw [show (d : Int) + 2 = ((d + 2 : Nat) : Int) by omega, cut_drop (by rw [List.length_map]; omega), ← List.map_drop]
      refine bw_catL (by simp only [List.length_append, List.length_map, List.length_take, List.length_drop, List.length_cons, List.length_nil, sizeLine_eq]; omega) ?_
      have hr := rep (l2[d].1, ss) hss
      have hlen : (l2.take d ++ (l2[d].1, ss) :: l2.drop (d + 2)).length = l2.length - 1 := by
        simp only [List.length_append, List.length_take, List.length_cons, List.length_drop]
        omega
      refine ⟨l2.length - 1, by omega, l2.take d ++ (l2[d].1, ss) :: l2.drop (d + 2), some (.d (.int (d : Int))), os3, ?_, hlen.symm, hr, by omega, ho3.mono (by rw [hlen]; omega)⟩
      dsimp only [List.set_cons_zero, List.set_cons_succ]
      rw [List.map_append, List.map_cons, List.append_assoc]
      rfl
    · cases l2 with
      | nil => exact hP2.elim
      | cons p rest =>
        have hr0 : rest = [] := List.eq_nil_of_length_eq_zero (by simp only [List.length_cons] at h0; omega)
        subst hr0
        refine w_ret (ew_op (ew_var rfl (ew_int (bw_ixS2 (ds := [patD C p]) rfl (atI_nat (j := 0) rfl) ?_))))
        exact ho.ret ho2 (q p.1 p.2 os2 hP2.1 (ho2.mono (by omega)))
end

open PySem PySem.Spec PyProof.Rows L2 Br
open Pm (Spot okS fitF hasO en gr leK unl Pt PtL Pat comp flip seenS backP spP)
theorem spots_refl (ss : List Spot) : PyData.eqv (.tuple (ss.map spP)) (.tuple (ss.map spP)) = true := PySem.SeqAt.eqv_refl _ (by
  show PyData.canLayAll0 (ss.map spP) = true
  exact Pm.spPs_lay ss)
theorem bw_neSame {K : PySem.W.Frag} {C : Addr} {n : Nat} {S : List Spot} {os : Os} {Q : Sv → Os → Prop} (q : Q (.d (.bl false)) os) : BW K (rNeIns K C (spD K (fEq C))) (.d (patO C n S)) (.d (patO C n S)) os Q := by
  refine bw_neIns ⟨(n : Int), (n : Int), spotsD S, spotsD S, _, _, rfl, spots_py S, spots_py S, Pm.spPs_shapedT S, Pm.spPs_shapedT S, _, rfl, ?_⟩
  rw [decide_eq_true rfl, spots_refl]
  exact q
/-- two that go the same way -/
theorem bw_neWay {K : PySem.W.Frag} {C : Addr} {n m : Nat} {S T : List Spot} {w v : List Int} {KK : Nat → Nat → Prop} {os : Os} {Q : Sv → Os → Prop} (a : Pt n S w KK v) (b : Pt m T w KK v) (q : Q (.d (.bl false)) os) : BW K (rNeIns K C (spD K (fEq C))) (.d (patO C n S)) (.d (patO C m T)) os Q := by
  obtain ⟨e1, e2⟩ := a.uniq b
  subst e1
  subst e2
  exact bw_neSame q
def fSeen (C : Addr) : FD := fun ds os QA _ => ∃ (x y : Sv) (ls : List Pat) (lines : List (List Int)), ds = [x, y] ∧ lstS x os = some (ls.map (patD C)) ∧ lstS y os = some (lines.map rowD) ∧ ls.length ≤ 10 ∧ (∀ r ∈ lines, r.length ≤ 300) ∧
  (∀ i p, ls[i]? = some p → ∃ w v KK, lines[i]? = some w ∧ lines[i + 1]? = some v ∧ Pt p.1 p.2 w KK v) ∧ QA (.bl true) os
theorem seen_step {S : List Spot} {i : Nat} (hi : i < S.length) {a : Nat} {o n : List Int} (ei : S[i] = (a, o, n)) : seenS (S.take (i + 1)) = seenS (S.take i) ++ if o = [] then [] else [(a, o, o)] := by
  rw [← List.take_append_getElem hi, ei]
  unfold seenS
  rw [List.filter_append, List.map_append]
  congr 1
  by_cases h : o = []
  · subst h
    rfl
  · rw [if_neg h, List.filter_cons_of_pos (by simpa using h)]
    rfl
section
variable {P : Program} {w : World} {K : PySem.W.Frag} {mg : Str → Option Value} {base : Heap}
abbrev s_l_are_seen : Stmt := topS 40
abbrev N_l_are_seen : List Str := ["_law_some", "_law_lines", "_law_k", "_law_made", "_law_seen", "_law_back", "_law_at", "_law_old", "_law_new"]
theorem sc_l_are_seen : FnScope N_l_are_seen ["_law_some", "_law_lines"] (defScope s_l_are_seen) := ⟨rfl, rfl, rfl, by decide +kernel, rfl, by decide +kernel, by decide +kernel⟩
theorem ok_l_are_seen {C M f a1 a2 a3 a4 : Addr} {fd d1 d2 d3 d4 : FuncData} (F : Fun K "_law_are_seen" "_law_are_seen" s_l_are_seen f fd) (T : Pcl K C) (z_range : mg "range" = none) (z_tuple : mg "tuple" = none) (z_len : mg "len" = none)
    (G_turned_back : FnOk P w K mg base CX0 8 a1 d1 ["patch"] (spD K (fBack C))) (C_turned_back : Cal K mg "turned_back" a1 d1 ["patch"])
    (KB_turned_back_patch : KBn K d1 ["patch"] 0 ["patch"] (fun _ zs => zs) (fun _ zs => zs))
    (G_chained : FnOk P w K mg base (CX P w) 8 a2 d2 ["one", "other"] (spD K (fChained C M))) (C_chained : Cal K mg "chained" a2 d2 ["one", "other"])
    (G_Patch : FnOk P w K mg base CX0 6 a3 d3 ["self", "length", "spots"] (spD K (fInit C))) (Y_Patch : Ycl K mg "Patch" C a3 d3 ["self", "length", "spots"])
    (Q_Patch : EqC K C a4) (T_Patch : PySem.W.typeIn K (.ref a4) = some (.type "function")) (E_Patch : FnOk P w K mg base CX0 1 a4 d4 ["self", "other"] (spD K (fEq C))) (B_Patch : Binds K d4 ["self", "other"] []) : FnOk P w K mg base CX0 10 f fd ["_law_some", "_law_lines"] (spD K (fSeen C)) := by
  refine F.ok sc_l_are_seen (fun vs H Q E h => ?_) (fun cdv A outer s H vs Q E hr h => ?_)
  · obtain ⟨as, os, ds, QA, EA, R, r, ⟨x, y, _, _, rfl, _⟩, _⟩ := h
    rw [r.length]
    rfl
  · have hu64 : (A.deeper (envOfC "_law_are_seen" (defScope s_l_are_seen) s.heap.objs.size f cdv)).units + 64 < cLine := by
      have := hr.un
      omega
    refine ⟨_, (pss_cons (ps_for PassesOwn.never rfl (pi_range1 (by rfl) z_range (pa_cons (pe_callB call_lenA (by rfl) z_len PySem.boot_len (pa_cons (pv 0) pa_nil)) pa_nil)) (pg_name (i := 2) sc_l_are_seen.nd rfl (Or.inl rfl))
    (pss_cons (ps_set (i := 3) sc_l_are_seen.nd rfl (Or.inl rfl) (pe_ix (r := rIxL K) ix_list (pv 0) (pv 2) (fun _ _ => rfl)))
    (pss_cons (ps_set (i := 4) sc_l_are_seen.nd rfl (Or.inl rfl) (pe_callTy call_tupA (by rfl) z_tuple (by decide +kernel) (pa_cons (pe_lc (own := [("_law_at", 6), ("_law_old", 7), ("_law_new", 8)]) (g := (gTup _ 3 (gCons (gName 6) (gCons (gName 7) (gCons (gName 8) gNil))))) rfl sc_l_are_seen.nd (pi_tup (pe_fldK (K := K) rfl (pv 3) rfl)) (blkOk_by (own := [("_law_at", 6), ("_law_old", 7), ("_law_new", 8)]) (N := N_l_are_seen) (sc := defScope s_l_are_seen) (by decide +kernel)) (fun _ _ _ _ _ => (pg_tup (by rfl) (pgs_cons (pg_name (i := 6) sc_l_are_seen.nd rfl (Or.inl rfl)) (pgs_cons (pg_name (i := 7) sc_l_are_seen.nd rfl (Or.inl rfl)) (pgs_cons (pg_name (i := 8) sc_l_are_seen.nd rfl (Or.inl rfl)) pgs_nil))))) (fun _ _ _ _ _ => (pts_one (pt_cmpR (r := rNeNilT K) (op_neNilT hu64) (pv 7) (pe_tup pa_nil) (nomark _)))) (fun _ _ _ _ _ => (pe_tup (pa_cons (pv 6) (pa_cons (pv 7) (pa_cons (pv 7) pa_nil)))))) pa_nil)))
    (pss_cons (ps_set (i := 5) sc_l_are_seen.nd rfl (Or.inl rfl) (pe_callN0 G_turned_back (hr.mono (by decide)) rfl C_turned_back.m C_turned_back.k KB_turned_back_patch pass0 (pk_cons (pv 3) pk_nil)))
    (pss_one (ps_if (PW.pt (pw_or (pt_cmpR (op_neIns Q_Patch T_Patch E_Patch B_Patch (hr.mono (by decide))) (pe_callS G_chained (hr.mono (by decide)) rfl C_chained.m C_chained.k C_chained.b (fun σ => passAt LamX.takes0 σ) (pa_cons (pv 3) (pa_cons (pv 5) pa_nil))) (pe_make Y_Patch.M G_Patch (hr.mono (by decide)) rfl Y_Patch.m Y_Patch.b .nil pass0 (pa_cons (pe_fldK (K := K) rfl (pv 3) rfl) (pa_cons (pv 4) pa_nil))) (nomark _)) (pw_or1 (pt_cmpR op_ne (pe_fldK (K := K) rfl (pv 5) rfl) (pe_callB call_lenA (by rfl) z_len PySem.boot_len (pa_cons (pe_ix (r := rIxL K) ix_list (pv 1) (pe_op op_add (pv 2) pe_int) (fun _ _ => rfl)) pa_nil)) (nomark _))))) (pss_one (ps_ret pe_bl)) pss_nil))))))
  (pss_one (ps_ret pe_bl))), read_of h fun ds os QA EA hf => ?_⟩
    obtain ⟨x, y, ls, lines, rfl, hx, hy, hl, hb, hP, q⟩ := hf
    try dsimp only [cxOf, Cx.nox, Cx.wish]
    show W K _ _ _ ⟨[some x, some y, none, none, none, none, none, none, none], os⟩
    refine w_seq (w_for (iw_rng1 (aw_cons (ew_cb (aw_cons (ew_var rfl (aw_nil (cw_lenS2 hx (aw_nil ?_)))))))))
    rw [List.length_map]
    refine ⟨_, rfl, by omega, by omega, fun i S' => ∃ o2 o3 o4 o5 o6 o7 o8 : Option Sv, S' = ⟨[some x, some y, o2, o3, o4, o5, o6, o7, o8], os⟩, ⟨_, _, _, _, _, _, _, rfl⟩, ?_, ?_⟩
    · rintro i d S' hd ⟨o2, o3, o4, o5, o6, o7, o8, rfl⟩
      obtain ⟨hi, rfl⟩ := rngD_get hd
      have hi : i < ls.length := by simpa using hi
      obtain ⟨⟨n, S⟩, hp⟩ : ∃ p, ls[i]? = some p := ⟨ls[i], List.getElem?_eq_getElem hi⟩
      obtain ⟨ww, v, KK, hw, hv, pt⟩ := hP i _ hp
      have lw := hb ww (List.mem_of_getElem? hw)
      have lv := hb v (List.mem_of_getElem? hv)
      have wt := pt.wt
      have ln := pt.len
      simp only at pt wt ln
      refine gw_name ?_
      dsimp only [List.set_cons_zero, List.set_cons_succ]
      rw [Int.zero_add, Int.mul_one]
      refine w_seq (w_asg (ew_op (ew_var rfl (ew_var rfl (bw_ixS2 hx (z := patO C n S) (atI_nat (by rw [List.getElem?_map, hp]; rfl)) ?_)))))
      dsimp only [List.set_cons_zero, List.set_cons_succ]
      refine w_seq (w_asg (ew_cb (aw_cons ?_)))
      refine ew_lc (wg_tup (wgs_cons mg_name (mgs_cons mg_name (mgs_cons mg_name mgs_nil)) (wg_name (by decide)) (wgs_cons mg_name (mgs_cons mg_name mgs_nil) (wg_name (by decide)) (wgs_cons mg_name mgs_nil (wg_name (by decide)) wgs_nil)))) (mg_tup (mgs_cons mg_name (mgs_cons mg_name (mgs_cons mg_name mgs_nil)))) ?_
      refine iw_tup (ew_fld (ew_var rfl ⟨C, pfs n (spotsD S), .tup (spotsD S), rfl, T.i.c, T.ns, rfl, _, rfl, ?_⟩))
      have lS : S.length ≤ 1000 := Nat.le_trans wt_len (by omega)
      refine ⟨fun j acc os2 => os2 = os ∧ acc = spotsD (seenS (S.take j)), ⟨rfl, rfl⟩, ?_, ?_⟩
      · rintro j d acc os2 hd2 ⟨rfl, rfl⟩
        rw [List.getElem?_map] at hd2
        obtain ⟨⟨a, o, m⟩, hs, rfl⟩ := Option.map_eq_some_iff.mp hd2
        have hj : j < S.length := (List.getElem?_eq_some_iff.mp hs).1
        have ej : S[j] = (a, o, m) := (List.getElem?_eq_some_iff.mp hs).2
        have hst := seen_step hj ej
        have hsl : (seenS (S.take j)).length ≤ j := by
          unfold seenS
          rw [List.length_map]
          have := List.length_filter_le (fun s : Spot => !s.2.1.isEmpty) (S.take j)
          rw [List.length_take] at this
          omega
        refine gw_tup rfl ?_
        repeat (walk_at "b")
        cases o with
        | nil =>
          refine br_F ?_
          refine ⟨_, rfl, rfl, ?_⟩
          rw [hst, if_pos rfl, List.append_nil]
        | cons x0 r0 =>
          refine br_T ?_
          repeat (walk_at "b")
          refine ⟨_, _, rfl, rfl, by rw [List.length_map, sizeLine_eq]; omega, rfl, ?_⟩
          rw [hst, if_neg (by simp), spotsD_app]
          rfl
      · rintro acc os2 ⟨rfl, rfl⟩
        rw [List.length_map, List.take_length]
        refine aw_nil (cw_tupL ?_)
        dsimp only [List.set_cons_zero, List.set_cons_succ]
        have ptb := pt.back (p := (n, S))
        have pts := pt.seen
        refine w_seq (w_asg (ew_callN (n := 0) (m := 1) (gS := fun _ es => es) (fun as H vs zs ds es a b => b) (aw_nil ⟨rfl, aw_cons (ew_var rfl (aw_nil ⟨rfl, n, S, rfl, pt.ok, ptb.ok, by omega, by omega, ?_⟩))⟩)))
        dsimp only [List.set_cons_zero, List.set_cons_succ]
        repeat (walk_at "b")
        refine ew_callS00 ?_
        repeat (walk_at "b")
        refine chain_is pt ptb lw lv lw fun ss hss => ?_
        repeat (walk_at "b")
        refine ew_make (fun _ _ => .nil) (aw_cons (ew_fld (ew_var rfl ⟨C, pfs n (spotsD S), .int n, rfl, T.i.c, T.nl, rfl, aw_cons (ew_var rfl (aw_nil ?_))⟩)))
        have wts := pts.wt
        obtain ⟨i1, i2, i3, i4, i5⟩ := init_okB (ss := seenS S) pts.ok (by omega) (by omega)
        refine ⟨os2, n, _, _, 10 ^ 30, rfl, rfl, .inl rfl, i1, i2, i3, i4, i5, rfl, os2, _, rfl, ?_⟩
        refine bw_neWay (w := ww) (v := ww) hss pts ⟨_, rfl, br_F ?_⟩
        refine tw_test (ew_op (ew_fld (ew_var rfl ⟨C, pfs ((n : Int) + gr S).toNat (spotsD (Pm.inv 0 S)), .int ((n : Int) + gr S).toNat, rfl, T.i.c, T.nl, rfl, ?_⟩)))
        refine ew_cb (aw_cons (ew_op (ew_var rfl (ew_op (ew_var rfl (ew_int (bw_i0 ?_)))))))
        rw [show (i : Int) + 1 = ((i + 1 : Nat) : Int) by omega]
        refine bw_ixS2 hy (z := rowD v) (atI_nat (by rw [List.getElem?_map, hv]; rfl)) (aw_nil (cw_lenU ?_))
        rw [List.length_map]
        have elv : (((n : Int) + gr S).toNat : Int) = (v.length : Int) := by
          have := pt.lv
          omega
        refine bw_neI ⟨_, rfl, br_iteN (fun h => absurd elv h) fun _ => ?_⟩
        refine w_next ?_
        exact ⟨_, _, _, _, _, _, _, rfl⟩
    · rintro S' ⟨o2, o3, o4, o5, o6, o7, o8, rfl⟩
      show W K _ _ _ _
      refine w_ret (ew_bl ?_)
      exact ret_same q
end

open PySem PySem.Spec PyProof.Rows L2 Br
open Pm (Spot okS fitF hasO)
theorem okG {P : Program} {w : World} {K : PySem.W.Frag} {mg : Str → Option Value} {base : Heap} {x qual : Str} {st : Stmt} {f : Addr} {fd : FuncData} {N ps : List Str} {k : Nat} {sp : Sp} (F : Fun K x qual st f fd) (S : FnScope N ps (defScope st)) (len : ∀ vs H Q E, sp vs H Q E → vs.length = ps.length)
    (body : ∀ (cdv : Value) (A : Around) (outer : List Env) (s : Shared) (H : Hp) (vs : List V) (Q : VK) (E : XK), (A.deeper (envOfC qual (defScope st) s.heap.objs.size f cdv)).guards = some [] → Room k (A.deeper (envOfC qual (defScope st) s.heap.objs.size f cdv)) → sp vs H Q E →
      ∃ t, PSs (cxOf CX0 P w K mg base N qual (defScope st) f cdv A outer s H E).nox (defBody st) t ∧ t { nx := fun _ H' => Q .non H', rt := Q } (L2.start N vs) H) : FnG P w K mg base (k + 1) f fd ps sp := by
  obtain ⟨oc, od, kV, doc, pm, an, cdv, ct, osl, rfl, lk, hcd⟩ := F.ex
  refine fn_ofG lk hcd S len fun A outer s H vs Q E hg hr hsp => ?_
  obtain ⟨t, h, q⟩ := body cdv A outer s H vs Q E hg hr hsp
  exact ⟨t, h.nox, q⟩
def fLaw : FD := fun ds os QA _ => ∃ ns : List Int, ds = [.d (.lst (ns.map D.int))] ∧ os = [] ∧ ns.length ≤ 63 ∧ ∀ os', QA (.bl true) os'
mutual
theorem cpy_py : ∀ d : D, d.cpy = true → ∃ p, d.py = some p ∧ p.canLay0 = true ∧ p.depth ≤ d.dpt
  | .non, _ => ⟨_, rfl, rfl, Nat.le_refl _⟩
  | .bl b, _ => ⟨_, rfl, rfl, Nat.le_refl _⟩
  | .int i, _ => ⟨_, rfl, rfl, Nat.le_refl _⟩
  | .str z, h => by cases (show false = true from h)
  | .lst xs, h => by
    have h2 : (decide (xs.length ≤ 100000) && D.cpys xs) = true := h
    rw [Bool.and_eq_true] at h2
    obtain ⟨ps, e, h1, h3⟩ := cpys_py xs h2.2
    exact ⟨.list ps, by show (D.pys xs).map PyData.list = _; rw [e]; rfl, h1, Nat.succ_le_succ h3⟩
  | .tup xs, h => by
    have h2 : (decide (xs.length ≤ 100000) && D.cpys xs) = true := h
    rw [Bool.and_eq_true] at h2
    obtain ⟨ps, e, h1, h3⟩ := cpys_py xs h2.2
    exact ⟨.tuple ps, by show (D.pys xs).map PyData.tuple = _; rw [e]; rfl, h1, Nat.succ_le_succ h3⟩
  | .dk _, h => by cases (show false = true from h)
  | .ob _ _, h => by cases (show false = true from h)
  | .xo _ _, h => by cases (show false = true from h)
theorem cpys_py : ∀ ds : List D, D.cpys ds = true → ∃ ps, D.pys ds = some ps ∧ PyData.canLayAll0 ps = true ∧ PyData.depthAll ps ≤ D.dpts ds
  | [], _ => ⟨[], rfl, rfl, Nat.le_refl _⟩
  | d :: ds, h => by
    have e : D.cpys (d :: ds) = (D.cpy d && D.cpys ds) := rfl
    rw [e, Bool.and_eq_true] at h
    obtain ⟨p, a1, a2, a3⟩ := cpy_py d h.1
    obtain ⟨ps, b1, b2, b3⟩ := cpys_py ds h.2
    refine ⟨p :: ps, ?_, ?_, ?_⟩
    · show ((D.py d).bind fun p => (D.pys ds).map fun ps => p :: ps) = _
      rw [a1, b1]
      rfl
    · show (p.canLay0 && PyData.canLayAll0 ps) = true
      rw [a2, b2]
      rfl
    · show max p.depth (PyData.depthAll ps) ≤ max d.dpt (D.dpts ds)
      omega
end
/-- what is equal to itself -/
structure Eqs (d : D) (p : PyData) : Prop where
  e : d.py = some p
  s : SeqAt.shaped p = true
  r : PyData.eqv p p = true
theorem eqs_of {d : D} (h : d.cpy = true) (hd : d.dpt ≤ 60) : ∃ p, Eqs d p := by
  obtain ⟨p, e, h1, h2⟩ := cpy_py d h
  refine ⟨p, e, ?_, PySem.SeqAt.eqv_refl p h1⟩
  unfold SeqAt.shaped
  rw [h1, decide_eq_true (by omega)]
  rfl
theorem mis1_none {row : List Int} : ∀ {o : List Int} {a : Nat}, (∀ j, j < o.length → row[a + j]? = o[j]?) → mis1 row a o = none
  | [], a, _ => rfl
  | x :: o, a, h => by
    have h0 : row[a]? = some x := by simpa using h 0 (by simp)
    rw [mis1, if_neg (fun z => z.2 h0)]
    exact mis1_none fun j hj => by
      have z := h (j + 1) (by simpa using hj)
      rw [show a + 1 + j = a + (j + 1) by omega, z]
      rfl
theorem mis_none {row : List Int} : ∀ {ss : List Spot}, (∀ s ∈ ss, hasO row s) → mis row ss = none
  | [], _ => rfl
  | s :: g, h => by
    rw [mis, mis1_none (h s List.mem_cons_self), mis_none fun t ht => h t (List.mem_cons_of_mem _ ht)]
    rfl
theorem SvA.rev {K : PySem.W.Frag} {as : List Addr} {H : Hp} {vs : List V} {ds : List Sv} (h : SvA K as H vs ds) : SvA K as H vs.reverse ds.reverse := by
  have app : ∀ {vs ws : List V} {ds es : List Sv}, SvA K as H vs ds → SvA K as H ws es → SvA K as H (vs ++ ws) (ds ++ es) := fun {vs ws ds es} a b => by
    induction a with
    | nil => exact b
    | cons h _ ih => exact .cons h ih
  induction h with
  | nil => exact .nil
  | cons h _ ih =>
    rw [List.reverse_cons, List.reverse_cons]
    exact app ih (.cons h .nil)
theorem promise_law {K : PySem.W.Frag} {H : Hp} {a : Addr} {ns : List Int} (hl : ns.length ≤ 63) (h : SqL K H a (ns.map V.int)) : spD K fLaw [.ref a] H (fun v _ => v = .bl true) fun _ _ _ => False := by
  refine ⟨[], [], [.d (.lst (ns.map D.int))], fun d _ => d = .bl true, fun _ _ _ => False, ⟨List.nodup_nil, rfl, fun k a ob h _ => by cases h⟩, .cons (Dx.lst ?_ (DxA.ints ns)) .nil, ⟨ns, rfl, rfl, hl, fun _ => rfl⟩, fun v H' d os' g R r e => ?_, fun _ _ _ _ _ _ _ _ _ _ _ z => z.elim⟩
  · rcases h with z | z
    · exact .inl ⟨fun q => (nomatch q), z⟩
    · exact .inr z
  · subst e
    cases r
    rfl
theorem valsR : ∀ {vs : List V} {us : List Value}, Vals vs us → Vals vs.reverse us.reverse
  | _, _, .nil => .nil
  | _, _, .cons h r => by
    rw [List.reverse_cons, List.reverse_cons]
    exact (valsR r).append (.cons h .nil)

mutual
def D.nd : D → Bool
  | .lst xs => D.nds xs
  | .tup xs => D.nds xs
  | .dk _ => false
  | .ob _ _ => false
  | .xo _ _ => false
  | _ => true
def D.nds : List D → Bool
  | [] => true
  | x :: r => D.nd x && D.nds r
end
mutual
theorem nd_py : ∀ d : D, D.nd d = true → d.pyE = d.py ∧ ∀ p, d.py = some p → p.hasDict = false
  | .non, _ => ⟨rfl, fun p e => by cases (show some PyData.none = some p from e); rfl⟩
  | .bl b, _ => ⟨rfl, fun p e => by cases (show some (PyData.bool b) = some p from e); rfl⟩
  | .int i, _ => ⟨rfl, fun p e => by cases (show some (PyData.int i) = some p from e); rfl⟩
  | .str z, _ => ⟨rfl, fun p e => by cases (show some (PyData.str z) = some p from e); rfl⟩
  | .lst xs, h => by
    obtain ⟨e, q⟩ := nds_py xs h
    refine ⟨by show (D.pysE xs).map PyData.list = (D.pys xs).map PyData.list; rw [e], fun p ep => ?_⟩
    obtain ⟨ps, e1, rfl⟩ := Option.map_eq_some_iff.mp (show (D.pys xs).map PyData.list = some p from ep)
    exact q ps e1
  | .tup xs, h => by
    obtain ⟨e, q⟩ := nds_py xs h
    refine ⟨by show (D.pysE xs).map PyData.tuple = (D.pys xs).map PyData.tuple; rw [e], fun p ep => ?_⟩
    obtain ⟨ps, e1, rfl⟩ := Option.map_eq_some_iff.mp (show (D.pys xs).map PyData.tuple = some p from ep)
    exact q ps e1
  | .dk _, h => by cases (show false = true from h)
  | .ob _ _, h => by cases (show false = true from h)
  | .xo _ _, h => by cases (show false = true from h)
theorem nds_py : ∀ ds : List D, D.nds ds = true → D.pysE ds = D.pys ds ∧ ∀ ps, D.pys ds = some ps → PyData.hasDictAll ps = false
  | [], _ => ⟨rfl, fun ps e => by cases (show some [] = some ps from e); rfl⟩
  | d :: ds, h => by
    have e : D.nds (d :: ds) = (D.nd d && D.nds ds) := rfl
    rw [e, Bool.and_eq_true] at h
    obtain ⟨a1, a2⟩ := nd_py d h.1
    obtain ⟨b1, b2⟩ := nds_py ds h.2
    refine ⟨?_, fun ps ep => ?_⟩
    · show ((D.pyE d).bind fun p => (D.pysE ds).map fun ps => p :: ps) = (D.py d).bind fun p => (D.pys ds).map fun ps => p :: ps
      rw [a1, b1]
    · obtain ⟨p, e1, e2⟩ := Option.bind_eq_some_iff.mp (show ((D.py d).bind fun p => (D.pys ds).map fun ps => p :: ps) = some ps from ep)
      obtain ⟨qs, e3, rfl⟩ := Option.map_eq_some_iff.mp e2
      show (p.hasDict || PyData.hasDictAll qs) = false
      rw [a2 p e1, b2 qs e3]
      rfl
end
/-- repr of a tuple without a dict -/
theorem cw_reprN {K : PySem.W.Frag} {os : Os} {Q : Sv → Os → Prop} {M : Nat} {xs : List D} (hM : M ≤ 10 ^ 40) (h : (D.tup xs).fit M = true) (hn : D.nd (.tup xs) = true) (hl : (D.tup xs).ln ≤ 10000000) (hd : (D.tup xs).dpt ≤ 10) (q : Q (.d (.str (shownD (.tup xs)))) os) : CW K (rRepr K) [.d (.tup xs)] os Q := by
  obtain ⟨p, e, h1, h2, h3⟩ := fit_py hM _ h
  obtain ⟨e2, hno⟩ := nd_py _ hn
  have q2 : shownD (.tup xs) = p.shown := by
    unfold shownD
    rw [e]
  rw [q2] at q
  rw [e2] at e
  have hno2 := hno p e
  obtain ⟨ps, e3, rfl⟩ := Option.map_eq_some_iff.mp (show (D.pys xs).map PyData.tuple = some p from e)
  exact cw_reprU e3 h1 hno2 (Nat.le_trans h2 hd) (Nat.le_trans h3 (Nat.le_trans hl (by decide))) q

open PySem PySem.Spec PyProof.Rows L2 Br
open Pm (Spot okS fitF hasO en gr leK unl Pt PtL Pat comp flip seenS backP spP kept Row1)
theorem row_shp (ns : List Int) : SeqAt.shaped (.tuple (ns.map PyData.int)) = true := by
  have h1 : ∀ l : List Int, PyData.canLayAll0 (l.map PyData.int) = true := fun l => by
    induction l with
    | nil => rfl
    | cons x r ih => simpa [PyData.canLayAll0, PyData.canLay0] using ih
  have h2 : ∀ l : List Int, PyData.depthAll (l.map PyData.int) = 0 := fun l => by
    induction l with
    | nil => rfl
    | cons x r ih => simpa [PyData.depthAll, PyData.depth] using ih
  unfold SeqAt.shaped
  rw [show (PyData.tuple (ns.map PyData.int)).canLay0 = true from h1 ns, decide_eq_true (by show PyData.depthAll (ns.map PyData.int) + 1 ≤ 64; rw [h2]; decide)]
  rfl
theorem row_rfl (ns : List Int) : PyData.eqv (.tuple (ns.map PyData.int)) (.tuple (ns.map PyData.int)) = true := PySem.SeqAt.eqv_refl _ (by
  have h1 : ∀ l : List Int, PyData.canLayAll0 (l.map PyData.int) = true := fun l => by
    induction l with
    | nil => rfl
    | cons x r ih => simpa [PyData.canLayAll0, PyData.canLay0] using ih
  exact h1 ns)
theorem bw_neRow {K : PySem.W.Frag} {os : Os} {Q : Sv → Os → Prop} {r : List Int} (q : Q (.d (.bl false)) os) : BW K (rNeD K) (.d (rowD r)) (.d (rowD r)) os Q := by
  refine bw_neD (row_py r) (row_py r) (row_shp r) (row_shp r) ?_
  rw [row_rfl]
  exact q
/-- the patch fits -/
theorem fit_is {C : Addr} {n : Nat} {S : List Spot} {w v : List Int} {KK : Nat → Nat → Prop} {os : Os} {QA : D → Os → Prop} {EA : Xa} (a : Pt n S w KK v) (h1 : w.length ≤ 300) (h3 : v.length ≤ 300) (q : QA (rowD v) os) : fFit0 C [.d (patO C n S), .d (rowD w)] os QA EA := by
  have hl := a.len
  refine ⟨n, S, w, rfl, Nat.lt_of_le_of_lt (show n ≤ 300 by omega) (by decide), a.ok, hl, mis_none a.has, by rw [a.fit]; omega, ?_⟩
  rw [a.fit]
  exact q
section
variable {P : Program} {w : World} {K : PySem.W.Frag} {mg : Str → Option Value} {base : Heap}
abbrev s_law : Stmt := topS 41
abbrev N_law : List Str := ["_law_script", "_law_feed_here", "_law_turn", "_law_line", "_law_lines", "_law_some", "_law_k", "_law_more", "_law_whole", "_law_again", "_law_back", "_law_made"]
theorem sc_law : FnScope N_law ["_law_script"] (defScope s_law) := ⟨rfl, rfl, rfl, by decide +kernel, rfl, by decide +kernel, by decide +kernel⟩
theorem ok_law {C M TE f a1 a2 a3 a4 a5 a6 a7 a8 a9 b1 b2 b3 : Addr} {fd d1 d2 d3 d4 d5 d6 d7 d8 d9 e1 e2 e3 : FuncData} (F : Fun K "law" "law" s_law f fd) (T : Pcl K C)
    (z_range : mg "range" = none) (z_len : mg "len" = none)
    (G_l_feed : FnOk P w K mg base CX0 1 a1 d1 ["_law_script"] (spN K fFeed)) (C_l_feed : Cal K mg "_law_feed" a1 d1 ["_law_script"])
    (G_l_draw : FnOk P w K mg base CX0 1 a2 d2 ["_law_feed_here", "_law_many"] (spD K fDraw)) (C_l_draw : Cal K mg "_law_draw" a2 d2 ["_law_feed_here", "_law_many"])
    (G_l_bytes : FnOk P w K mg base CX0 3 a3 d3 ["_law_feed_here", "_law_most"] (spD K fBytes)) (C_l_bytes : Cal K mg "_law_bytes" a3 d3 ["_law_feed_here", "_law_most"])
    (G_l_spots : FnOk P w K mg base CX0 4 a4 d4 ["_law_feed_here", "_law_line"] (spD K fSpots)) (C_l_spots : Cal K mg "_law_spots" a4 d4 ["_law_feed_here", "_law_line"])
    (G_l_fit : FnOk P w K mg base CX0 1 a5 d5 ["_law_line", "_law_some"] (spD K fLFit)) (C_l_fit : Cal K mg "_law_fit" a5 d5 ["_law_line", "_law_some"])
    (G_l_joined_up : FnOk P w K mg base CX0 9 a6 d6 ["_law_some"] (spD K (fJoin C))) (C_l_joined_up : Cal K mg "_law_joined_up" a6 d6 ["_law_some"])
    (G_l_in_groups : FnOk P w K mg base CX0 9 a7 d7 ["_law_feed_here", "_law_some"] (spD K (fGroups C))) (C_l_in_groups : Cal K mg "_law_in_groups" a7 d7 ["_law_feed_here", "_law_some"])
    (G_l_are_seen : FnOk P w K mg base CX0 10 a8 d8 ["_law_some", "_law_lines"] (spD K (fSeen C))) (C_l_are_seen : Cal K mg "_law_are_seen" a8 d8 ["_law_some", "_law_lines"])
    (G_turned_back : FnOk P w K mg base CX0 8 a9 d9 ["patch"] (spD K (fBack C))) (C_turned_back : Cal K mg "turned_back" a9 d9 ["patch"])
    (G_fitted : FnOk P w K mg base CX0 3 b1 e1 ["patch", "row"] (spD K (fFit0 C))) (C_fitted : Cal K mg "fitted" b1 e1 ["patch", "row"])
    {c1 : Addr} {g1 : FuncData} (G_chained : FnOk P w K mg base (CX P w) 8 c1 g1 ["one", "other"] (spD K (fChained C M))) (C_chained : Cal K mg "chained" c1 g1 ["one", "other"])
    (G_Patch : FnOk P w K mg base CX0 6 b2 e2 ["self", "length", "spots"] (spD K (fInit C))) (Y_Patch : Ycl K mg "Patch" C b2 e2 ["self", "length", "spots"])
    (BD_Patch : Binds K e2 ["self", "length", "spots"] [Value.ref TE]) (hTE : WrT K TE [])
    (Q_Patch : EqC K C b3) (T_Patch : PySem.W.typeIn K (.ref b3) = some (.type "function")) (E_Patch : FnOk P w K mg base CX0 1 b3 e3 ["self", "other"] (spD K (fEq C))) (B_Patch : Binds K e3 ["self", "other"] []) : FnG P w K mg base 12 f fd ["_law_script"] (spD K fLaw) := by
  refine okG F sc_law (fun vs H Q E h => ?_) (fun cdv A outer s H vs Q E hgd hr h => ?_)
  · obtain ⟨as, os, ds, QA, EA, R, r, ⟨ns, rfl, _⟩, _⟩ := h
    rw [r.length]
    rfl
  · have hu64 : (A.deeper (envOfC "law" (defScope s_law) s.heap.objs.size f cdv)).units + 64 < cLine := by
      have := hr.un
      omega
    have VD_Patch : Vals [V.ref TE] [Value.ref TE] := .cons rfl .nil
    have dfl : ∀ as H, SvA K as H [V.ref TE] [.d (.tup [])] := fun _ _ => .cons (Dx.tup (.inr hTE) .nil) .nil
    refine ⟨_, (pss_cons (ps_set (i := 1) sc_law.nd rfl (Or.inl rfl) (pe_call G_l_feed (hr.mono (by decide)) rfl C_l_feed.m C_l_feed.k C_l_feed.b .nil pass0 (pa_cons (pv 0) pa_nil)))
  (pss_cons (ps_for PassesOwn.never rfl (pi_range1 (by rfl) z_range (pa_cons pe_int pa_nil)) (pg_name (i := 2) sc_law.nd rfl (Or.inl rfl))
    (pss_cons (ps_set (i := 3) sc_law.nd rfl (Or.inl rfl) (pe_call G_l_bytes (hr.mono (by decide)) rfl C_l_bytes.m C_l_bytes.k C_l_bytes.b .nil pass0 (pa_cons (pv 1) (pa_cons pe_int pa_nil))))
    (pss_cons (ps_par (i := 4) (j := 5) (by rfl) sc_law.nd rfl rfl (by decide) rfl rfl (pa_cons (pe_lst (pa_cons (pv 3) pa_nil)) (pa_cons (pe_lst pa_nil) pa_nil)) (by rfl))
    (pss_cons (ps_for PassesOwn.never rfl (pi_range1 (by rfl) z_range (pa_cons (pe_op op_add pe_int (pe_call G_l_draw (hr.mono (by decide)) rfl C_l_draw.m C_l_draw.k C_l_draw.b .nil pass0 (pa_cons (pv 1) (pa_cons pe_int pa_nil)))) pa_nil)) (pg_name (i := 6) sc_law.nd rfl (Or.inl rfl))
      (pss_cons (ps_set (i := 7) sc_law.nd rfl (Or.inl rfl) (pe_call G_l_spots (hr.mono (by decide)) rfl C_l_spots.m C_l_spots.k C_l_spots.b .nil pass0 (pa_cons (pv 1) (pa_cons (pe_ix (r := rIxL K) ix_list (pv 4) (pe_un un_neg pe_int) (fun _ _ => rfl)) pa_nil))))
      (pss_cons (ps_expr (pe_bm PySem.F.plainAttrs_list PySem.F.slot_list_append PySem.F.type_list_append mt_append (pv 5) (pa_cons (pe_make Y_Patch.M G_Patch (hr.mono (by decide)) rfl Y_Patch.m Y_Patch.b .nil pass0 (pa_cons (pe_callB call_lenA (by rfl) z_len PySem.boot_len (pa_cons (pe_ix (r := rIxL K) ix_list (pv 4) (pe_un un_neg pe_int) (fun _ _ => rfl)) pa_nil)) (pa_cons (pv 7) pa_nil))) pa_nil)))
      (pss_one (ps_expr (pe_bm PySem.F.plainAttrs_list PySem.F.slot_list_append PySem.F.type_list_append mt_append (pv 4) (pa_cons (pe_call G_l_fit (hr.mono (by decide)) rfl C_l_fit.m C_l_fit.k C_l_fit.b .nil pass0 (pa_cons (pe_ix (r := rIxL K) ix_list (pv 4) (pe_un un_neg pe_int) (fun _ _ => rfl)) (pa_cons (pv 7) pa_nil))) pa_nil)))))))
    (pss_cons (ps_set (i := 8) sc_law.nd rfl (Or.inl rfl) (pe_call G_l_joined_up (hr.mono (by decide)) rfl C_l_joined_up.m C_l_joined_up.k C_l_joined_up.b .nil pass0 (pa_cons (pv 5) pa_nil)))
    (pss_cons (ps_for PassesOwn.never rfl (pi_range1 (by rfl) z_range (pa_cons pe_int pa_nil)) (pg_name (i := 9) sc_law.nd rfl (Or.inl rfl))
      (pss_one (ps_if (pt_cmpR (op_neIns Q_Patch T_Patch E_Patch B_Patch (hr.mono (by decide))) (pe_call G_l_in_groups (hr.mono (by decide)) rfl C_l_in_groups.m C_l_in_groups.k C_l_in_groups.b .nil pass0 (pa_cons (pv 1) (pa_cons (pv 5) pa_nil))) (pv 8) (nomark _)) (pss_one (ps_ret pe_bl)) pss_nil)))
    (pss_cons (ps_set (i := 10) sc_law.nd rfl (Or.inl rfl) (pe_call G_turned_back (hr.mono (by decide)) rfl C_turned_back.m C_turned_back.k C_turned_back.b .nil pass0 (pa_cons (pv 8) pa_nil)))
    (pss_cons (ps_if (PW.pt (pw_or (pt_cmpR (op_neD hu64) (pe_call G_fitted (hr.mono (by decide)) rfl C_fitted.m C_fitted.k C_fitted.b .nil pass0 (pa_cons (pv 8) (pa_cons (pv 3) pa_nil))) (pe_ix (r := rIxL K) ix_list (pv 4) (pe_un un_neg pe_int) (fun _ _ => rfl)) (nomark _)) (pw_or (pt_cmpR (op_neD hu64) (pe_call G_fitted (hr.mono (by decide)) rfl C_fitted.m C_fitted.k C_fitted.b .nil pass0 (pa_cons (pv 10) (pa_cons (pe_ix (r := rIxL K) ix_list (pv 4) (pe_un un_neg pe_int) (fun _ _ => rfl)) pa_nil))) (pv 3) (nomark _)) (pw_or1 (pt_cmpR (op_neIns Q_Patch T_Patch E_Patch B_Patch (hr.mono (by decide))) (pe_call G_turned_back (hr.mono (by decide)) rfl C_turned_back.m C_turned_back.k C_turned_back.b .nil pass0 (pa_cons (pv 10) pa_nil)) (pv 8) (nomark _)))))) (pss_one (ps_ret pe_bl)) pss_nil)
    (pss_cons (ps_if (pt_cmpR (op_neIns Q_Patch T_Patch E_Patch B_Patch (hr.mono (by decide))) (pe_call G_l_in_groups (hr.mono (by decide)) rfl C_l_in_groups.m C_l_in_groups.k C_l_in_groups.b .nil pass0 (pa_cons (pv 1) (pa_cons (pe_lc (own := [("_law_made", 11)]) (g := (gName 11)) rfl sc_law.nd (pi_list (pe_revL (pv 5))) (blkOk_by (own := [("_law_made", 11)]) (N := N_law) (sc := defScope s_law) (by decide +kernel)) (fun _ _ _ _ _ => (pg_name (i := 11) sc_law.nd rfl (Or.inl rfl))) (fun _ _ _ _ _ => pts_nil) (fun _ _ _ _ _ => (pe_call G_turned_back (hr.mono (by decide)) rfl C_turned_back.m C_turned_back.k C_turned_back.b .nil pass0 (pa_cons (pv 11) pa_nil)))) pa_nil))) (pv 10) (nomark _)) (pss_one (ps_ret pe_bl)) pss_nil)
    (pss_cons (ps_if (PW.pt (pw_or (pt_cmpR (op_neIns Q_Patch T_Patch E_Patch B_Patch (hr.mono (by decide))) (pe_callS G_chained (hr.mono (by decide)) rfl C_chained.m C_chained.k C_chained.b (fun σ => passAt LamX.takes0 σ) (pa_cons (pe_make Y_Patch.M G_Patch (hr.mono (by decide)) rfl Y_Patch.m BD_Patch VD_Patch pass0 (pa_cons (pe_callB call_lenA (by rfl) z_len PySem.boot_len (pa_cons (pv 3) pa_nil)) pa_nil)) (pa_cons (pv 8) pa_nil))) (pv 8) (nomark _)) (pw_or1 (pt_cmpR (op_neIns Q_Patch T_Patch E_Patch B_Patch (hr.mono (by decide))) (pe_callS G_chained (hr.mono (by decide)) rfl C_chained.m C_chained.k C_chained.b (fun σ => passAt LamX.takes0 σ) (pa_cons (pv 8) (pa_cons (pe_make Y_Patch.M G_Patch (hr.mono (by decide)) rfl Y_Patch.m BD_Patch VD_Patch pass0 (pa_cons (pe_callB call_lenA (by rfl) z_len PySem.boot_len (pa_cons (pe_ix (r := rIxL K) ix_list (pv 4) (pe_un un_neg pe_int) (fun _ _ => rfl)) pa_nil)) pa_nil)) pa_nil))) (pv 8) (nomark _))))) (pss_one (ps_ret pe_bl)) pss_nil)
    (pss_one (ps_if (pt_not (pt_val (pe_call G_l_are_seen (hr.mono (by decide)) rfl C_l_are_seen.m C_l_are_seen.k C_l_are_seen.b .nil pass0 (pa_cons (pv 5) (pa_cons (pv 4) pa_nil))))) (pss_one (ps_ret pe_bl)) pss_nil))))))))))))
  (pss_one (ps_ret pe_bl)))), read_of h fun ds os QA EA hf => ?_⟩
    obtain ⟨ns, rfl, rfl, hl, q⟩ := hf
    try dsimp only [cxOf, Cx.nox, Cx.wish]
    show W K _ _ _ ⟨[some (.d (.lst (ns.map D.int))), none, none, none, none, none, none, none, none, none, none, none], []⟩
    refine w_seq (w_asgN ?_)
    repeat (walk_at "b")
    refine ⟨ns, rfl, hl, ?_⟩
    dsimp only [List.set_cons_zero, List.set_cons_succ, List.nil_append, List.length_nil]
    refine w_seq (w_for ?_)
    refine iw_rng1 ?_
    repeat (walk_at "b")
    refine ⟨by decide, by decide, fun i S' => ∃ (o2 o3 o4 o5 o6 o7 o8 o9 o10 o11 : Option Sv) (o os : Os), S' = ⟨[some (.d (.lst (ns.map D.int))), some (.o 0), o2, o3, o4, o5, o6, o7, o8, o9, o10, o11], os⟩ ∧ Pn 0 ns (3000000 * i) o os,
      ⟨_, _, _, _, _, _, _, _, _, _, [.md (pen ns 0 0)], _, rfl, 0, 0, rfl, Nat.zero_lt_one, ⟨by omega, by omega⟩, by omega⟩, ?_, ?_⟩
    · rintro i d S' hd ⟨o2, o3, o4, o5, o6, o7, o8, o9, o10, o11, o, os, rfl, ho⟩
      obtain ⟨hi, rfl⟩ := rngD_get hd
      have hi : i < 4 := hi
      refine gw_name ?_
      dsimp only [List.set_cons_zero, List.set_cons_succ]
      -- line
      refine w_seq (w_asg ?_)
      repeat (walk_at "b")
      refine ⟨0, 30, ns, 3000000 * i, o, rfl, ho, by omega, by omega, fun line os1 hline hlinel ho1 => ?_⟩
      dsimp only [List.set_cons_zero, List.set_cons_succ]
      have hk : 0 < o.length := let ⟨_, _, _, h, _⟩ := ho; h
      refine w_seq (w_parDL (aw_cons (ew_var rfl (aw_nil ⟨_, rfl, by show 1 ≤ sizeLine; decide, ?_⟩))))
      dsimp only [List.set_cons_zero, List.set_cons_succ]
      have eX : os1 ++ [Ob.ml [rowD line]] ++ [Ob.ml []] = os1 ++ [Ob.ml (([] ++ [line]).map rowD), Ob.ml (([] : List Pat).map (patD C))] := by rw [List.append_assoc]; rfl
      rw [eX]
      refine w_seq (w_for (iw_rng1 (aw_cons (ew_op (ew_int (ew_call (aw_cons (ew_var rfl (aw_cons (ew_int (aw_nil ?_)))))))))))
      refine ⟨0, 7, ns, 3000000 * i + 300, o ++ [Ob.ml (([] ++ [line]).map rowD), Ob.ml (([] : List Pat).map (patD C))], rfl, ho1.pushL _, by omega, by omega, fun dn os2 dn0 dn1 ho2 => ?_⟩
      obtain ⟨os2, rfl, hp2⟩ := ho2.popL hk
      obtain ⟨dn, rfl⟩ := Int.eq_ofNat_of_zero_le dn0
      rw [show os1.length = os2.length by rw [ho1.len, hp2.len]]
      refine bw_i0 (aw_nil ⟨1 + (dn : Int), rfl, by omega, by omega, ?_⟩)
      rw [show (1 + (dn : Int)).toNat = dn + 1 by omega]
      have at0 : ∀ {osA : Os} {a b : Ob}, osA.length = os2.length → (osA ++ [a, b])[os2.length]? = some a := fun {osA a b} h => by rw [← h]; simp
      have at1 : ∀ {osA : Os} {a b : Ob}, osA.length = os2.length → (osA ++ [a, b])[os2.length + 1]? = some b := fun {osA a b} h => by rw [← h]; simp
      have set0 : ∀ {osA : Os} {a b c : Ob}, osA.length = os2.length → (osA ++ [a, b]).set os2.length c = osA ++ [c, b] := fun {osA a b c} h => by rw [← h]; simp
      have set1 : ∀ {osA : Os} {a b c : Ob}, osA.length = os2.length → (osA ++ [a, b]).set (os2.length + 1) c = osA ++ [a, c] := fun {osA a b c} h => by rw [← h]; simp
      refine ⟨fun t S' => ∃ (o6 o7 : Option Sv) (osA : Os) (init : List (List Int)) (last : List Int) (ls : List Pat), S' = ⟨[some (.d (.lst (ns.map D.int))), some (.o 0), some (.d (.int ((i : Nat) : Int))), some (.d (rowD line)), some (.o os2.length), some (.o (os2.length + 1)), o6, o7, o8, o9, o10, o11], osA ++ [.ml ((init ++ [last]).map rowD), .ml (ls.map (patD C))]⟩ ∧
        Pn 0 ns (3000000 * i + 301 + 200000 * t) o osA ∧ init.length = t ∧ ls.length = t ∧ Row1 ls (init ++ [last]) ∧ last.length ≤ 30 + 36 * t ∧ isR last ∧ (∀ r ∈ init, r.length ≤ 300) ∧ ((t = 0 ∧ last = line) ∨ ∃ KK, PtL ls line KK last),
        ⟨o6, o7, os2, [], line, [], by simp, hp2.mono (by omega), rfl, rfl, (fun i p h => by simp at h), by omega, hline, (fun _ h => nomatch h), .inl ⟨rfl, rfl⟩⟩, ?_, ?_⟩
      · rintro t d S' hd ⟨o6, o7, osA, init, last, ls, rfl, hoA, hli, hll, hrow, hlast, hRl, hri, hpl⟩
        obtain ⟨ht, rfl⟩ := rngD_get hd
        have hA2 : osA.length = os2.length := by rw [hoA.len, hp2.len]
        refine gw_name ?_
        dsimp only [List.set_cons_zero, List.set_cons_succ]
        have lastAt : L2.atI ((init ++ [last]).map rowD) (-1) = some (rowD last) := by
          rw [List.map_append]
          exact atI_last
        refine w_seq (w_asg (ew_call (aw_cons (ew_var rfl (aw_cons (ew_op (ew_var rfl (ew_negI (bw_ixO (at0 hA2) lastAt (aw_nil ?_))))))))))
        refine ⟨0, last, ns, 3000000 * i + 301 + 200000 * t, _, rfl, hoA.pushL _, hRl, by omega, by omega, fun ss os3 hss hO hc hs3 ho3 => ?_⟩
        obtain ⟨os3, rfl, hp3⟩ := ho3.popL hk
        have hA3 : os3.length = os2.length := by rw [hp3.len, hp2.len]
        have pt : Pt last.length ss last (kept last.length ss) (fitF last 0 ss) := Pt.mk0 rfl hRl hss hO
        have hgl := Pm.gr_le hs3
        have hlv := pt.lv
        have hlen2 : (fitF last 0 ss).length ≤ last.length + 36 := by omega
        have hwt := pt.wt
        dsimp only [List.set_cons_zero, List.set_cons_succ]
        obtain ⟨i1, i2, i3, i4, i5⟩ := init_okB (ss := ss) hss (by omega) (by omega)
        refine w_seq (w_drop (ew_app (ew_var rfl ⟨_, _, rfl, at1 hA3, ?_⟩)))
        refine ew_make (fun _ _ => .nil) (aw_cons (ew_cb (aw_cons (ew_op (ew_var rfl (ew_negI (bw_ixO (at0 hA3) lastAt (aw_nil (cw_lenU (aw_cons (ew_var rfl (aw_nil ?_))))))))))))
        rw [List.length_map]
        refine ⟨_, last.length, _, _, 10 ^ 30, rfl, rfl, .inl rfl, i1, i2, i3, i4, i5, rfl, _, _, rfl, ?_⟩
        refine ⟨_, _, rfl, at1 hA3, by rw [List.length_map, hll, sizeLine_eq]; omega, ?_⟩
        rw [set1 hA3]
        refine w_drop (ew_app (ew_var rfl ⟨_, _, rfl, at0 hA3, ?_⟩))
        refine ew_call (aw_cons (ew_op (ew_var rfl (ew_negI (bw_ixO (at0 hA3) lastAt (aw_cons (ew_var rfl (aw_nil ?_))))))))
        refine ⟨last.length, last, ss, rfl, hss, rfl, by omega, ?_⟩
        refine ⟨_, _, rfl, at0 hA3, by rw [List.length_map, sizeLine_eq]; simp only [List.length_append, List.length_cons, List.length_nil]; omega, ?_⟩
        rw [set0 hA3]
        show ∃ (o6 o7 : Option Sv) (osA : Os) (init : List (List Int)) (last : List Int) (ls : List Pat), _
        refine ⟨some (.d (.int (0 + (t : Int) * 1))), some (.d (.tup (spotsD ss))), os3, init ++ [last], fitF last 0 ss, ls ++ [(last.length, ss)], ?_, hp3.mono (by omega), by rw [List.length_append]; simp only [List.length_cons, List.length_nil]; omega, by rw [List.length_append]; simp only [List.length_cons, List.length_nil]; omega, hrow.snoc (by omega) pt, by omega, pt.rv, ?_, ?_⟩
        · rw [List.map_append (l₁ := init ++ [last]), List.map_append (l₁ := ls)]
          rfl
        · intro r hr
          rcases List.mem_append.mp hr with hr | hr
          · exact hri r hr
          · rw [List.mem_singleton.mp hr]
            omega
        · right
          rcases hpl with ⟨h0, rfl⟩ | ⟨KK, hP⟩
          · have : ls = [] := List.eq_nil_of_length_eq_zero (by omega)
            subst this
            exact ⟨_, pt, by omega, by omega⟩
          · exact ⟨_, Pm.PtL_snoc hP pt (by omega)⟩
      · rintro S' ⟨o6, o7, osA, init, last, ls, rfl, hoA, hli, hll, hrow, hlast, hRl, hri, hpl⟩
        rw [rngD_len] at hoA hli hll hlast hpl
        obtain ⟨KK, hP⟩ : ∃ KK, PtL ls line KK last := by
          rcases hpl with ⟨h0, _⟩ | h
          · omega
          · exact h
        have hA2 : osA.length = os2.length := by rw [hoA.len, hp2.len]
        have hl7 : ls.length ≤ 7 := by omega
        have lL : last.length ≤ 300 := by omega
        have lI : line.length ≤ 300 := by omega
        have lastAt : L2.atI ((init ++ [last]).map rowD) (-1) = some (rowD last) := by
          rw [List.map_append]
          exact atI_last
        show W K _ _ _ _
        refine w_seq (w_asg (ew_call (aw_cons (ew_var rfl (aw_nil ?_)))))
        refine ⟨.o (os2.length + 1), ls, line, last, KK, rfl, lst_at (at1 hA2), hP, by omega, fun n S pS => ?_⟩
        dsimp only [List.set_cons_zero, List.set_cons_succ]
        have ln := pS.len
        have lv := pS.lv
        have wt := pS.wt
        have pB := pS.back (p := (n, S))
        refine w_seq (w_for (iw_rng1 (aw_cons (ew_int (aw_nil ?_)))))
        refine ⟨3, rfl, by decide, by decide, fun t S' => ∃ (o9 : Option Sv) (osB : Os), S' = ⟨[some (.d (.lst (ns.map D.int))), some (.o 0), some (.d (.int ((i : Nat) : Int))), some (.d (rowD line)), some (.o os2.length), some (.o (os2.length + 1)), o6, o7, some (.d (patO C n S)), o9, o10, o11], osB ++ [.ml ((init ++ [last]).map rowD), .ml (ls.map (patD C))]⟩ ∧
          Pn 0 ns (3000000 * i + 301 + 200000 * (dn + 1) + 10 * t) o osB, ⟨_, osA, rfl, hoA.mono (by omega)⟩, ?_, ?_⟩
        · rintro t d S' hd ⟨o9, osB, rfl, hoB⟩
          obtain ⟨ht, rfl⟩ := rngD_get hd
          have ht : t < 3 := ht
          have hB2 : osB.length = os2.length := by rw [hoB.len, hp2.len]
          refine gw_name ?_
          dsimp only [List.set_cons_zero, List.set_cons_succ]
          repeat (walk_at "b")
          refine ⟨0, .o (os2.length + 1), ls, line, last, KK, ns, _, _, rfl, lst_at (at1 hB2), hoB.pushL _, hP, by omega, by omega, fun n2 S2 osC p2 hoC => ?_⟩
          obtain ⟨osC, rfl, hpC⟩ := hoC.popL hk
          repeat (walk_at "b")
          refine bw_neWay p2 pS ?_
          repeat (walk_at "b")
          exact ⟨_, osC, rfl, hpC.mono (by omega)⟩
        · rintro S' ⟨o9, osB, rfl, hoB⟩
          rw [rngD_len] at hoB
          have hB2 : osB.length = os2.length := by rw [hoB.len, hp2.len]
          show W K _ _ _ _
          refine w_seq (w_asg (ew_call (aw_cons (ew_var rfl (aw_nil ?_)))))
          refine ⟨n, S, rfl, pS.ok, pB.ok, by omega, by omega, ?_⟩
          dsimp only [List.set_cons_zero, List.set_cons_succ]
          refine w_seq ?_
          repeat (walk_at "b")
          refine fit_is pS lI lL ?_
          repeat (walk_at "b")
          refine bw_ixO (at0 hB2) lastAt (bw_neRow ?_)
          repeat (walk_at "b")
          refine bw_ixO (at0 hB2) lastAt ?_
          repeat (walk_at "b")
          refine fit_is pB lL lI (ew_var rfl (bw_neRow ?_))
          repeat (walk_at "b")
          have lB := pB.len
          have wB := pB.wt
          refine ⟨(backP (n, S)).1, (backP (n, S)).2, rfl, pB.ok, (pB.back (p := backP (n, S))).ok, by omega, by omega, ?_⟩
          repeat (walk_at "b")
          refine bw_neWay (pB.back (p := backP (n, S))) pS ?_
          repeat (walk_at "b")
          refine ew_lc (wg_name (by decide)) mg_name ?_
          refine iw_list (ew_revS2 (ew_var rfl ⟨_, lst_at (at1 hB2), _, rfl, ?_⟩))
          refine ⟨fun j acc os2' => os2' = osB ++ [.ml ((init ++ [last]).map rowD), .ml (ls.map (patD C))] ∧ acc = ((ls.reverse.take j).map backP).map (patD C), ⟨rfl, rfl⟩, ?_, ?_⟩
          · rintro j d acc os2' hd2 ⟨rfl, rfl⟩
            rw [← List.map_reverse, List.getElem?_map] at hd2
            obtain ⟨p, hs, rfl⟩ := Option.map_eq_some_iff.mp hd2
            obtain ⟨w1, v1, K1, h1, h2, pp⟩ := Pm.PtL_mem hP p (List.mem_reverse.mp (List.mem_of_getElem? hs))
            have l1 := pp.len
            have l2 := pp.wt
            have hj : j < ls.reverse.length := (List.getElem?_eq_some_iff.mp hs).1
            have ej : ls.reverse[j] = p := (List.getElem?_eq_some_iff.mp hs).2
            have hjl : j < ls.length := by simpa using hj
            refine gw_name ?_
            dsimp only [List.set_cons_zero, List.set_cons_succ]
            refine tw_yes (br_T ?_)
            refine ew_call (aw_cons (ew_var rfl (aw_nil ?_)))
            refine ⟨p.1, p.2, rfl, pp.ok, pp.back.ok, by omega, by omega, ?_⟩
            refine ⟨_, _, rfl, rfl, by rw [List.length_map, List.length_map, List.length_take, sizeLine_eq]; omega, rfl, ?_⟩
            rw [← List.take_append_getElem hj, ej, List.map_append, List.map_append]
            rfl
          · rintro acc os2' ⟨rfl, rfl⟩
            rw [List.length_reverse, List.length_map, List.take_of_length_le (by rw [List.length_reverse]; exact Nat.le_refl _)]
            refine aw_nil ?_
            refine ⟨0, _, ls.reverse.map backP, last, line, Pm.flip KK, ns, _, _, rfl, rfl, hoB.pushL _, Pm.PtL_back hP, by rw [List.length_map, List.length_reverse]; omega, by omega, fun n2 S2 osC p2 hoC => ?_⟩
            obtain ⟨osC, rfl, hpC⟩ := hoC.popL hk
            have hC2 : osC.length = os2.length := by rw [hpC.len, hp2.len]
            repeat (walk_at "b")
            refine bw_neWay p2 pB ?_
            repeat (walk_at "b")
            refine ew_callS00 (aw_cons ?_)
            refine ew_make dfl (aw_cons (ew_cb (aw_cons (ew_var rfl (aw_nil (cw_lenU (aw_nil ?_)))))))
            rw [List.length_map]
            obtain ⟨i1, i2, i3, i4, i5⟩ := init_okB (len := line.length) (ss := []) trivial (by omega) (by decide)
            refine ⟨_, line.length, _, _, 10 ^ 30, rfl, rfl, .inl rfl, i1, i2, i3, i4, i5, rfl, _, _, rfl, ?_⟩
            repeat (walk_at "b")
            refine chain_is (Pt.nil (w := line) pS.r) pS lI lI lL fun ss hss => ?_
            rw [pS.idl] at hss
            repeat (walk_at "b")
            refine bw_neWay hss pS ?_
            repeat (walk_at "b")
            refine ew_callS00 ?_
            repeat (walk_at "b")
            refine ew_make dfl (aw_cons (ew_cb (aw_cons (ew_op (ew_var rfl (ew_negI (bw_ixO (at0 hC2) lastAt (aw_nil (cw_lenU (aw_nil ?_))))))))))
            rw [List.length_map]
            obtain ⟨i1, i2, i3, i4, i5⟩ := init_okB (len := last.length) (ss := []) trivial (by omega) (by decide)
            refine ⟨_, last.length, _, _, 10 ^ 30, rfl, rfl, .inl rfl, i1, i2, i3, i4, i5, rfl, _, _, rfl, ?_⟩
            repeat (walk_at "b")
            refine chain_is pS (Pt.nil (w := last) hRl) lI lL lL fun ss hss => ?_
            rw [pS.idr] at hss
            repeat (walk_at "b")
            refine bw_neWay hss pS ?_
            repeat (walk_at "b")
            refine ⟨.o (os2.length + 1), .o os2.length, ls, init ++ [last], rfl, lst_at (at1 hC2), lst_at (at0 hC2), by omega, ?_, hrow, ?_⟩
            · intro r hr
              rcases List.mem_append.mp hr with hr | hr
              · exact hri r hr
              · rw [List.mem_singleton.mp hr]
                exact lL
            · repeat (walk_at "b")
              exact ⟨_, _, _, _, _, _, _, _, _, _, _, _, rfl, (hpC.pushL _).mono (by omega)⟩
    · rintro S' ⟨o2, o3, o4, o5, o6, o7, o8, o9, o10, o11, o, os, rfl, ho⟩
      repeat (walk_at "b")
      exact q _
end

open PySem PySem.Spec PyProof.Rows L2 Br

theorem all_mk {l : PySem.W.OpenLaw} {w : World} {K : PySem.W.Frag} {h : Heap} {mg : Str → Option Value} {fa C M R : Addr} (X : K.In h) (G : h.Ns mainGlobals mg) (hfa : mg "law" = some (.ref fa))
    {nm q : Str} {N : Addr} {bs : List Value} {hdct : Bool} {sn : List Str} {sub : List Value} {ab : Bool} {col : Option Bool} {dd : Option Addr} {m0 m1 m2 m3 m5 : Option Value} {newId : String} {ocN : Value} {odN : Option Addr} {esN : Array DictEntry} {epN : Nat} {slN : Array (Option Value)} {TD TE : Addr} {ocT : Value} {odT odE : Option Addr} {nT nE : Nat} {slT slE : Array (Option Value)}
    {od1 an1 : Option Addr} {sl1 : Array (Option Value)} {oc1 kV1 dc1 pm1 cd1 ct1 : Value} {f1 : Addr}
    {od2 an2 : Option Addr} {sl2 : Array (Option Value)} {oc2 kV2 dc2 pm2 cd2 ct2 : Value} {f2 : Addr}
    {od3 an3 : Option Addr} {sl3 : Array (Option Value)} {oc3 kV3 dc3 pm3 cd3 ct3 : Value} {f3 : Addr}
    {od4 an4 : Option Addr} {sl4 : Array (Option Value)} {oc4 kV4 dc4 pm4 cd4 ct4 : Value} {f4 : Addr}
    {od5 an5 : Option Addr} {sl5 : Array (Option Value)} {oc5 kV5 dc5 pm5 cd5 ct5 : Value} {f5 : Addr}
    {od6 an6 : Option Addr} {sl6 : Array (Option Value)} {oc6 kV6 dc6 pm6 cd6 ct6 : Value} {f6 : Addr}
    {od7 an7 : Option Addr} {sl7 : Array (Option Value)} {oc7 kV7 dc7 pm7 cd7 ct7 : Value} {f7 : Addr}
    {od8 an8 : Option Addr} {sl8 : Array (Option Value)} {oc8 kV8 dc8 pm8 cd8 ct8 : Value} {f8 : Addr}
    {od9 an9 : Option Addr} {sl9 : Array (Option Value)} {oc9 kV9 dc9 pm9 cd9 ct9 : Value} {f9 : Addr}
    {od10 an10 : Option Addr} {sl10 : Array (Option Value)} {oc10 kV10 dc10 pm10 cd10 ct10 : Value} {f10 : Addr}
    {od11 an11 : Option Addr} {sl11 : Array (Option Value)} {oc11 kV11 dc11 pm11 cd11 ct11 : Value} {f11 : Addr}
    {od12 an12 : Option Addr} {sl12 : Array (Option Value)} {oc12 kV12 dc12 pm12 cd12 ct12 : Value} {f12 : Addr}
    {od13 an13 : Option Addr} {sl13 : Array (Option Value)} {oc13 kV13 dc13 pm13 cd13 ct13 : Value} {f13 : Addr}
    {od14 an14 : Option Addr} {sl14 : Array (Option Value)} {oc14 kV14 dc14 pm14 cd14 ct14 : Value} {f14 : Addr}
    {od15 an15 : Option Addr} {sl15 : Array (Option Value)} {oc15 kV15 dc15 pm15 cd15 ct15 : Value} {f15 : Addr}
    {od16 an16 : Option Addr} {sl16 : Array (Option Value)} {oc16 kV16 dc16 pm16 cd16 ct16 : Value} {f16 : Addr}
    {od17 an17 : Option Addr} {sl17 : Array (Option Value)} {oc17 kV17 dc17 pm17 cd17 ct17 : Value} {f17 : Addr}
    {od18 an18 : Option Addr} {sl18 : Array (Option Value)} {oc18 kV18 dc18 pm18 cd18 ct18 : Value} {f18 : Addr}
    {od19 an19 : Option Addr} {sl19 : Array (Option Value)} {oc19 kV19 dc19 pm19 cd19 ct19 : Value} {f19 : Addr}
    {od20 an20 : Option Addr} {sl20 : Array (Option Value)} {oc20 kV20 dc20 pm20 cd20 ct20 : Value} {f20 : Addr}
    {od21 an21 : Option Addr} {sl21 : Array (Option Value)} {oc21 kV21 dc21 pm21 cd21 ct21 : Value} {f21 : Addr}
    {od22 an22 : Option Addr} {sl22 : Array (Option Value)} {oc22 kV22 dc22 pm22 cd22 ct22 : Value} {f22 : Addr}
    {od23 an23 : Option Addr} {sl23 : Array (Option Value)} {oc23 kV23 dc23 pm23 cd23 ct23 : Value} {f23 : Addr}
    {od24 an24 : Option Addr} {sl24 : Array (Option Value)} {oc24 kV24 dc24 pm24 cd24 ct24 : Value} {f24 : Addr}
    {od25 an25 : Option Addr} {sl25 : Array (Option Value)} {oc25 kV25 dc25 pm25 cd25 ct25 : Value} {f25 : Addr}
    {od26 an26 : Option Addr} {sl26 : Array (Option Value)} {oc26 kV26 dc26 pm26 cd26 ct26 : Value} {f26 : Addr}
    {od27 an27 : Option Addr} {sl27 : Array (Option Value)} {oc27 kV27 dc27 pm27 cd27 ct27 : Value} {f27 : Addr}
    {od28 an28 : Option Addr} {sl28 : Array (Option Value)} {oc28 kV28 dc28 pm28 cd28 ct28 : Value} {f28 : Addr}
    {od29 an29 : Option Addr} {sl29 : Array (Option Value)} {oc29 kV29 dc29 pm29 cd29 ct29 : Value} {f29 : Addr}
    {od30 an30 : Option Addr} {sl30 : Array (Option Value)} {oc30 kV30 dc30 pm30 cd30 ct30 : Value} {f30 : Addr}
    {od31 an31 : Option Addr} {sl31 : Array (Option Value)} {oc31 kV31 dc31 pm31 cd31 ct31 : Value} {f31 : Addr}
    {od32 an32 : Option Addr} {sl32 : Array (Option Value)} {oc32 kV32 dc32 pm32 cd32 ct32 : Value} {f32 : Addr}
    {od33 an33 : Option Addr} {sl33 : Array (Option Value)} {oc33 kV33 dc33 pm33 cd33 ct33 : Value} {f33 : Addr}
    {od34 an34 : Option Addr} {sl34 : Array (Option Value)} {oc34 kV34 dc34 pm34 cd34 ct34 : Value} {f34 : Addr}
    {od35 an35 : Option Addr} {sl35 : Array (Option Value)} {oc35 kV35 dc35 pm35 cd35 ct35 : Value} {f35 : Addr}
    (aC : PySem.W.nsIn K mainGlobals "Patch" = some (some (.ref C)))
    (xL0 : K.lookup C = some (excClassObj nm q C N bs [.type "object"] hdct sn sub ab col dd m0 m1 m2 m3 m5 newId)) (lN : K.lookup N = some ⟨ocN, odN, .dict esN epN, slN⟩) (sN : strKeysB esN = true) (nN : PySem.W.nsIn K N "__ne__" = some none)
    (mk : PySem.W.makesIn K C = true) (kC : PySem.W.keepIn K (.ref C) = true) (pg : PySem.W.plainGet K C Str.empty = true) (hC : PySem.W.hasDictIn K C = true) (po : PySem.W.plainOver K C = true)
    (sa : PySem.W.findIn K (.ref C) "__setattr__" = some (some (.builtin "object.__setattr__"))) (nl : PySem.W.findIn K (.ref C) "length" = some none) (ns : PySem.W.findIn K (.ref C) "spots" = some none)
    (cC : PySem.W.findIn K (.ref C) "__class__" = some (some (.builtin "object.__class__"))) (gC : PySem.W.specialIn K (.builtin "object.__class__") "__get__" = some (some (.builtin "getset_descriptor.__get__"))) (kT : PySem.W.takesIn K (.builtin "object.__class__") = some true) (mC : PySem.W.mroIn K C (.type "object") = some true)
    (aM : PySem.W.nsIn K mainGlobals "Misfit" = some (some (.ref M))) (qM : PySem.W.excInitIn K M reMro "RuntimeError.__new__" = true) (oM : PySem.W.excOver K M reMro = true) (hM : PySem.W.hasDictIn K M = true) (sM : PySem.W.findIn K (.ref M) "__setattr__" = some (some (.builtin "object.__setattr__")))
    (eM : PySem.W.subIn K (.ref M) (.type "BaseException") = some true) (tM : PySem.W.typeIn K (.ref M) = some (.type "type")) (kM : PySem.W.keepIn K (.ref M) = true) (nM : PySem.W.findIn K (.ref M) "at" = some none)
    (vV : PySem.W.findCls K (.type "RuntimeError") (.type "type") "__init__" = some (.val (.builtin "RuntimeError.__init__")))
    (aR : PySem.W.nsIn K mainGlobals "RowBetween" = some (some (.ref R))) (mR : PySem.W.makesIn K R = true) (kR : PySem.W.keepIn K (.ref R) = true) (gR : PySem.W.plainGet K R Str.empty = true) (hR : PySem.W.hasDictIn K R = true) (oR : PySem.W.plainOver K R = true)
    (sR : PySem.W.findIn K (.ref R) "__setattr__" = some (some (.builtin "object.__setattr__"))) (n1R : PySem.W.findIn K (.ref R) "came" = some none) (n2R : PySem.W.findIn K (.ref R) "put_in" = some none) (n3R : PySem.W.findIn K (.ref R) "goes" = some none) (n4R : PySem.W.findIn K (.ref R) "wanted" = some none)
    (a1 : PySem.W.nsIn K mainGlobals "is_whole" = some (some (.ref f1)))
    (l1 : K.lookup f1 = some ⟨oc1, od1, .func (PySem.W.fnOf "is_whole" "is_whole" (defArgs s_is_whole) (defBody s_is_whole) (defScope s_is_whole) .none kV1 dc1 pm1 an1 cd1 ct1), sl1⟩) (c1 : PySem.W.codeIn K cd1 "is_whole" = true) (k1 : PySem.W.keepIn K (.ref f1) = true)
    (a2 : PySem.W.nsIn K mainGlobals "is_between" = some (some (.ref f2)))
    (l2 : K.lookup f2 = some ⟨oc2, od2, .func (PySem.W.fnOf "is_between" "is_between" (defArgs s_is_between) (defBody s_is_between) (defScope s_is_between) .none kV2 dc2 pm2 an2 cd2 ct2), sl2⟩) (c2 : PySem.W.codeIn K cd2 "is_between" = true) (k2 : PySem.W.keepIn K (.ref f2) = true)
    (a3 : PySem.W.nsIn K mainGlobals "is_tuple_of" = some (some (.ref f3)))
    (l3 : K.lookup f3 = some ⟨oc3, od3, .func (PySem.W.fnOf "is_tuple_of" "is_tuple_of" (defArgs s_is_tuple_of) (defBody s_is_tuple_of) (defScope s_is_tuple_of) .none kV3 dc3 pm3 an3 cd3 ct3), sl3⟩) (c3 : PySem.W.codeIn K cd3 "is_tuple_of" = true) (k3 : PySem.W.keepIn K (.ref f3) = true)
    (a4 : PySem.W.nsIn K mainGlobals "is_row" = some (some (.ref f4)))
    (l4 : K.lookup f4 = some ⟨oc4, od4, .func (PySem.W.fnOf "is_row" "is_row" (defArgs s_is_row) (defBody s_is_row) (defScope s_is_row) .none kV4 dc4 pm4 an4 cd4 ct4), sl4⟩) (c4 : PySem.W.codeIn K cd4 "is_row" = true) (k4 : PySem.W.keepIn K (.ref f4) = true)
    (a5 : PySem.W.nsIn K mainGlobals "is_listed" = some (some (.ref f5)))
    (l5 : K.lookup f5 = some ⟨oc5, od5, .func (PySem.W.fnOf "is_listed" "is_listed" (defArgs s_is_listed) (defBody s_is_listed) (defScope s_is_listed) .none kV5 dc5 pm5 an5 cd5 ct5), sl5⟩) (c5 : PySem.W.codeIn K cd5 "is_listed" = true) (k5 : PySem.W.keepIn K (.ref f5) = true)
    (a6 : PySem.W.nsIn K mainGlobals "copied" = some (some (.ref f6)))
    (l6 : K.lookup f6 = some ⟨oc6, od6, .func (PySem.W.fnOf "copied" "copied" (defArgs s_copied) (defBody s_copied) (defScope s_copied) .none kV6 dc6 pm6 an6 cd6 ct6), sl6⟩) (c6 : PySem.W.codeIn K cd6 "copied" = true) (k6 : PySem.W.keepIn K (.ref f6) = true)
    (a7 : PySem.W.nsIn K mainGlobals "end_of" = some (some (.ref f7)))
    (l7 : K.lookup f7 = some ⟨oc7, od7, .func (PySem.W.fnOf "end_of" "end_of" (defArgs s_end_of) (defBody s_end_of) (defScope s_end_of) .none kV7 dc7 pm7 an7 cd7 ct7), sl7⟩) (c7 : PySem.W.codeIn K cd7 "end_of" = true) (k7 : PySem.W.keepIn K (.ref f7) = true)
    (a8 : PySem.W.nsIn K mainGlobals "is_spot" = some (some (.ref f8)))
    (l8 : K.lookup f8 = some ⟨oc8, od8, .func (PySem.W.fnOf "is_spot" "is_spot" (defArgs s_is_spot) (defBody s_is_spot) (defScope s_is_spot) .none kV8 dc8 pm8 an8 cd8 ct8), sl8⟩) (c8 : PySem.W.codeIn K cd8 "is_spot" = true) (k8 : PySem.W.keepIn K (.ref f8) = true)
    (a9 : PySem.W.nsIn K mainGlobals "spot_fault" = some (some (.ref f9)))
    (l9 : K.lookup f9 = some ⟨oc9, od9, .func (PySem.W.fnOf "spot_fault" "spot_fault" (defArgs s_spot_fault) (defBody s_spot_fault) (defScope s_spot_fault) .none kV9 dc9 pm9 an9 cd9 ct9), sl9⟩) (c9 : PySem.W.codeIn K cd9 "spot_fault" = true) (k9 : PySem.W.keepIn K (.ref f9) = true)
    (a10 : PySem.W.findIn K (.ref C) "__init__" = some (some (.ref f10))) (t10 : PySem.W.isFn K (.ref f10) = true)
    (l10 : K.lookup f10 = some ⟨oc10, od10, .func (PySem.W.fnOf "__init__" "Patch.__init__" (defArgs s_Patch_init) (defBody s_Patch_init) (defScope s_Patch_init) (.ref TD) kV10 dc10 pm10 an10 cd10 ct10), sl10⟩) (c10 : PySem.W.codeIn K cd10 "Patch.__init__" = true) (k10 : PySem.W.keepIn K (.ref f10) = true)
    (lT : K.lookup TD = some ⟨ocT, odT, .seq #[.ref TE] nT, slT⟩) (lTE : K.lookup TE = some ⟨.type "tuple", odE, .seq #[] nE, slE⟩)
    (a11 : PySem.W.nsIn K N "__eq__" = some (some (.ref f11))) (t11 : PySem.W.typeIn K (.ref f11) = some (.type "function"))
    (l11 : K.lookup f11 = some ⟨oc11, od11, .func (PySem.W.fnOf "__eq__" "Patch.__eq__" (defArgs s_Patch_eq) (defBody s_Patch_eq) (defScope s_Patch_eq) .none kV11 dc11 pm11 an11 cd11 ct11), sl11⟩) (c11 : PySem.W.codeIn K cd11 "Patch.__eq__" = true) (k11 : PySem.W.keepIn K (.ref f11) = true)
    (eI : PySem.W.findIn K (.ref C) "__eq__" = some (some (.ref f11))) (eF : PySem.W.isFn K (.ref f11) = true)
    (a12 : PySem.W.findIn K (.ref M) "__init__" = some (some (.ref f12))) (t12 : PySem.W.typeIn K (.ref f12) = some (.type "function"))
    (l12 : K.lookup f12 = some ⟨oc12, od12, .func (PySem.W.fnOf "__init__" "Misfit.__init__" (defArgs s_Misfit_init) (defBody s_Misfit_init) (defScope s_Misfit_init) .none kV12 dc12 pm12 an12 cd12 ct12), sl12⟩) (c12 : PySem.W.codeIn K cd12 "Misfit.__init__" = true) (k12 : PySem.W.keepIn K (.ref f12) = true)
    (a13 : PySem.W.nsIn K mainGlobals "growth_of" = some (some (.ref f13)))
    (l13 : K.lookup f13 = some ⟨oc13, od13, .func (PySem.W.fnOf "growth_of" "growth_of" (defArgs s_growth_of) (defBody s_growth_of) (defScope s_growth_of) .none kV13 dc13 pm13 an13 cd13 ct13), sl13⟩) (c13 : PySem.W.codeIn K cd13 "growth_of" = true) (k13 : PySem.W.keepIn K (.ref f13) = true)
    (a14 : PySem.W.nsIn K mainGlobals "length_behind" = some (some (.ref f14)))
    (l14 : K.lookup f14 = some ⟨oc14, od14, .func (PySem.W.fnOf "length_behind" "length_behind" (defArgs s_length_behind) (defBody s_length_behind) (defScope s_length_behind) .none kV14 dc14 pm14 an14 cd14 ct14), sl14⟩) (c14 : PySem.W.codeIn K cd14 "length_behind" = true) (k14 : PySem.W.keepIn K (.ref f14) = true)
    (a15 : PySem.W.nsIn K mainGlobals "misfit_place" = some (some (.ref f15)))
    (l15 : K.lookup f15 = some ⟨oc15, od15, .func (PySem.W.fnOf "misfit_place" "misfit_place" (defArgs s_misfit_place) (defBody s_misfit_place) (defScope s_misfit_place) .none kV15 dc15 pm15 an15 cd15 ct15), sl15⟩) (c15 : PySem.W.codeIn K cd15 "misfit_place" = true) (k15 : PySem.W.keepIn K (.ref f15) = true)
    (a16 : PySem.W.nsIn K mainGlobals "fitted" = some (some (.ref f16)))
    (l16 : K.lookup f16 = some ⟨oc16, od16, .func (PySem.W.fnOf "fitted" "fitted" (defArgs s_fitted) (defBody s_fitted) (defScope s_fitted) .none kV16 dc16 pm16 an16 cd16 ct16), sl16⟩) (c16 : PySem.W.codeIn K cd16 "fitted" = true) (k16 : PySem.W.keepIn K (.ref f16) = true)
    (a17 : PySem.W.nsIn K mainGlobals "by_place" = some (some (.ref f17)))
    (l17 : K.lookup f17 = some ⟨oc17, od17, .func (PySem.W.fnOf "by_place" "by_place" (defArgs s_by_place) (defBody s_by_place) (defScope s_by_place) .none kV17 dc17 pm17 an17 cd17 ct17), sl17⟩) (c17 : PySem.W.codeIn K cd17 "by_place" = true) (k17 : PySem.W.keepIn K (.ref f17) = true)
    (a18 : PySem.W.nsIn K mainGlobals "row_walked" = some (some (.ref f18)))
    (l18 : K.lookup f18 = some ⟨oc18, od18, .func (PySem.W.fnOf "row_walked" "row_walked" (defArgs s_row_walked) (defBody s_row_walked) (defScope s_row_walked) .none kV18 dc18 pm18 an18 cd18 ct18), sl18⟩) (c18 : PySem.W.codeIn K cd18 "row_walked" = true) (k18 : PySem.W.keepIn K (.ref f18) = true)
    (a19 : PySem.W.findIn K (.ref R) "__init__" = some (some (.ref f19))) (t19 : PySem.W.isFn K (.ref f19) = true)
    (l19 : K.lookup f19 = some ⟨oc19, od19, .func (PySem.W.fnOf "__init__" "RowBetween.__init__" (defArgs s_RowBetween_init) (defBody s_RowBetween_init) (defScope s_RowBetween_init) .none kV19 dc19 pm19 an19 cd19 ct19), sl19⟩) (c19 : PySem.W.codeIn K cd19 "RowBetween.__init__" = true) (k19 : PySem.W.keepIn K (.ref f19) = true)
    (a20 : PySem.W.findIn K (.ref R) "unlike_place" = some (some (.ref f20))) (t20 : PySem.W.isFn K (.ref f20) = true)
    (l20 : K.lookup f20 = some ⟨oc20, od20, .func (PySem.W.fnOf "unlike_place" "RowBetween.unlike_place" (defArgs s_RowBetween_unlike_place) (defBody s_RowBetween_unlike_place) (defScope s_RowBetween_unlike_place) .none kV20 dc20 pm20 an20 cd20 ct20), sl20⟩) (c20 : PySem.W.codeIn K cd20 "RowBetween.unlike_place" = true) (k20 : PySem.W.keepIn K (.ref f20) = true)
    (a21 : PySem.W.findIn K (.ref R) "begins_and_ends" = some (some (.ref f21))) (t21 : PySem.W.isFn K (.ref f21) = true)
    (l21 : K.lookup f21 = some ⟨oc21, od21, .func (PySem.W.fnOf "begins_and_ends" "RowBetween.begins_and_ends" (defArgs s_RowBetween_begins_and_ends) (defBody s_RowBetween_begins_and_ends) (defScope s_RowBetween_begins_and_ends) .none kV21 dc21 pm21 an21 cd21 ct21), sl21⟩) (c21 : PySem.W.codeIn K cd21 "RowBetween.begins_and_ends" = true) (k21 : PySem.W.keepIn K (.ref f21) = true)
    (a22 : PySem.W.findIn K (.ref R) "spans" = some (some (.ref f22))) (t22 : PySem.W.isFn K (.ref f22) = true)
    (l22 : K.lookup f22 = some ⟨oc22, od22, .func (PySem.W.fnOf "spans" "RowBetween.spans" (defArgs s_RowBetween_spans) (defBody s_RowBetween_spans) (defScope s_RowBetween_spans) .none kV22 dc22 pm22 an22 cd22 ct22), sl22⟩) (c22 : PySem.W.codeIn K cd22 "RowBetween.spans" = true) (k22 : PySem.W.keepIn K (.ref f22) = true)
    (a23 : PySem.W.findIn K (.ref R) "spot_of" = some (some (.ref f23))) (t23 : PySem.W.isFn K (.ref f23) = true)
    (l23 : K.lookup f23 = some ⟨oc23, od23, .func (PySem.W.fnOf "spot_of" "RowBetween.spot_of" (defArgs s_RowBetween_spot_of) (defBody s_RowBetween_spot_of) (defScope s_RowBetween_spot_of) .none kV23 dc23 pm23 an23 cd23 ct23), sl23⟩) (c23 : PySem.W.codeIn K cd23 "RowBetween.spot_of" = true) (k23 : PySem.W.keepIn K (.ref f23) = true)
    (a24 : PySem.W.nsIn K mainGlobals "chained" = some (some (.ref f24)))
    (l24 : K.lookup f24 = some ⟨oc24, od24, .func (PySem.W.fnOf "chained" "chained" (defArgs s_chained) (defBody s_chained) (defScope s_chained) .none kV24 dc24 pm24 an24 cd24 ct24), sl24⟩) (c24 : PySem.W.codeIn K cd24 "chained" = true) (k24 : PySem.W.keepIn K (.ref f24) = true)
    (a25 : PySem.W.nsIn K mainGlobals "turned_back" = some (some (.ref f25)))
    (l25 : K.lookup f25 = some ⟨oc25, od25, .func (PySem.W.fnOf "turned_back" "turned_back" (defArgs s_turned_back) (defBody s_turned_back) (defScope s_turned_back) .none kV25 dc25 pm25 an25 cd25 ct25), sl25⟩) (c25 : PySem.W.codeIn K cd25 "turned_back" = true) (k25 : PySem.W.keepIn K (.ref f25) = true)
    (a26 : PySem.W.nsIn K mainGlobals "_law_feed" = some (some (.ref f26)))
    (l26 : K.lookup f26 = some ⟨oc26, od26, .func (PySem.W.fnOf "_law_feed" "_law_feed" (defArgs s_l_feed) (defBody s_l_feed) (defScope s_l_feed) .none kV26 dc26 pm26 an26 cd26 ct26), sl26⟩) (c26 : PySem.W.codeIn K cd26 "_law_feed" = true) (k26 : PySem.W.keepIn K (.ref f26) = true)
    (a27 : PySem.W.nsIn K mainGlobals "_law_draw" = some (some (.ref f27)))
    (l27 : K.lookup f27 = some ⟨oc27, od27, .func (PySem.W.fnOf "_law_draw" "_law_draw" (defArgs s_l_draw) (defBody s_l_draw) (defScope s_l_draw) .none kV27 dc27 pm27 an27 cd27 ct27), sl27⟩) (c27 : PySem.W.codeIn K cd27 "_law_draw" = true) (k27 : PySem.W.keepIn K (.ref f27) = true)
    (a28 : PySem.W.nsIn K mainGlobals "_law_pick" = some (some (.ref f28)))
    (l28 : K.lookup f28 = some ⟨oc28, od28, .func (PySem.W.fnOf "_law_pick" "_law_pick" (defArgs s_l_pick) (defBody s_l_pick) (defScope s_l_pick) .none kV28 dc28 pm28 an28 cd28 ct28), sl28⟩) (c28 : PySem.W.codeIn K cd28 "_law_pick" = true) (k28 : PySem.W.keepIn K (.ref f28) = true)
    (a29 : PySem.W.nsIn K mainGlobals "_law_bytes" = some (some (.ref f29)))
    (l29 : K.lookup f29 = some ⟨oc29, od29, .func (PySem.W.fnOf "_law_bytes" "_law_bytes" (defArgs s_l_bytes) (defBody s_l_bytes) (defScope s_l_bytes) .none kV29 dc29 pm29 an29 cd29 ct29), sl29⟩) (c29 : PySem.W.codeIn K cd29 "_law_bytes" = true) (k29 : PySem.W.keepIn K (.ref f29) = true)
    (a30 : PySem.W.nsIn K mainGlobals "_law_spots" = some (some (.ref f30)))
    (l30 : K.lookup f30 = some ⟨oc30, od30, .func (PySem.W.fnOf "_law_spots" "_law_spots" (defArgs s_l_spots) (defBody s_l_spots) (defScope s_l_spots) .none kV30 dc30 pm30 an30 cd30 ct30), sl30⟩) (c30 : PySem.W.codeIn K cd30 "_law_spots" = true) (k30 : PySem.W.keepIn K (.ref f30) = true)
    (a31 : PySem.W.nsIn K mainGlobals "_law_fit" = some (some (.ref f31)))
    (l31 : K.lookup f31 = some ⟨oc31, od31, .func (PySem.W.fnOf "_law_fit" "_law_fit" (defArgs s_l_fit) (defBody s_l_fit) (defScope s_l_fit) .none kV31 dc31 pm31 an31 cd31 ct31), sl31⟩) (c31 : PySem.W.codeIn K cd31 "_law_fit" = true) (k31 : PySem.W.keepIn K (.ref f31) = true)
    (a32 : PySem.W.nsIn K mainGlobals "_law_in_groups" = some (some (.ref f32)))
    (l32 : K.lookup f32 = some ⟨oc32, od32, .func (PySem.W.fnOf "_law_in_groups" "_law_in_groups" (defArgs s_l_in_groups) (defBody s_l_in_groups) (defScope s_l_in_groups) .none kV32 dc32 pm32 an32 cd32 ct32), sl32⟩) (c32 : PySem.W.codeIn K cd32 "_law_in_groups" = true) (k32 : PySem.W.keepIn K (.ref f32) = true)
    (a33 : PySem.W.nsIn K mainGlobals "_law_joined_up" = some (some (.ref f33)))
    (l33 : K.lookup f33 = some ⟨oc33, od33, .func (PySem.W.fnOf "_law_joined_up" "_law_joined_up" (defArgs s_l_joined_up) (defBody s_l_joined_up) (defScope s_l_joined_up) .none kV33 dc33 pm33 an33 cd33 ct33), sl33⟩) (c33 : PySem.W.codeIn K cd33 "_law_joined_up" = true) (k33 : PySem.W.keepIn K (.ref f33) = true)
    (a34 : PySem.W.nsIn K mainGlobals "_law_are_seen" = some (some (.ref f34)))
    (l34 : K.lookup f34 = some ⟨oc34, od34, .func (PySem.W.fnOf "_law_are_seen" "_law_are_seen" (defArgs s_l_are_seen) (defBody s_l_are_seen) (defScope s_l_are_seen) .none kV34 dc34 pm34 an34 cd34 ct34), sl34⟩) (c34 : PySem.W.codeIn K cd34 "_law_are_seen" = true) (k34 : PySem.W.keepIn K (.ref f34) = true)
    (a35 : PySem.W.nsIn K mainGlobals "law" = some (some (.ref f35)))
    (l35 : K.lookup f35 = some ⟨oc35, od35, .func (PySem.W.fnOf "law" "law" (defArgs s_law) (defBody s_law) (defScope s_law) .none kV35 dc35 pm35 an35 cd35 ct35), sl35⟩) (c35 : PySem.W.codeIn K cd35 "law" = true) (k35 : PySem.W.keepIn K (.ref f35) = true)
    (z_len : PySem.W.nsIn K mainGlobals "len" = some none) (z_abs : PySem.W.nsIn K mainGlobals "abs" = some none) (z_range : PySem.W.nsIn K mainGlobals "range" = some none) (z_int : PySem.W.nsIn K mainGlobals "int" = some none) (z_isinstance : PySem.W.nsIn K mainGlobals "isinstance" = some none) (z_str : PySem.W.nsIn K mainGlobals "str" = some none) (z_tuple : PySem.W.nsIn K mainGlobals "tuple" = some none) (z_bool : PySem.W.nsIn K mainGlobals "bool" = some none) (z_min : PySem.W.nsIn K mainGlobals "min" = some none) (z_max : PySem.W.nsIn K mainGlobals "max" = some none) (z_sum : PySem.W.nsIn K mainGlobals "sum" = some none) (z_sorted : PySem.W.nsIn K mainGlobals "sorted" = some none) (z_list : PySem.W.nsIn K mainGlobals "list" = some none) (z_dict : PySem.W.nsIn K mainGlobals "dict" = some none) (z_enumerate : PySem.W.nsIn K mainGlobals "enumerate" = some none) (z_all : PySem.W.nsIn K mainGlobals "all" = some none) (z_RuntimeError : PySem.W.nsIn K mainGlobals "RuntimeError" = some none) :
    ∃ fd : FuncData, (∀ (s : Shared) (v : Value), BindsTo s fd ⟨[v], []⟩ [("_law_script", v)]) ∧ ∀ base : Heap, K.In base → base.Ns mainGlobals mg → FnG l.prog w K mg base 12 fa fd ["_law_script"] (spD K fLaw) := by
  have e := hfa.symm.trans (PySem.W.mg_of X G a35)
  cases e
  have y_len := PySem.W.mg_none_of X G z_len
  have y_abs := PySem.W.mg_none_of X G z_abs
  have y_range := PySem.W.mg_none_of X G z_range
  have y_int := PySem.W.mg_none_of X G z_int
  have y_isinstance := PySem.W.mg_none_of X G z_isinstance
  have y_str := PySem.W.mg_none_of X G z_str
  have y_tuple := PySem.W.mg_none_of X G z_tuple
  have y_bool := PySem.W.mg_none_of X G z_bool
  have y_min := PySem.W.mg_none_of X G z_min
  have y_max := PySem.W.mg_none_of X G z_max
  have y_sum := PySem.W.mg_none_of X G z_sum
  have y_sorted := PySem.W.mg_none_of X G z_sorted
  have y_list := PySem.W.mg_none_of X G z_list
  have y_dict := PySem.W.mg_none_of X G z_dict
  have y_enumerate := PySem.W.mg_none_of X G z_enumerate
  have y_all := PySem.W.mg_none_of X G z_all
  have y_RuntimeError := PySem.W.mg_none_of X G z_RuntimeError
  have KC : Cls K C := { pg := pg, hd := hC, po := po, sa := sa }
  have KR : Cls K R := { pg := gR, hd := hR, po := oR, sa := sR }
  have TR : Rcl K R := ⟨KR, n1R, n2R, n3R, n4R⟩
  have TC : Pcl K C := { i := { c := KC, ha := cC, hn := gC, tk := kT, hm := mC }, nl := nl, ns := ns }
  have F1 := fun_mk (st := s_is_whole) l1 c1 k1
  have b1 := F1.binds (ps := ["thing"]) fun _ _ _ _ _ _ us hl => match us, hl with | [_], _ => rfl
  have C1 : Cal K mg "is_whole" f1 _ ["thing"] := ⟨PySem.W.mg_of X G a1, k1, b1⟩
  have F2 := fun_mk (st := s_is_between) l2 c2 k2
  have b2 := F2.binds (ps := ["thing", "least", "most"]) fun _ _ _ _ _ _ us hl => match us, hl with | [_, _, _], _ => rfl
  have C2 : Cal K mg "is_between" f2 _ ["thing", "least", "most"] := ⟨PySem.W.mg_of X G a2, k2, b2⟩
  have F3 := fun_mk (st := s_is_tuple_of) l3 c3 k3
  have b3 := F3.binds (ps := ["thing", "many"]) fun _ _ _ _ _ _ us hl => match us, hl with | [_, _], _ => rfl
  have C3 : Cal K mg "is_tuple_of" f3 _ ["thing", "many"] := ⟨PySem.W.mg_of X G a3, k3, b3⟩
  have F4 := fun_mk (st := s_is_row) l4 c4 k4
  have b4 := F4.binds (ps := ["thing"]) fun _ _ _ _ _ _ us hl => match us, hl with | [_], _ => rfl
  have C4 : Cal K mg "is_row" f4 _ ["thing"] := ⟨PySem.W.mg_of X G a4, k4, b4⟩
  have F5 := fun_mk (st := s_is_listed) l5 c5 k5
  have b5 := F5.binds (ps := ["thing"]) fun _ _ _ _ _ _ us hl => match us, hl with | [_], _ => rfl
  have C5 : Cal K mg "is_listed" f5 _ ["thing"] := ⟨PySem.W.mg_of X G a5, k5, b5⟩
  have F6 := fun_mk (st := s_copied) l6 c6 k6
  have b6 := F6.binds (ps := ["thing"]) fun _ _ _ _ _ _ us hl => match us, hl with | [_], _ => rfl
  have C6 : Cal K mg "copied" f6 _ ["thing"] := ⟨PySem.W.mg_of X G a6, k6, b6⟩
  have F7 := fun_mk (st := s_end_of) l7 c7 k7
  have b7 := F7.binds (ps := ["spot"]) fun _ _ _ _ _ _ us hl => match us, hl with | [_], _ => rfl
  have C7 : Cal K mg "end_of" f7 _ ["spot"] := ⟨PySem.W.mg_of X G a7, k7, b7⟩
  have F8 := fun_mk (st := s_is_spot) l8 c8 k8
  have b8 := F8.binds (ps := ["thing"]) fun _ _ _ _ _ _ us hl => match us, hl with | [_], _ => rfl
  have C8 : Cal K mg "is_spot" f8 _ ["thing"] := ⟨PySem.W.mg_of X G a8, k8, b8⟩
  have F9 := fun_mk (st := s_spot_fault) l9 c9 k9
  have b9 := F9.binds (ps := ["length", "spots"]) fun _ _ _ _ _ _ us hl => match us, hl with | [_, _], _ => rfl
  have C9 : Cal K mg "spot_fault" f9 _ ["length", "spots"] := ⟨PySem.W.mg_of X G a9, k9, b9⟩
  have F10 : FunD K "__init__" "Patch.__init__" (defArgs s_Patch_init) (defBody s_Patch_init) (defScope s_Patch_init) [V.ref TE] [] f10 (PySem.W.fnOf "__init__" "Patch.__init__" (defArgs s_Patch_init) (defBody s_Patch_init) (defScope s_Patch_init) (.ref TD) kV10 dc10 pm10 an10 cd10 ct10) := ⟨⟨oc10, od10, .ref TD, kV10, dc10, pm10, an10, cd10, ct10, sl10, rfl, l10, c10, .inr ⟨by simp, TD, _, [.ref TE], nT, rfl, lT, rfl, .cons rfl .nil⟩, .inl rfl⟩, k10⟩
  have bI : Binds K (PySem.W.fnOf "__init__" "Patch.__init__" (defArgs s_Patch_init) (defBody s_Patch_init) (defScope s_Patch_init) (.ref TD) kV10 dc10 pm10 an10 cd10 ct10) ["self", "length", "spots"] [] := by
    obtain ⟨ds, r, z⟩ := F10.binds1 (ps := ["self", "length", "spots"]) 3 1 (by simp) rfl fun T kV doc pm an cdv ct us its hu hi => match us, hu, its, hi with | [_, _, _], _, [_], _ => ⟨_, rfl, rfl⟩
    cases r
    exact z
  have bD : Binds K (PySem.W.fnOf "__init__" "Patch.__init__" (defArgs s_Patch_init) (defBody s_Patch_init) (defScope s_Patch_init) (.ref TD) kV10 dc10 pm10 an10 cd10 ct10) ["self", "length", "spots"] [Value.ref TE] := by
    obtain ⟨ds, r, z⟩ := F10.binds1 (ps := ["self", "length", "spots"]) 2 0 (by simp) rfl fun T kV doc pm an cdv ct us its hu hi => match us, hu, its, hi with | [_, _], _, [_], _ => ⟨_, rfl, rfl⟩
    obtain ⟨u, rfl, ru⟩ := vals1 r
    cases (show u = Value.ref TE from ru)
    exact z
  have F11 := fun_mk (st := s_Patch_eq) l11 c11 k11
  have b11 := F11.binds (ps := ["self", "other"]) fun _ _ _ _ _ _ us hl => match us, hl with | [_, _], _ => rfl
  have F12 := fun_mk (st := s_Misfit_init) l12 c12 k12
  have b12 := F12.binds (ps := ["self", "at"]) fun _ _ _ _ _ _ us hl => match us, hl with | [_, _], _ => rfl
  have F13 := fun_mk (st := s_growth_of) l13 c13 k13
  have b13 := F13.binds (ps := ["spots"]) fun _ _ _ _ _ _ us hl => match us, hl with | [_], _ => rfl
  have C13 : Cal K mg "growth_of" f13 _ ["spots"] := ⟨PySem.W.mg_of X G a13, k13, b13⟩
  have F14 := fun_mk (st := s_length_behind) l14 c14 k14
  have b14 := F14.binds (ps := ["patch"]) fun _ _ _ _ _ _ us hl => match us, hl with | [_], _ => rfl
  have C14 : Cal K mg "length_behind" f14 _ ["patch"] := ⟨PySem.W.mg_of X G a14, k14, b14⟩
  have F15 := fun_mk (st := s_misfit_place) l15 c15 k15
  have b15 := F15.binds (ps := ["patch", "row"]) fun _ _ _ _ _ _ us hl => match us, hl with | [_, _], _ => rfl
  have C15 : Cal K mg "misfit_place" f15 _ ["patch", "row"] := ⟨PySem.W.mg_of X G a15, k15, b15⟩
  have F16 := fun_mk (st := s_fitted) l16 c16 k16
  have b16 := F16.binds (ps := ["patch", "row"]) fun _ _ _ _ _ _ us hl => match us, hl with | [_, _], _ => rfl
  have C16 : Cal K mg "fitted" f16 _ ["patch", "row"] := ⟨PySem.W.mg_of X G a16, k16, b16⟩
  have F17 := fun_mk (st := s_by_place) l17 c17 k17
  have b17 := F17.binds (ps := ["begin", "row"]) fun _ _ _ _ _ _ us hl => match us, hl with | [_, _], _ => rfl
  have C17 : Cal K mg "by_place" f17 _ ["begin", "row"] := ⟨PySem.W.mg_of X G a17, k17, b17⟩
  have F18 := fun_mk (st := s_row_walked) l18 c18 k18
  have b18 := F18.binds (ps := ["begin", "end", "spots", "known"]) fun _ _ _ _ _ _ us hl => match us, hl with | [_, _, _, _], _ => rfl
  have C18 : Cal K mg "row_walked" f18 _ ["begin", "end", "spots", "known"] := ⟨PySem.W.mg_of X G a18, k18, b18⟩
  have F19 := fun_mk (st := s_RowBetween_init) l19 c19 k19
  have b19 := F19.binds (ps := ["self", "spots", "others"]) fun _ _ _ _ _ _ us hl => match us, hl with | [_, _, _], _ => rfl
  have F20 := fun_mk (st := s_RowBetween_unlike_place) l20 c20 k20
  have b20 := F20.binds (ps := ["self"]) fun _ _ _ _ _ _ us hl => match us, hl with | [_], _ => rfl
  have C20 : Mth K R "unlike_place" f20 _ ["self"] := ⟨KR, ⟨a20, t20, k20⟩, b20⟩
  have F21 := fun_mk (st := s_RowBetween_begins_and_ends) l21 c21 k21
  have b21 := F21.binds (ps := ["self"]) fun _ _ _ _ _ _ us hl => match us, hl with | [_], _ => rfl
  have C21 : Mth K R "begins_and_ends" f21 _ ["self"] := ⟨KR, ⟨a21, t21, k21⟩, b21⟩
  have F22 := fun_mk (st := s_RowBetween_spans) l22 c22 k22
  have b22 := F22.binds (ps := ["self"]) fun _ _ _ _ _ _ us hl => match us, hl with | [_], _ => rfl
  have C22 : Mth K R "spans" f22 _ ["self"] := ⟨KR, ⟨a22, t22, k22⟩, b22⟩
  have F23 := fun_mk (st := s_RowBetween_spot_of) l23 c23 k23
  have b23 := F23.binds (ps := ["self", "begin", "end"]) fun _ _ _ _ _ _ us hl => match us, hl with | [_, _, _], _ => rfl
  have C23 : Mth K R "spot_of" f23 _ ["self", "begin", "end"] := ⟨KR, ⟨a23, t23, k23⟩, b23⟩
  have F24 := fun_mk (st := s_chained) l24 c24 k24
  have b24 := F24.binds (ps := ["one", "other"]) fun _ _ _ _ _ _ us hl => match us, hl with | [_, _], _ => rfl
  have C24 : Cal K mg "chained" f24 _ ["one", "other"] := ⟨PySem.W.mg_of X G a24, k24, b24⟩
  have F25 := fun_mk (st := s_turned_back) l25 c25 k25
  have b25 := F25.binds (ps := ["patch"]) fun _ _ _ _ _ _ us hl => match us, hl with | [_], _ => rfl
  have C25 : Cal K mg "turned_back" f25 _ ["patch"] := ⟨PySem.W.mg_of X G a25, k25, b25⟩
  have F26 := fun_mk (st := s_l_feed) l26 c26 k26
  have b26 := F26.binds (ps := ["_law_script"]) fun _ _ _ _ _ _ us hl => match us, hl with | [_], _ => rfl
  have C26 : Cal K mg "_law_feed" f26 _ ["_law_script"] := ⟨PySem.W.mg_of X G a26, k26, b26⟩
  have F27 := fun_mk (st := s_l_draw) l27 c27 k27
  have b27 := F27.binds (ps := ["_law_feed_here", "_law_many"]) fun _ _ _ _ _ _ us hl => match us, hl with | [_, _], _ => rfl
  have C27 : Cal K mg "_law_draw" f27 _ ["_law_feed_here", "_law_many"] := ⟨PySem.W.mg_of X G a27, k27, b27⟩
  have F28 := fun_mk (st := s_l_pick) l28 c28 k28
  have b28 := F28.binds (ps := ["_law_feed_here", "_law_some"]) fun _ _ _ _ _ _ us hl => match us, hl with | [_, _], _ => rfl
  have C28 : Cal K mg "_law_pick" f28 _ ["_law_feed_here", "_law_some"] := ⟨PySem.W.mg_of X G a28, k28, b28⟩
  have F29 := fun_mk (st := s_l_bytes) l29 c29 k29
  have b29 := F29.binds (ps := ["_law_feed_here", "_law_most"]) fun _ _ _ _ _ _ us hl => match us, hl with | [_, _], _ => rfl
  have C29 : Cal K mg "_law_bytes" f29 _ ["_law_feed_here", "_law_most"] := ⟨PySem.W.mg_of X G a29, k29, b29⟩
  have F30 := fun_mk (st := s_l_spots) l30 c30 k30
  have b30 := F30.binds (ps := ["_law_feed_here", "_law_line"]) fun _ _ _ _ _ _ us hl => match us, hl with | [_, _], _ => rfl
  have C30 : Cal K mg "_law_spots" f30 _ ["_law_feed_here", "_law_line"] := ⟨PySem.W.mg_of X G a30, k30, b30⟩
  have F31 := fun_mk (st := s_l_fit) l31 c31 k31
  have b31 := F31.binds (ps := ["_law_line", "_law_some"]) fun _ _ _ _ _ _ us hl => match us, hl with | [_, _], _ => rfl
  have C31 : Cal K mg "_law_fit" f31 _ ["_law_line", "_law_some"] := ⟨PySem.W.mg_of X G a31, k31, b31⟩
  have F32 := fun_mk (st := s_l_in_groups) l32 c32 k32
  have b32 := F32.binds (ps := ["_law_feed_here", "_law_some"]) fun _ _ _ _ _ _ us hl => match us, hl with | [_, _], _ => rfl
  have C32 : Cal K mg "_law_in_groups" f32 _ ["_law_feed_here", "_law_some"] := ⟨PySem.W.mg_of X G a32, k32, b32⟩
  have F33 := fun_mk (st := s_l_joined_up) l33 c33 k33
  have b33 := F33.binds (ps := ["_law_some"]) fun _ _ _ _ _ _ us hl => match us, hl with | [_], _ => rfl
  have C33 : Cal K mg "_law_joined_up" f33 _ ["_law_some"] := ⟨PySem.W.mg_of X G a33, k33, b33⟩
  have F34 := fun_mk (st := s_l_are_seen) l34 c34 k34
  have b34 := F34.binds (ps := ["_law_some", "_law_lines"]) fun _ _ _ _ _ _ us hl => match us, hl with | [_, _], _ => rfl
  have C34 : Cal K mg "_law_are_seen" f34 _ ["_law_some", "_law_lines"] := ⟨PySem.W.mg_of X G a34, k34, b34⟩
  have F35 := fun_mk (st := s_law) l35 c35 k35
  have b35 := F35.binds (ps := ["_law_script"]) fun _ _ _ _ _ _ us hl => match us, hl with | [_], _ => rfl
  have KB : KBn K (PySem.W.fnOf "turned_back" "turned_back" (defArgs s_turned_back) (defBody s_turned_back) (defScope s_turned_back) .none kV25 dc25 pm25 an25 cd25 ct25) ["patch"] 0 ["patch"] (fun _ zs => zs) (fun _ zs => zs) := ⟨fun s us ws _ h1 h2 => match us, h1, ws, h2 with | [], _, [_], _ => .of_eq rfl, fun _ r => r⟩
  have YC : Ycl K mg "Patch" C f10 _ ["self", "length", "spots"] := { M := { makes := mk, init := a10, fn := t10, kp := kC }, c := KC, m := PySem.W.mg_of X G aC, b := bI }
  have YR : Ycl K mg "RowBetween" R f19 _ ["self", "spots", "others"] := { M := { makes := mR, init := a19, fn := t19, kp := kR }, c := KR, m := PySem.W.mg_of X G aR, b := b19 }
  have QC : EqC K C f11 := { cls := ⟨nm, q, N, bs, hdct, sn, sub, ab, col, dd, m0, m1, m2, m3, m5, newId, xL0, ⟨_, _, _, _, _, lN, sN⟩, a11, nN⟩ }
  have hTE : WrT K TE [] := ⟨_, #[], nE, lTE, rfl, rfl, Nat.zero_le _, .nil⟩
  have TM : OeB K M reMro "RuntimeError.__new__" := { q := qM, ov := oM, hd := hM, sa := sM, exC := eM, tyC := tM, kC := kM }
  have XM : Xre K mg "Misfit" M f12 _ ["self", "at"] := ⟨TM, a12, t12, b12, PySem.W.mg_of X G aM⟩
  refine ⟨(PySem.W.fnOf "law" "law" (defArgs s_law) (defBody s_law) (defScope s_law) .none kV35 dc35 pm35 an35 cd35 ct35), fun s v => .of_eq rfl, fun base _ _ => ?_⟩
  have h1 : FnOk l.prog w K mg base CX0 1 f1 _ ["thing"] (spD K fWhole) := ok_is_whole F1 y_isinstance y_int y_bool
  have h2 : FnOk l.prog w K mg base CX0 2 f2 _ ["thing", "least", "most"] (spD K fBetw) := ok_is_between F2 h1 C1
  have h3 : FnOk l.prog w K mg base CX0 1 f3 _ ["thing", "many"] (spD K fTupOf) := ok_is_tuple_of F3 y_isinstance y_tuple y_len
  have h4 : FnOk l.prog w K mg base CX0 3 f4 _ ["thing"] (spD K fRow) := ok_is_row F4 y_isinstance y_tuple y_all h2 C2
  have h5 : FnOk l.prog w K mg base CX0 1 f5 _ ["thing"] (spD K fListed) := ok_is_listed F5 y_isinstance y_tuple y_list
  have hcop : ∀ n, FnOk l.prog w K mg base CX0 (n + 1) f6 _ ["thing"] (spD K (fCop n)) := ok_copied F6 y_isinstance y_bool y_int y_str y_list y_tuple y_dict C6
  have hcopO : FnOk l.prog w K mg base CX0 2 f6 _ ["thing"] (spD K fCopO) := ok_copiedO F6 y_isinstance y_bool y_int y_str y_list y_tuple y_dict (hcop 0) C6
  have h7 : FnOk l.prog w K mg base CX0 1 f7 _ ["spot"] (spD K fEnd) := ok_end_of F7 y_len
  have h8 : FnOk l.prog w K mg base CX0 4 f8 _ ["thing"] (spD K fIsSpot) := ok_is_spot F8 y_len h3 C3 h1 C1 h4 C4
  have h9 : FnOk l.prog w K mg base CX0 5 f9 _ ["length", "spots"] (spD K fFault) := ok_spot_fault F9 y_enumerate h8 C8 h7 C7
  have h10 : FnOk l.prog w K mg base CX0 6 f10 _ ["self", "length", "spots"] (spD K (fInit C)) := ok_Patch_init F10 TC y_tuple h1 C1 h5 C5 h9 C9 (hcop 3) C6
  have h11 : FnOk l.prog w K mg base CX0 1 f11 _ ["self", "other"] (spD K (fEq C)) := ok_Patch_eq F11 TC y_isinstance YC
  have h12 : FnOk l.prog w K mg base CX0 2 f12 _ ["self", "at"] (spI1 M "at" isAt) := ok_Misfit_init F12 TM nM y_RuntimeError vV (hcop 0) C6
  have h13 : FnOk l.prog w K mg base CX0 1 f13 _ ["spots"] (spD K fGrow) := ok_growth_of F13 y_len y_sum
  have h14 : FnOk l.prog w K mg base CX0 2 f14 _ ["patch"] (spD K (fLenB C)) := ok_length_behind F14 TC h13 C13
  have h15 : FnOk l.prog w K mg base CX0 1 f15 _ ["patch", "row"] (spD K (fMis C)) := ok_misfit_place F15 TC y_len y_min y_enumerate
  have hfit0 : FnOk l.prog w K mg base CX0 3 f16 _ ["patch", "row"] (spD K (fFit0 C)) := ok_fitted0 F16 TC y_len y_tuple h15 C15 hcopO C6
  have h17 : FnOk l.prog w K mg base CX0 1 f17 _ ["begin", "row"] (spD K fByP) := ok_by_place F17 y_enumerate
  have h18 : FnOk l.prog w K mg base CX0 1 f18 _ ["begin", "end", "spots", "known"] (spD K fWalk) := ok_row_walked F18 y_tuple
  have h19 : FnOk l.prog w K mg base CX0 2 f19 _ ["self", "spots", "others"] (spG K (fRbI R)) := ok_RowBetween_init F19 TR y_len y_enumerate h13 C13 h17 C17 h7 C7
  have h20 : FnOk l.prog w K mg base CX0 1 f20 _ ["self"] (spD K (fUnl R)) := ok_unlike_place F20 TR y_len y_min
  have h21 : FnOk l.prog w K mg base CX0 1 f21 _ ["self"] (spD K (fEnds R)) := ok_begins_and_ends F21 TR
  have h22 : FnOk l.prog w K mg base CX0 2 f22 _ ["self"] (spD K (fSpans R)) := ok_spans F22 y_len y_max y_sorted h21 C21
  have h23 : FnOk l.prog w K mg base CX0 2 f23 _ ["self", "begin", "end"] (spD K (fSpot R)) := ok_spot_of F23 TR y_len y_sum h18 C18
  have h24 : FnOk l.prog w K mg base (CX l.prog w) 8 f24 _ ["one", "other"] (spD K (fChained C M)) := ok_chained F24 TC TR y_len y_min h19 YR h20 C20 h22 C22 h23 C23 h14 C14 h12 XM h10 YC
  have h25 : FnOk l.prog w K mg base CX0 8 f25 _ ["patch"] (spD K (fBack C)) := ok_turned_back F25 TC y_enumerate h13 C13 h14 C14 h10 YC
  have h26 : FnOk l.prog w K mg base CX0 1 f26 _ ["_law_script"] (spN K fFeed) := ok_l_feed F26
  have h27 : FnOk l.prog w K mg base CX0 1 f27 _ ["_law_feed_here", "_law_many"] (spD K fDraw) := ok_l_draw F27 y_len y_abs y_range
  have h28 : FnOk l.prog w K mg base CX0 2 f28 _ ["_law_feed_here", "_law_some"] (spD K fPick) := ok_l_pick F28 y_len h27 C27
  have h29 : FnOk l.prog w K mg base CX0 3 f29 _ ["_law_feed_here", "_law_most"] (spD K fBytes) := ok_l_bytes F29 y_range y_tuple h27 C27 h28 C28
  have h30 : FnOk l.prog w K mg base CX0 4 f30 _ ["_law_feed_here", "_law_line"] (spD K fSpots) := ok_l_spots F30 y_len y_tuple h27 C27 h29 C29
  have h31 : FnOk l.prog w K mg base CX0 1 f31 _ ["_law_line", "_law_some"] (spD K fLFit) := ok_l_fit F31 y_len
  have h33 : FnOk l.prog w K mg base CX0 9 f33 _ ["_law_some"] (spD K (fJoin C)) := ok_l_joined_up F33 h24 C24
  have h32 : FnOk l.prog w K mg base CX0 9 f32 _ ["_law_feed_here", "_law_some"] (spD K (fGroups C)) := ok_l_in_groups F32 y_list y_len h27 C27 h24 C24
  have h34 : FnOk l.prog w K mg base CX0 10 f34 _ ["_law_some", "_law_lines"] (spD K (fSeen C)) := ok_l_are_seen F34 TC y_range y_tuple y_len h25 C25 KB h24 C24 h10 YC QC t11 h11 b11
  exact ok_law F35 TC y_range y_len h26 C26 h27 C27 h29 C29 h30 C30 h31 C31 h33 C33 h32 C32 h34 C34 h25 C25 hfit0 C16 h24 C24 h10 YC bD hTE QC t11 h11 b11
theorem walk {l : PySem.W.OpenLaw} {q : Program} {loose : List Str} {XP : (Str → Option Value) → Heap → Prop} {YP : World → Heap → Prop} {d : DefRec} {K : Params → PySem.W.Frag} (hn : l.most = some 63) (hdf : d.params.defaults = [])
    (hY : ∀ (w : World) (h : Heap), YP w h → (K w.params).In h)
    (F : ∀ (w : World) (mg : Str → Option Value) (fa : Addr) (h : Heap), (K w.params).In h → h.Ns mainGlobals mg → mg d.name = some (.ref fa) →
      ∃ fd : FuncData, (∀ (s : Shared) (u : Value), BindsTo s fd ⟨[u], []⟩ [("_law_script", u)]) ∧ ∀ base : Heap, (K w.params).In base → base.Ns mainGlobals mg → FnG l.prog w (K w.params) mg base 12 fa fd ["_law_script"] (spD (K w.params) fLaw)) :
    PySem.W.WalkO q loose XP YP l.row.toRowW d [] (fun f vs => PySem.call f vs) :=
  walkG (n := 63) (k := 12) (x := "_law_script") (sp := fun w => spD (K w.params) fLaw) hn (by decide) hdf ⟨rfl, by decide, by decide⟩ hY F fun _ _ _ _ hl hs => promise_law hl hs

end Pa
open PySem PySem.W PyProof.Rows
set_option maxRecDepth 100000 in
set_option maxHeartbeats 0 in
theorem PySem.Challenge.cw_byteround_k75_whole_patches_as_deeds_holds : PySem.Challenge.rw_byteround_k75_whole_patches_as_deeds.Holds := by
  w_on; o_law; k_head; (case hw => w_witness2)
  k_fill
  refine Pa.walk (l := PySem.Challenge.rw_byteround_k75_whole_patches_as_deeds) rfl rfl (fun w h Y => PySem.W.kIn_of Y) ?F
  case F =>
    intro w mg fa h KX G hmg
    refine' Pa.all_mk KX G hmg ?aC ?xL0 ?lN ?sN ?nN ?mk ?kC ?pg ?hC ?po ?sa ?nl ?ns ?cC ?gC ?kT ?mC ?aM ?qM ?oM ?hM ?sM ?eM ?tM ?kM ?nM ?vV ?aR ?mR ?kR ?gR ?hR ?oR ?sR ?n1R ?n2R ?n3R ?n4R ?a1 ?l1 ?c1 ?k1 ?a2 ?l2 ?c2 ?k2 ?a3 ?l3 ?c3 ?k3 ?a4 ?l4 ?c4 ?k4 ?a5 ?l5 ?c5 ?k5 ?a6 ?l6 ?c6 ?k6 ?a7 ?l7 ?c7 ?k7 ?a8 ?l8 ?c8 ?k8 ?a9 ?l9 ?c9 ?k9 ?a10 ?t10 ?l10 ?c10 ?k10 ?lT ?lTE ?a11 ?t11 ?l11 ?c11 ?k11 ?eI ?eF ?a12 ?t12 ?l12 ?c12 ?k12 ?a13 ?l13 ?c13 ?k13 ?a14 ?l14 ?c14 ?k14 ?a15 ?l15 ?c15 ?k15 ?a16 ?l16 ?c16 ?k16 ?a17 ?l17 ?c17 ?k17 ?a18 ?l18 ?c18 ?k18 ?a19 ?t19 ?l19 ?c19 ?k19 ?a20 ?t20 ?l20 ?c20 ?k20 ?a21 ?t21 ?l21 ?c21 ?k21 ?a22 ?t22 ?l22 ?c22 ?k22 ?a23 ?t23 ?l23 ?c23 ?k23 ?a24 ?l24 ?c24 ?k24 ?a25 ?l25 ?c25 ?k25 ?a26 ?l26 ?c26 ?k26 ?a27 ?l27 ?c27 ?k27 ?a28 ?l28 ?c28 ?k28 ?a29 ?l29 ?c29 ?k29 ?a30 ?l30 ?c30 ?k30 ?a31 ?l31 ?c31 ?k31 ?a32 ?l32 ?c32 ?k32 ?a33 ?l33 ?c33 ?k33 ?a34 ?l34 ?c34 ?k34 ?a35 ?l35 ?c35 ?k35 ?z_len ?z_abs ?z_range ?z_int ?z_isinstance ?z_str ?z_tuple ?z_bool ?z_min ?z_max ?z_sum ?z_sorted ?z_list ?z_dict ?z_enumerate ?z_all ?z_RuntimeError
    (case aC => k_is)
    (case xL0 => k_is)
    (case lN => k_is)
    (case sN => first | k_is | rfl | exact ⟨_, rfl⟩ | kernel_rfl)
    (case nN => k_is)
    (case mk => first | k_is | rfl | exact ⟨_, rfl⟩ | kernel_rfl)
    (case kC => k_is)
    (case pg => first | k_is | rfl | exact ⟨_, rfl⟩ | kernel_rfl)
    (case hC => first | k_is | rfl | exact ⟨_, rfl⟩ | kernel_rfl)
    (case po => first | k_is | rfl | exact ⟨_, rfl⟩ | kernel_rfl)
    (case sa => k_is)
    (case nl => k_is)
    (case ns => k_is)
    (case cC => k_is)
    (case gC => first | k_is | rfl | exact ⟨_, rfl⟩ | kernel_rfl)
    (case kT => first | k_is | rfl | exact ⟨_, rfl⟩ | kernel_rfl)
    (case mC => first | k_is | rfl | exact ⟨_, rfl⟩ | kernel_rfl)
    (case aM => k_is)
    (case qM => first | k_is | rfl | exact ⟨_, rfl⟩ | kernel_rfl)
    (case oM => first | k_is | rfl | exact ⟨_, rfl⟩ | kernel_rfl)
    (case hM => first | k_is | rfl | exact ⟨_, rfl⟩ | kernel_rfl)
    (case sM => k_is)
    (case eM => k_is)
    (case tM => k_is)
    (case kM => k_is)
    (case nM => k_is)
    (case vV => first | k_is | rfl | exact ⟨_, rfl⟩ | kernel_rfl)
    (case aR => k_is)
    (case mR => first | k_is | rfl | exact ⟨_, rfl⟩ | kernel_rfl)
    (case kR => k_is)
    (case gR => first | k_is | rfl | exact ⟨_, rfl⟩ | kernel_rfl)
    (case hR => first | k_is | rfl | exact ⟨_, rfl⟩ | kernel_rfl)
    (case oR => first | k_is | rfl | exact ⟨_, rfl⟩ | kernel_rfl)
    (case sR => k_is)
    (case n1R => k_is)
    (case n2R => k_is)
    (case n3R => k_is)
    (case n4R => k_is)
    (case a1 => k_is)
    (case l1 => k_is)
    (case c1 => k_is)
    (case k1 => k_is)
    (case a2 => k_is)
    (case l2 => k_is)
    (case c2 => k_is)
    (case k2 => k_is)
    (case a3 => k_is)
    (case l3 => k_is)
    (case c3 => k_is)
    (case k3 => k_is)
    (case a4 => k_is)
    (case l4 => k_is)
    (case c4 => k_is)
    (case k4 => k_is)
    (case a5 => k_is)
    (case l5 => k_is)
    (case c5 => k_is)
    (case k5 => k_is)
    (case a6 => k_is)
    (case l6 => k_is)
    (case c6 => k_is)
    (case k6 => k_is)
    (case a7 => k_is)
    (case l7 => k_is)
    (case c7 => k_is)
    (case k7 => k_is)
    (case a8 => k_is)
    (case l8 => k_is)
    (case c8 => k_is)
    (case k8 => k_is)
    (case a9 => k_is)
    (case l9 => k_is)
    (case c9 => k_is)
    (case k9 => k_is)
    (case a10 => k_is)
    (case t10 => first | k_is | rfl | exact ⟨_, rfl⟩ | kernel_rfl)
    (case l10 => k_is)
    (case c10 => k_is)
    (case k10 => k_is)
    (case lT => k_is)
    (case lTE => k_is)
    (case a11 => k_is)
    (case t11 => first | k_is | rfl | exact ⟨_, rfl⟩ | kernel_rfl)
    (case l11 => k_is)
    (case c11 => k_is)
    (case k11 => k_is)
    (case eI => k_is)
    (case eF => first | k_is | rfl | exact ⟨_, rfl⟩ | kernel_rfl)
    (case a12 => k_is)
    (case t12 => first | k_is | rfl | exact ⟨_, rfl⟩ | kernel_rfl)
    (case l12 => k_is)
    (case c12 => k_is)
    (case k12 => k_is)
    (case a13 => k_is)
    (case l13 => k_is)
    (case c13 => k_is)
    (case k13 => k_is)
    (case a14 => k_is)
    (case l14 => k_is)
    (case c14 => k_is)
    (case k14 => k_is)
    (case a15 => k_is)
    (case l15 => k_is)
    (case c15 => k_is)
    (case k15 => k_is)
    (case a16 => k_is)
    (case l16 => k_is)
    (case c16 => k_is)
    (case k16 => k_is)
    (case a17 => k_is)
    (case l17 => k_is)
    (case c17 => k_is)
    (case k17 => k_is)
    (case a18 => k_is)
    (case l18 => k_is)
    (case c18 => k_is)
    (case k18 => k_is)
    (case a19 => k_is)
    (case t19 => first | k_is | rfl | exact ⟨_, rfl⟩ | kernel_rfl)
    (case l19 => k_is)
    (case c19 => k_is)
    (case k19 => k_is)
    (case a20 => k_is)
    (case t20 => first | k_is | rfl | exact ⟨_, rfl⟩ | kernel_rfl)
    (case l20 => k_is)
    (case c20 => k_is)
    (case k20 => k_is)
    (case a21 => k_is)
    (case t21 => first | k_is | rfl | exact ⟨_, rfl⟩ | kernel_rfl)
    (case l21 => k_is)
    (case c21 => k_is)
    (case k21 => k_is)
    (case a22 => k_is)
    (case t22 => first | k_is | rfl | exact ⟨_, rfl⟩ | kernel_rfl)
    (case l22 => k_is)
    (case c22 => k_is)
    (case k22 => k_is)
    (case a23 => k_is)
    (case t23 => first | k_is | rfl | exact ⟨_, rfl⟩ | kernel_rfl)
    (case l23 => k_is)
    (case c23 => k_is)
    (case k23 => k_is)
    (case a24 => k_is)
    (case l24 => k_is)
    (case c24 => k_is)
    (case k24 => k_is)
    (case a25 => k_is)
    (case l25 => k_is)
    (case c25 => k_is)
    (case k25 => k_is)
    (case a26 => k_is)
    (case l26 => k_is)
    (case c26 => k_is)
    (case k26 => k_is)
    (case a27 => k_is)
    (case l27 => k_is)
    (case c27 => k_is)
    (case k27 => k_is)
    (case a28 => k_is)
    (case l28 => k_is)
    (case c28 => k_is)
    (case k28 => k_is)
    (case a29 => k_is)
    (case l29 => k_is)
    (case c29 => k_is)
    (case k29 => k_is)
    (case a30 => k_is)
    (case l30 => k_is)
    (case c30 => k_is)
    (case k30 => k_is)
    (case a31 => k_is)
    (case l31 => k_is)
    (case c31 => k_is)
    (case k31 => k_is)
    (case a32 => k_is)
    (case l32 => k_is)
    (case c32 => k_is)
    (case k32 => k_is)
    (case a33 => k_is)
    (case l33 => k_is)
    (case c33 => k_is)
    (case k33 => k_is)
    (case a34 => k_is)
    (case l34 => k_is)
    (case c34 => k_is)
    (case k34 => k_is)
    (case a35 => k_is)
    (case l35 => k_is)
    (case c35 => k_is)
    (case k35 => k_is)
    (case z_len => k_is)
    (case z_abs => k_is)
    (case z_range => k_is)
    (case z_int => k_is)
    (case z_isinstance => k_is)
    (case z_str => k_is)
    (case z_tuple => k_is)
    (case z_bool => k_is)
    (case z_min => k_is)
    (case z_max => k_is)
    (case z_sum => k_is)
    (case z_sorted => k_is)
    (case z_list => k_is)
    (case z_dict => k_is)
    (case z_enumerate => k_is)
    (case z_all => k_is)
    (case z_RuntimeError => k_is)
