import PyProof.Rows.All
import Wide.All
import OpenK.AllK
import Wide.FinOn
import HandS.ForMost
import HandS.Exc
import HandS.ExcOwn
import HandS.WordsExc
import HandS.Evl
import HandS.Lambda
import HandS.Wide
import HandS.IsInst
import HandS.Replace
import HandS.RaiseMore
import HandS.Steps
import KE.KEqSeq
import HandS.ExcInit
import KE.KExcIs
import HandS.ExcValue
import HandS.ExcField
import HandS.ExcIs
import HandS.Rev
import HandS.More
import HandS.TupAny
import HandS.Zip
import KE.GoesMore
import KE.GoesZip
import HandS.NoneIn
import HandS.Ends
import PyProof.ReprRoads
import KE.KxField
import HandS.FStr
import HandS.Style
import HandS.Text
import HandS.Codes
import PyProof.CallFns
import PyProof.CallStr
import PyProof.EqKinds
import PyProof.NeKinds
import PyProof.Rows.EqBoolInt
import PyProof.Rows.IntBool
import PyProof.Rows.ReprOcc
import PyProof.StrLawsRepr
import HandS.TupMul
import KE.GoesEnumKw
import HandS.Defaults
import HandS.MakeKwOnly
import PyProof.InstNe
import KE.KExcInit
import HandS.TryOnly
import PyProof.InstSpecial
import HandS.WideBits
import HandS.CallSlots
import HandS.DictComp
import KE.KTupSum
import HandS.Iter
import KE.KUnpack
import HandS.StrMore
import PyProof.CollectIter
import PyProof.ListStr
import HandS.Conv
import PyProof.StrBlock2
import HandS.Head0
import HandS.Head1
import HandS.Head2
import HandS.HeadEnd
import HandS.HeadHook1
import HandS.HeadHook2
import HandS.HeadHook3
import HandS.NestedK
import KE.KNestM
import HandS.EndBits
import HandS.HeadHook4
import PySem.Challenge.RW_byteround_k05_whole_words_there_and_back
import KE.IntTextLaws
import PyProof.StrLawsAffix
import PyProof.StrBlockL
set_option Elab.async false
set_option linter.all false
set_option maxRecDepth 100000
set_option maxHeartbeats 4000000
/-! BrA: a def read over plain data and a small store of the things that change. -/
namespace Br
open PySem L2

/-! ### data -/
inductive D where
  | non | bl (b : Bool) | int (i : Int) | str (x : Str) | lst (xs : List D) | tup (xs : List D) | dk (kvs : List (Key × D)) | ob (C : Addr) (fs : List (Str × D)) | xo (C : Addr) (fs : List (Str × D))

/-- all that H has and that isn't at as stays -/
def Go (as : List Addr) (H H' : Hp) : Prop := ∀ a o, H a = some o → a ∉ as → H' a = some o
theorem Go.refl (as : List Addr) (H : Hp) : Go as H H := fun _ _ h _ => h
theorem Go.trans {as : List Addr} {H H1 H2 : Hp} (x : Go as H H1) (y : Go as H1 H2) : Go as H H2 := fun a o h n => y a o (x a o h n) n
theorem Go.new {as : List Addr} {H : Hp} {p : Addr} {o : HO} (h : H p = none) : Go as H (upd H p o) := fun a u e _ => by
  rw [upd_ne (ne_of_none e h)]
  exact e
theorem Go.at {as : List Addr} {H : Hp} {p : Addr} {o : HO} (h : p ∈ as) : Go as H (upd H p o) := fun a u e n => by
  have hne : a ≠ p := fun z => n (z ▸ h)
  rw [upd_ne hne]
  exact e
theorem Go.free {as : List Addr} {H H' : Hp} (g : Go as H H') {a : Addr} (n : a ∉ as) (h : H' a = none) : H a = none := by
  cases e : H a with
  | none => rfl
  | some o =>
    rw [g a o e n] at h
    cases h

/-- written lists, tuples -/
def WrL (K : PySem.W.Frag) (a : Addr) (xs : List V) : Prop :=
  ∃ (o : Obj) (its : Array Value) (n : Nat), K.lookup a = some o ∧ o.cls = .type "list" ∧ o.dict = none ∧ o.data = .seq its n ∧ its.size ≤ sizeLine ∧ Vals xs its.toList
def WrT (K : PySem.W.Frag) (a : Addr) (xs : List V) : Prop :=
  ∃ (o : Obj) (its : Array Value) (n : Nat), K.lookup a = some o ∧ o.cls = .type "tuple" ∧ o.data = .seq its n ∧ its.size ≤ sizeLine ∧ Vals xs its.toList
def QL (K : PySem.W.Frag) (as : List Addr) (H : Hp) (a : Addr) (xs : List V) : Prop := (a ∉ as ∧ Rd H a (.lst xs)) ∨ WrL K a xs
def QT (K : PySem.W.Frag) (as : List Addr) (H : Hp) (a : Addr) (xs : List V) : Prop := (a ∉ as ∧ Rd H a (.tup xs)) ∨ WrT K a xs
theorem QL.sq {K : PySem.W.Frag} {as : List Addr} {H : Hp} {a : Addr} {xs : List V} (h : QL K as H a xs) : SqL K H a xs := by
  rcases h with ⟨_, h⟩ | h
  · exact .inl h
  · exact .inr h
theorem QT.sq {K : PySem.W.Frag} {as : List Addr} {H : Hp} {a : Addr} {xs : List V} (h : QT K as H a xs) : SqT K H a xs := by
  rcases h with ⟨_, h⟩ | h
  · exact .inl h
  · exact .inr h
theorem rd_go {as : List Addr} {H H' : Hp} (g : Go as H H') {a : Addr} {u : HO} (n : a ∉ as) (h : Rd H a u) : Rd H' a u := by
  rcases h with h | ⟨o, h⟩
  · exact .inl (g a _ h n)
  · exact .inr ⟨o, g a _ h n⟩
theorem QL.go {K : PySem.W.Frag} {as : List Addr} {H H' : Hp} (g : Go as H H') {a : Addr} {xs : List V} (h : QL K as H a xs) : QL K as H' a xs := by
  rcases h with ⟨n, h⟩ | h
  · exact .inl ⟨n, rd_go g n h⟩
  · exact .inr h
theorem QT.go {K : PySem.W.Frag} {as : List Addr} {H H' : Hp} (g : Go as H H') {a : Addr} {xs : List V} (h : QT K as H a xs) : QT K as H' a xs := by
  rcases h with ⟨n, h⟩ | h
  · exact .inl ⟨n, rd_go g n h⟩
  · exact .inr h
/-- fewer things that change -/
theorem QL.sub {K : PySem.W.Frag} {as bs : List Addr} {H : Hp} {a : Addr} {xs : List V} (s : ∀ x ∈ bs, x ∈ as) (h : QL K as H a xs) : QL K bs H a xs := by
  rcases h with ⟨n, h⟩ | h
  · exact .inl ⟨fun z => n (s _ z), h⟩
  · exact .inr h
theorem QT.sub {K : PySem.W.Frag} {as bs : List Addr} {H : Hp} {a : Addr} {xs : List V} (s : ∀ x ∈ bs, x ∈ as) (h : QT K as H a xs) : QT K bs H a xs := by
  rcases h with ⟨n, h⟩ | h
  · exact .inl ⟨fun z => n (s _ z), h⟩
  · exact .inr h
theorem rd_some {H : Hp} {a : Addr} {u : HO} (h : Rd H a u) : H a ≠ none := by
  rcases h with h | ⟨o, h⟩ <;> rw [h] <;> intro z <;> cases z
/-- a new thing that changes -/
theorem QL.add {K : PySem.W.Frag} {as : List Addr} {H : Hp} {a p : Addr} {xs : List V} (hp : H p = none) (h : QL K as H a xs) : QL K (as ++ [p]) H a xs := by
  rcases h with ⟨n, h⟩ | h
  · refine .inl ⟨fun z => ?_, h⟩
    rcases List.mem_append.mp z with z | z
    · exact n z
    · rw [List.mem_singleton.mp z] at h
      exact rd_some h hp
  · exact .inr h
theorem QT.add {K : PySem.W.Frag} {as : List Addr} {H : Hp} {a p : Addr} {xs : List V} (hp : H p = none) (h : QT K as H a xs) : QT K (as ++ [p]) H a xs := by
  rcases h with ⟨n, h⟩ | h
  · refine .inl ⟨fun z => ?_, h⟩
    rcases List.mem_append.mp z with z | z
    · exact n z
    · rw [List.mem_singleton.mp z] at h
      exact rd_some h hp
  · exact .inr h

/-- an exception that was caught and kept -/
def Exk (C dd a : Addr) : HO := .ext fun h => ∃ (oe : Obj) (vs : Array Value), h.get? a = some oe ∧ Zc (.ref C) (some dd) oe ∧ oe.data = .fields vs

mutual
inductive Dx (K : PySem.W.Frag) (as : List Addr) (H : Hp) : V → D → Prop
  | non : Dx K as H .non .non
  | bl (b : Bool) : Dx K as H (.bl b) (.bl b)
  | int (i : Int) : Dx K as H (.int i) (.int i)
  | str (x : Str) : Dx K as H (.str x) (.str x)
  | lst {a : Addr} {xs : List V} {ds : List D} : QL K as H a xs → DxA K as H xs ds → Dx K as H (.ref a) (.lst ds)
  | tup {a : Addr} {xs : List V} {ds : List D} : QT K as H a xs → DxA K as H xs ds → Dx K as H (.ref a) (.tup ds)
  | dk {a : Addr} {kvs : List (Key × V)} {kds : List (Key × D)} : a ∉ as → Rd H a (.dK kvs) → DxP K as H kvs kds → Dx K as H (.ref a) (.dk kds)
  | ob {a C dx : Addr} {fs : List (Str × V)} {fds : List (Str × D)} : a ∉ as → dx ∉ as → H a = some (.ins C dx fs) → H dx = some (.own a) → DxF K as H fs fds → Dx K as H (.ref a) (.ob C fds)
  | xo {a C dd : Addr} {fs : List (Str × V)} {fds : List (Str × D)} : a ∉ as → dd ∉ as → H a = some (Exk C dd a) → H dd = some (.xd fs) → DxF K as H fs fds → Dx K as H (.ref a) (.xo C fds)
inductive DxA (K : PySem.W.Frag) (as : List Addr) (H : Hp) : List V → List D → Prop
  | nil : DxA K as H [] []
  | cons {v : V} {vs : List V} {d : D} {ds : List D} : Dx K as H v d → DxA K as H vs ds → DxA K as H (v :: vs) (d :: ds)
inductive DxP (K : PySem.W.Frag) (as : List Addr) (H : Hp) : List (Key × V) → List (Key × D) → Prop
  | nil : DxP K as H [] []
  | cons {k : Key} {v : V} {vs : List (Key × V)} {d : D} {ds : List (Key × D)} : Dx K as H v d → DxP K as H vs ds → DxP K as H ((k, v) :: vs) ((k, d) :: ds)
inductive DxF (K : PySem.W.Frag) (as : List Addr) (H : Hp) : List (Str × V) → List (Str × D) → Prop
  | nil : DxF K as H [] []
  | cons {k : Str} {v : V} {vs : List (Str × V)} {d : D} {ds : List (Str × D)} : Dx K as H v d → DxF K as H vs ds → DxF K as H ((k, v) :: vs) ((k, d) :: ds)
end
section
variable {K : PySem.W.Frag} {as bs : List Addr} {H H' : Hp}
/-- what a reading leans on may be read elsewhere -/
structure Way (K : PySem.W.Frag) (as bs : List Addr) (H H' : Hp) : Prop where
  l : ∀ a xs, QL K as H a xs → QL K bs H' a xs
  t : ∀ a xs, QT K as H a xs → QT K bs H' a xs
  r : ∀ a u, a ∉ as → Rd H a u → a ∉ bs ∧ Rd H' a u
  o : ∀ a u, a ∉ as → H a = some u → a ∉ bs ∧ H' a = some u
mutual
theorem Dx.way (w : Way K as bs H H') : ∀ {v : V} {d : D}, Dx K as H v d → Dx K bs H' v d
  | _, _, .non => .non
  | _, _, .bl b => .bl b
  | _, _, .int i => .int i
  | _, _, .str x => .str x
  | _, _, .lst h r => .lst (w.l _ _ h) (DxA.way w r)
  | _, _, .tup h r => .tup (w.t _ _ h) (DxA.way w r)
  | _, _, .dk n h r => .dk (w.r _ _ n h).1 (w.r _ _ n h).2 (DxP.way w r)
  | _, _, .ob n n2 h h2 r => .ob (w.o _ _ n h).1 (w.o _ _ n2 h2).1 (w.o _ _ n h).2 (w.o _ _ n2 h2).2 (DxF.way w r)
  | _, _, .xo n n2 h h2 r => .xo (w.o _ _ n h).1 (w.o _ _ n2 h2).1 (w.o _ _ n h).2 (w.o _ _ n2 h2).2 (DxF.way w r)
theorem DxA.way (w : Way K as bs H H') : ∀ {v : List V} {d : List D}, DxA K as H v d → DxA K bs H' v d
  | _, _, .nil => .nil
  | _, _, .cons h r => .cons (Dx.way w h) (DxA.way w r)
theorem DxP.way (w : Way K as bs H H') : ∀ {v : List (Key × V)} {d : List (Key × D)}, DxP K as H v d → DxP K bs H' v d
  | _, _, .nil => .nil
  | _, _, .cons h r => .cons (Dx.way w h) (DxP.way w r)
theorem DxF.way (w : Way K as bs H H') : ∀ {v : List (Str × V)} {d : List (Str × D)}, DxF K as H v d → DxF K bs H' v d
  | _, _, .nil => .nil
  | _, _, .cons h r => .cons (Dx.way w h) (DxF.way w r)
end
theorem Way.of_go (g : Go as H H') : Way K as as H H' := ⟨fun _ _ h => h.go g, fun _ _ h => h.go g, fun _ _ n h => ⟨n, rd_go g n h⟩, fun a u n h => ⟨n, g a u h n⟩⟩
theorem Way.of_sub (s : ∀ x ∈ bs, x ∈ as) : Way K as bs H H := ⟨fun _ _ h => h.sub s, fun _ _ h => h.sub s, fun _ _ n h => ⟨fun z => n (s _ z), h⟩, fun _ _ n h => ⟨fun z => n (s _ z), h⟩⟩
theorem Way.of_add {p : Addr} (hp : H p = none) : Way K as (as ++ [p]) H H :=
  ⟨fun _ _ h => h.add hp, fun _ _ h => h.add hp, fun a u n h => ⟨fun z => by
      rcases List.mem_append.mp z with z | z
      · exact n z
      · rw [List.mem_singleton.mp z] at h
        exact rd_some h hp, h⟩,
    fun a u n h => ⟨fun z => by
      rcases List.mem_append.mp z with z | z
      · exact n z
      · rw [List.mem_singleton.mp z, hp] at h
        exact (nomatch h), h⟩⟩
theorem DxA.length : ∀ {v : List V} {d : List D}, DxA K as H v d → v.length = d.length
  | _, _, .nil => rfl
  | _, _, .cons _ r => by rw [List.length_cons, List.length_cons, DxA.length r]
theorem DxA.get : ∀ {v : List V} {d : List D} {i : Nat} {x : D}, DxA K as H v d → d[i]? = some x → ∃ u, v[i]? = some u ∧ Dx K as H u x
  | _, _, _, _, .nil, e => by simp at e
  | _, _, 0, _, .cons h _, e => by simp at e; subst e; exact ⟨_, rfl, h⟩
  | _, _, i + 1, x, .cons _ r, e => by
    obtain ⟨u, h1, h2⟩ := DxA.get (i := i) (x := x) r (by simpa using e)
    exact ⟨u, by simpa using h1, h2⟩
theorem DxA.getV : ∀ {v : List V} {d : List D} {i : Nat} {u : V}, DxA K as H v d → v[i]? = some u → ∃ x, d[i]? = some x ∧ Dx K as H u x
  | _, _, _, _, .nil, e => by simp at e
  | _, _, 0, _, .cons h _, e => by simp at e; subst e; exact ⟨_, rfl, h⟩
  | _, _, i + 1, u, .cons _ r, e => by
    obtain ⟨x, h1, h2⟩ := DxA.getV (i := i) (u := u) r (by simpa using e)
    exact ⟨x, by simpa using h1, h2⟩
theorem DxA.app : ∀ {v w : List V} {d e : List D}, DxA K as H v d → DxA K as H w e → DxA K as H (v ++ w) (d ++ e)
  | _, _, _, _, .nil, s => s
  | _, _, _, _, .cons h r, s => .cons h (DxA.app r s)
theorem DxA.drop : ∀ {v : List V} {d : List D} (n : Nat), DxA K as H v d → DxA K as H (v.drop n) (d.drop n)
  | _, _, 0, h => h
  | _, _, _ + 1, .nil => .nil
  | _, _, n + 1, .cons _ r => DxA.drop n r
theorem DxA.take : ∀ {v : List V} {d : List D} (n : Nat), DxA K as H v d → DxA K as H (v.take n) (d.take n)
  | _, _, 0, _ => .nil
  | _, _, _ + 1, .nil => .nil
  | _, _, n + 1, .cons h r => .cons h (DxA.take n r)
theorem DxA.rev : ∀ {v : List V} {d : List D}, DxA K as H v d → DxA K as H v.reverse d.reverse
  | _, _, .nil => .nil
  | _, _, .cons h r => by
    rw [List.reverse_cons, List.reverse_cons]
    exact DxA.app (DxA.rev r) (.cons h .nil)
theorem DxA.set {u : V} {x : D} (h : Dx K as H u x) : ∀ {v : List V} {d : List D} (i : Nat), DxA K as H v d → DxA K as H (v.set i u) (d.set i x)
  | _, _, _, .nil => .nil
  | _, _, 0, .cons _ r => .cons h r
  | _, _, i + 1, .cons q r => .cons q (DxA.set h i r)
/-- numbers, texts, truths -/
theorem DxA.ints : ∀ (ns : List Int), DxA K as H (ns.map V.int) (ns.map D.int)
  | [] => .nil
  | n :: r => .cons (.int n) (DxA.ints r)
theorem DxA.of_ints : ∀ {v : List V} {ns : List Int}, DxA K as H v (ns.map D.int) → v = ns.map V.int
  | [], [], _ => rfl
  | [], _ :: _, h => nomatch h
  | _ :: _, [], h => nomatch h
  | _ :: _, n :: r, .cons h t => by
    cases h
    rw [DxA.of_ints t]
    rfl
theorem DxA.of_strs : ∀ {v : List V} {ns : List Str}, DxA K as H v (ns.map D.str) → v = ns.map V.str
  | [], [], _ => rfl
  | [], _ :: _, h => nomatch h
  | _ :: _, [], h => nomatch h
  | _ :: _, n :: r, .cons h t => by
    cases h
    rw [DxA.of_strs t]
    rfl
theorem DxA.of_bls : ∀ {v : List V} {ns : List Bool}, DxA K as H v (ns.map D.bl) → v = ns.map V.bl
  | [], [], _ => rfl
  | [], _ :: _, h => nomatch h
  | _ :: _, [], h => nomatch h
  | _ :: _, n :: r, .cons h t => by
    cases h
    rw [DxA.of_bls t]
    rfl
end

/-! ### the store: what changes -/
inductive Ob where
  | ml (xs : List D) | md (kvs : List (Key × D)) | mi (C : Addr) (fs : List (Str × D)) | tb (P : Addr) (q : Str)
  -- a dict at p, the same while it is walked, an instance whose fields are things at known places
  | mp (p : Addr) (kvs : List (Key × D)) | lp (p : Addr) (od : Obj) (vs : List (Key × V)) (kvs : List (Key × D)) | mr (C : Addr) (fs : List (Str × Addr))
def ObR (K : PySem.W.Frag) (as : List Addr) (H : Hp) (a : Addr) : Ob → Prop
  | .ml xs => ∃ vs, H a = some (.lst vs) ∧ DxA K as H vs xs
  | .md kds => ∃ kvs, H a = some (.dK kvs) ∧ DxP K as H kvs kds
  | .mi C fds => ∃ dx fs, H a = some (.ins C dx fs) ∧ dx ∉ as ∧ H dx = some (.own a) ∧ DxF K as H fs fds
  | .tb P q => ∃ ps : Array Value, H a = some (.tbl ps) ∧ a = P ∧ TriplesOk ps.toList ∧ ∀ (pos : Pos) (cv : Value), codeAmong pos ps.toList = some cv → ∃ c, cv = .ref c ∧ c ∉ as ∧ H c = some (LamX.CodeO c q)
  | .mp p kds => ∃ kvs, H a = some (.dK kvs) ∧ a = p ∧ DxP K as H kvs kds
  | .lp p od vs kds => H a = some (.frz od (.dK vs)) ∧ a = p ∧ DxP K as H vs kds
  | .mr C fs => ∃ dx, H a = some (.ins C dx (fs.map fun f => (f.1, V.ref f.2))) ∧ dx ∉ as ∧ H dx = some (.own a)
theorem ObR.way {K : PySem.W.Frag} {as bs : List Addr} {H H' : Hp} {a : Addr} {o : Ob} (w : Way K as bs H H') (e : ∀ u, H a = some u → H' a = some u) (h : ObR K as H a o) : ObR K bs H' a o := by
  cases o with
  | ml xs =>
    obtain ⟨vs, h1, h2⟩ := h
    exact ⟨vs, e _ h1, h2.way w⟩
  | md kds =>
    obtain ⟨vs, h1, h2⟩ := h
    exact ⟨vs, e _ h1, h2.way w⟩
  | mi C fds =>
    obtain ⟨dx, vs, h1, h2, h3, h4⟩ := h
    exact ⟨dx, vs, e _ h1, (w.o _ _ h2 h3).1, (w.o _ _ h2 h3).2, h4.way w⟩
  | tb P q =>
    obtain ⟨ps, h1, hP, h2, h3⟩ := h
    refine ⟨ps, e _ h1, hP, h2, fun pos cv hc => ?_⟩
    obtain ⟨c, h4, h5, h6⟩ := h3 pos cv hc
    exact ⟨c, h4, (w.o _ _ h5 h6).1, (w.o _ _ h5 h6).2⟩
  | mp p kds =>
    obtain ⟨vs, h1, h2, h3⟩ := h
    exact ⟨vs, e _ h1, h2, h3.way w⟩
  | lp p od vs kds =>
    obtain ⟨h1, h2, h3⟩ := h
    exact ⟨e _ h1, h2, h3.way w⟩
  | mr C fs =>
    obtain ⟨dx, h1, h2, h3⟩ := h
    exact ⟨dx, e _ h1, (w.o _ _ h2 h3).1, (w.o _ _ h2 h3).2⟩
theorem ObR.some {K : PySem.W.Frag} {as : List Addr} {H : Hp} {a : Addr} {o : Ob} (h : ObR K as H a o) : H a ≠ none := by
  cases o with
  | mi C fds =>
    obtain ⟨dx, vs, h1, _⟩ := h
    rw [h1]
    intro z
    cases z
  | lp p od vs kds =>
    obtain ⟨h1, _⟩ := h
    rw [h1]
    intro z
    cases z
  | _ =>
    obtain ⟨_, h1, _⟩ := h
    rw [h1]
    intro z
    cases z
/-- what a lambda leans on: it stays where all that isn't of the store stays, and where the store grows -/
structure Stb where
  R : List Addr → Hp → Prop
  go : ∀ {as : List Addr} {H H' : Hp}, R as H → Go as H H' → R as H'
  add : ∀ {as : List Addr} {H : Hp} {p : Addr}, R as H → H p = none → R (as ++ [p]) H
theorem Stb.adds (r : Stb) {H : Hp} : ∀ {nw as : List Addr}, r.R as H → (∀ a ∈ nw, H a = none) → r.R (as ++ nw) H
  | [], as, h, _ => by
    rw [List.append_nil]
    exact h
  | p :: nw, as, h, n => by
    have e : as ++ p :: nw = (as ++ [p]) ++ nw := by simp
    rw [e]
    exact Stb.adds r (r.add h (n p List.mem_cons_self)) fun a ha => n a (List.mem_cons_of_mem _ ha)
/-- a slot's value: data, the k-th thing of the store, a lambda -/
inductive Sv where
  | d (x : D) | o (k : Nat) | fn (f : Addr) (r : Stb)
def SvR (K : PySem.W.Frag) (as : List Addr) (H : Hp) (v : V) : Sv → Prop
  | .d x => Dx K as H v x
  | .o k => ∃ a, as[k]? = some a ∧ v = .ref a
  | .fn f r => v = .ref f ∧ r.R as H
inductive SvA (K : PySem.W.Frag) (as : List Addr) (H : Hp) : List V → List Sv → Prop
  | nil : SvA K as H [] []
  | cons {v : V} {vs : List V} {d : Sv} {ds : List Sv} : SvR K as H v d → SvA K as H vs ds → SvA K as H (v :: vs) (d :: ds)
abbrev Sl := List (Option Sv)
abbrev Os := List Ob
structure Sa where
  s : Sl
  os : Os
/-- the store at as -/
structure Ro (K : PySem.W.Frag) (as : List Addr) (H : Hp) (os : Os) : Prop where
  nd : as.Nodup
  len : as.length = os.length
  own : ∀ (k : Nat) (a : Addr) (ob : Ob), as[k]? = some a → os[k]? = some ob → ObR K as H a ob
structure Re (K : PySem.W.Frag) (as : List Addr) (H : Hp) (σ : St) (S : Sa) : Prop where
  o : Ro K as H S.os
  slen : σ.length = S.s.length
  slot : ∀ (i : Nat) (d : Sv), S.s[i]? = some (some d) → ∃ v, σ[i]? = some (some v) ∧ SvR K as H v d
/-- from as, H to bs, H': what is further is new, what isn't of the store stays -/
structure Stp (as : List Addr) (H : Hp) (bs : List Addr) (H' : Hp) : Prop where
  pre : ∃ nw, bs = as ++ nw ∧ ∀ a ∈ nw, H a = none
  go : Go as H H'
  th : ∀ a, H' a = none → H a = none
section
variable {K : PySem.W.Frag} {as bs cs : List Addr} {H H' H'' : Hp} {σ : St} {S : Sa} {os os' : Os}
theorem Ro.has {a : Addr} (R : Ro K as H os) (ha : a ∈ as) : H a ≠ none := by
  obtain ⟨k, hk, e⟩ := List.mem_iff_getElem.mp ha
  have h1 : as[k]? = some a := by rw [List.getElem?_eq_getElem hk, e]
  have h2 : k < os.length := R.len ▸ hk
  exact (R.own k a os[k] h1 (List.getElem?_eq_getElem h2)).some
theorem Ro.notin {p : Addr} (R : Ro K as H os) (hp : H p = none) : p ∉ as := fun z => R.has z hp
theorem Stp.refl : Stp as H as H := ⟨⟨[], by simp, fun _ h => nomatch h⟩, Go.refl _ _, fun _ h => h⟩
theorem Stp.of_go (g : Go as H H') (R : Ro K as H' os) : Stp as H as H' := ⟨⟨[], by simp, fun _ h => nomatch h⟩, g, fun a h => g.free (R.notin h) h⟩
theorem Stp.sub (s : Stp as H bs H') : ∀ x ∈ as, x ∈ bs := fun x hx => by
  obtain ⟨nw, e, _⟩ := s.pre
  rw [e]
  exact List.mem_append_left _ hx
theorem Stp.nin (s : Stp as H bs H') {a : Addr} (h : H a ≠ none) (n : a ∉ as) : a ∉ bs := fun z => by
  obtain ⟨nw, e, f⟩ := s.pre
  rw [e] at z
  rcases List.mem_append.mp z with z | z
  · exact n z
  · exact h (f a z)
theorem ne_none {α : Type} {o : Option α} {x : α} (h : o = some x) : o ≠ none := by
  rw [h]
  intro z
  cases z
theorem Stp.trans (s : Stp as H bs H') (t : Stp bs H' cs H'') : Stp as H cs H'' := by
  obtain ⟨n1, e1, f1⟩ := s.pre
  obtain ⟨n2, e2, f2⟩ := t.pre
  refine ⟨⟨n1 ++ n2, by rw [e2, e1, List.append_assoc], fun a ha => ?_⟩, fun a o h n => t.go a o (s.go a o h n) (s.nin (ne_none h) n), fun a h => s.th a (t.th a h)⟩
  rcases List.mem_append.mp ha with z | z
  · exact f1 a z
  · exact s.th a (f2 a z)
theorem rd_nn {H : Hp} {a : Addr} {u : HO} (h : Rd H a u) : H a ≠ none := rd_some h
theorem Stp.way (s : Stp as H bs H') : Way K as bs H H' := by
  refine ⟨fun a xs h => ?_, fun a xs h => ?_, fun a u n h => ⟨s.nin (rd_nn h) n, rd_go s.go n h⟩, fun a u n h => ⟨s.nin (ne_none h) n, s.go a u h n⟩⟩
  · rcases h with ⟨n, h⟩ | h
    · exact .inl ⟨s.nin (rd_nn h) n, rd_go s.go n h⟩
    · exact .inr h
  · rcases h with ⟨n, h⟩ | h
    · exact .inl ⟨s.nin (rd_nn h) n, rd_go s.go n h⟩
    · exact .inr h
theorem SvR.stp {v : V} {d : Sv} (s : Stp as H bs H') (h : SvR K as H v d) : SvR K bs H' v d := by
  cases d with
  | d x => exact Dx.way s.way h
  | o k =>
    obtain ⟨a, e, z⟩ := h
    obtain ⟨nw, q, _⟩ := s.pre
    refine ⟨a, ?_, z⟩
    rw [q, List.getElem?_append_left (List.getElem?_eq_some_iff.mp e).1]
    exact e
  | fn f r =>
    obtain ⟨nw, q, n⟩ := s.pre
    refine ⟨h.1, r.go (H := H) ?_ fun a o e m => s.go a o e fun z => m (s.sub a z)⟩
    rw [q]
    exact r.adds h.2 n
theorem SvR.go {v : V} {d : Sv} (g : Go as H H') (h : SvR K as H v d) : SvR K as H' v d := by
  cases d with
  | d x => exact Dx.way (Way.of_go g) h
  | o k => exact h
  | fn f r => exact ⟨h.1, r.go h.2 g⟩
theorem SvR.wayA {v : V} {d : Sv} {p : Addr} (hp : H p = none) (h : SvR K as H v d) : SvR K (as ++ [p]) H v d := by
  cases d with
  | d x => exact Dx.way (Way.of_add hp) h
  | o k =>
    obtain ⟨a, e, z⟩ := h
    refine ⟨a, ?_, z⟩
    rw [List.getElem?_append_left (List.getElem?_eq_some_iff.mp e).1]
    exact e
  | fn f r => exact ⟨h.1, r.add h.2 hp⟩
theorem SvA.go {vs : List V} {ds : List Sv} (g : Go as H H') : SvA K as H vs ds → SvA K as H' vs ds
  | .nil => .nil
  | .cons h r => .cons (h.go g) (SvA.go g r)
theorem Re.go (R : Re K as H σ S) (g : Go as H H') (Q : Ro K as H' os') : Re K as H' σ ⟨S.s, os'⟩ :=
  ⟨Q, R.slen, fun i d h => by
    obtain ⟨v, e, r⟩ := R.slot i d h
    exact ⟨v, e, r.go g⟩⟩
theorem Ro.new {p : Addr} {o : HO} (R : Ro K as H os) (hp : H p = none) : Ro K as (upd H p o) os := by
  refine ⟨R.nd, R.len, fun k a ob h1 h2 => ?_⟩
  refine (R.own k a ob h1 h2).way (Way.of_go (Go.new hp)) fun u e => ?_
  rw [upd_ne (ne_of_none e hp)]
  exact e
end

/-! ### abstract wishes -/
/-- what is wished of an exception: at the heap, over the data -/
structure Xc where
  wx : Value → Option Addr → St → Hp → Prop
  xe : Addr → List (Str × D) → Sa → Prop
/-- none may come -/
def X0 : Xc := ⟨fun _ _ _ _ => False, fun _ _ _ => False⟩
section
variable (K : PySem.W.Frag) (X : Xc)
def XH (as : List Addr) (H : Hp) (σ : St) (s : Sl) : Prop :=
  ∀ H' C dd fs fds os', Go as H H' → Ro K as H' os' → H dd = none → H' dd = some (.xd fs) → DxF K as H' fs fds → X.xe C fds ⟨s, os'⟩ → X.wx (.ref C) (some dd) σ H'
def XS (as : List Addr) (H : Hp) : Prop :=
  ∀ bs H' σ' S' C dd fs fds, Stp as H bs H' → Re K bs H' σ' S' → H dd = none → H' dd = some (.xd fs) → DxF K bs H' fs fds → X.xe C fds S' → X.wx (.ref C) (some dd) σ' H'
def EW (te : TE) (S : Sa) (Q : Sv → Os → Prop) : Prop :=
  ∀ as H σ (Q' : VK), Re K as H σ S → XH K X as H σ S.s → (∀ v H' d os', Go as H H' → Ro K as H' os' → SvR K as H' v d → Q d os' → Q' v H') → te σ H Q'
def TW (tt : TT) (S : Sa) (Q : Bool → Os → Prop) : Prop :=
  ∀ as H σ (Q' : Bool → Hp → Prop), Re K as H σ S → XH K X as H σ S.s → (∀ b H' os', Go as H H' → Ro K as H' os' → Q b os' → Q' b H') → tt σ H Q'
def AW (ta : TA) (S : Sa) (Q : List Sv → Os → Prop) : Prop :=
  ∀ as H σ (Q' : List V → Hp → Prop), Re K as H σ S → XH K X as H σ S.s → (∀ vs H' ds os', Go as H H' → Ro K as H' os' → SvA K as H' vs ds → Q ds os' → Q' vs H') → ta σ H Q'
def OW (to : TO) (S : Sa) (Q : Option Int → Os → Prop) : Prop :=
  ∀ as H σ (Q' : Option Int → Hp → Prop), Re K as H σ S → XH K X as H σ S.s → (∀ o H' os', Go as H H' → Ro K as H' os' → Q o os' → Q' o H') → to σ H Q'
/-- an operation on values -/
def BW (r : R2) (x y : Sv) (os : Os) (Q : Sv → Os → Prop) : Prop :=
  ∀ as H v u (Q' : VK), Ro K as H os → SvR K as H v x → SvR K as H u y → (∀ z H' d os', Go as H H' → Ro K as H' os' → SvR K as H' z d → Q d os' → Q' z H') → r v u H Q'
def UW (r : V → Hp → VK → Prop) (x : Sv) (os : Os) (Q : Sv → Os → Prop) : Prop :=
  ∀ as H v (Q' : VK), Ro K as H os → SvR K as H v x → (∀ z H' d os', Go as H H' → Ro K as H' os' → SvR K as H' z d → Q d os' → Q' z H') → r v H Q'
/-- a call on values -/
def CW (r : List V → Hp → VK → Prop) (xs : List Sv) (os : Os) (Q : Sv → Os → Prop) : Prop :=
  ∀ as H vs (Q' : VK), Ro K as H os → SvA K as H vs xs → (∀ z H' d os', Go as H H' → Ro K as H' os' → SvR K as H' z d → Q d os' → Q' z H') → r vs H Q'
/-- a method on values -/
def MW (r : V → List V → Hp → VK → Prop) (x : Sv) (xs : List Sv) (os : Os) (Q : Sv → Os → Prop) : Prop :=
  ∀ as H v vs (Q' : VK), Ro K as H os → SvR K as H v x → SvA K as H vs xs → (∀ z H' d os', Go as H H' → Ro K as H' os' → SvR K as H' z d → Q d os' → Q' z H') → r v vs H Q'
structure Ea where
  nx : Sa → Prop
  rt : Sv → Os → Prop
  bk : Sa → Prop := fun _ => False
  ct : Sa → Prop := fun _ => False
def W (ts : TS) (E : Ea) (S : Sa) : Prop :=
  ∀ as H σ (D : Ends), Re K as H σ S → XS K X as H →
    (∀ bs H' σ' S', Stp as H bs H' → Re K bs H' σ' S' → E.nx S' → D.nx σ' H') →
    (∀ bs H' v d os', Stp as H bs H' → Ro K bs H' os' → SvR K bs H' v d → E.rt d os' → D.rt v H') →
    (∀ bs H' σ' S', Stp as H bs H' → Re K bs H' σ' S' → E.bk S' → D.bk σ' H') →
    (∀ bs H' σ' S', Stp as H bs H' → Re K bs H' σ' S' → E.ct S' → D.ct σ' H') → ts D σ H
end
section
variable {K : PySem.W.Frag} {X : Xc} {as bs : List Addr} {H H1 : Hp} {σ : St} {s : Sl} {S : Sa} {os os1 : Os}
theorem XH.go (x : XH K X as H σ s) (g : Go as H H1) (R : Ro K as H1 os1) : XH K X as H1 σ s := fun H' C dd fs fds os' g2 R2 n e r z =>
  x H' C dd fs fds os' (g.trans g2) R2 (g.free (R.notin n) n) e r z
theorem XS.stp (x : XS K X as H) (s : Stp as H bs H1) : XS K X bs H1 := fun cs H' σ' S' C dd fs fds t R n e r z => x cs H' σ' S' C dd fs fds (s.trans t) R (s.th _ n) e r z
theorem XS.h (x : XS K X as H) (R : Re K as H σ S) : XH K X as H σ S.s := fun H' C dd fs fds os' g R2 n e r z => x as H' σ ⟨S.s, os'⟩ C dd fs fds (Stp.of_go g R2) (R.go g R2) n e r z
theorem XH.x0 : XH K X0 as H σ s := fun _ _ _ _ _ _ _ _ _ _ _ z => z.elim
theorem XS.x0 : XS K X0 as H := fun _ _ _ _ _ _ _ _ _ _ _ _ _ z => z.elim
end

/-! ### expressions -/
section
variable {K : PySem.W.Frag} {X : Xc} {S : Sa} {os : Os} {Q : Sv → Os → Prop} {ta tb te : TE} {tr : TA}
theorem ew_var {i : Nat} {d : Sv} (h : S.s[i]? = some (some d)) (q : Q d S.os) : EW K X (tVar i) S Q := fun as H σ Q' R x k => by
  obtain ⟨v, e, r⟩ := R.slot i d h
  exact ⟨v, e, k v H d S.os (Go.refl _ _) R.o r q⟩
theorem ew_c {v : V} {d : D} (h : ∀ as H, Dx K as H v d) (q : Q (.d d) S.os) : EW K X (tC v) S Q := fun as H σ Q' R x k => k v H (.d d) S.os (Go.refl _ _) R.o (h as H) q
theorem ew_int {i : Int} (q : Q (.d (.int i)) S.os) : EW K X (tC (.int i)) S Q := ew_c (fun _ _ => .int i) q
theorem ew_str {z : PySem.Str} (q : Q (.d (.str z)) S.os) : EW K X (tC (.str z)) S Q := ew_c (fun _ _ => .str z) q
theorem ew_bl {b : Bool} (q : Q (.d (.bl b)) S.os) : EW K X (tC (.bl b)) S Q := ew_c (fun _ _ => .bl b) q
theorem ew_non (q : Q (.d .non) S.os) : EW K X (tC .non) S Q := ew_c (fun _ _ => .non) q
theorem ew_op {r : R2} (h : EW K X ta S fun x os1 => EW K X tb ⟨S.s, os1⟩ fun y os2 => BW K r x y os2 Q) : EW K X (tOp r ta tb) S Q := fun as H σ Q' R x k =>
  h as H σ _ R x fun v H1 d os1 g1 R1 r1 q1 => q1 as H1 σ _ (R.go g1 R1) (x.go g1 R1) fun u H2 e os2 g2 R2 r2 q2 => q2 as H2 v u Q' R2 (r1.go g2) r2 fun z H3 f os3 g3 R3 r3 q3 => k z H3 f os3 ((g1.trans g2).trans g3) R3 r3 q3
theorem ew_un {r : V → Hp → VK → Prop} (h : EW K X ta S fun x os1 => UW K r x os1 Q) : EW K X (tUn r ta) S Q := fun as H σ Q' R x k =>
  h as H σ _ R x fun v H1 d os1 g1 R1 r1 q1 => q1 as H1 v Q' R1 r1 fun z H3 f os3 g3 R3 r3 q3 => k z H3 f os3 (g1.trans g3) R3 r3 q3
theorem aw_nil {Q : List Sv → Os → Prop} (q : Q [] S.os) : AW K X tNil S Q := fun as H σ Q' R x k => k [] H [] S.os (Go.refl _ _) R.o .nil q
theorem aw_cons {Q : List Sv → Os → Prop} (h : EW K X ta S fun x os1 => AW K X tr ⟨S.s, os1⟩ fun xs os2 => Q (x :: xs) os2) : AW K X (tCons ta tr) S Q := fun as H σ Q' R x k =>
  h as H σ _ R x fun v H1 d os1 g1 R1 r1 q1 => q1 as H1 σ _ (R.go g1 R1) (x.go g1 R1) fun vs H2 ds os2 g2 R2 r2 q2 => k (v :: vs) H2 (d :: ds) os2 (g1.trans g2) R2 (.cons (r1.go g2) r2) q2
theorem ew_cb {r : List V → Hp → VK → Prop} (h : AW K X tr S fun xs os1 => CW K r xs os1 Q) : EW K X (tCB r tr) S Q := fun as H σ Q' R x k =>
  h as H σ _ R x fun vs H1 ds os1 g1 R1 r1 q1 => q1 as H1 vs Q' R1 r1 fun z H3 f os3 g3 R3 r3 q3 => k z H3 f os3 (g1.trans g3) R3 r3 q3
theorem ew_if {t : TT} (h : TW K X t S fun b os1 => if b = true then EW K X ta ⟨S.s, os1⟩ Q else EW K X tb ⟨S.s, os1⟩ Q) : EW K X (tIf t ta tb) S Q := fun as H σ Q' R x k =>
  h as H σ _ R x fun b H1 os1 g1 R1 q1 => by
    cases b with
    | true =>
      show ta σ H1 Q'
      exact (show EW K X ta ⟨S.s, os1⟩ Q from q1) as H1 σ Q' (R.go g1 R1) (x.go g1 R1) fun z H3 f os3 g3 R3 r3 q3 => k z H3 f os3 (g1.trans g3) R3 r3 q3
    | false =>
      show tb σ H1 Q'
      exact (show EW K X tb ⟨S.s, os1⟩ Q from q1) as H1 σ Q' (R.go g1 R1) (x.go g1 R1) fun z H3 f os3 g3 R3 r3 q3 => k z H3 f os3 (g1.trans g3) R3 r3 q3
theorem ew_mono {Q' : Sv → Os → Prop} (h : EW K X te S Q) (m : ∀ d os, Q d os → Q' d os) : EW K X te S Q' := fun as H σ Z R x k =>
  h as H σ Z R x fun v H1 d os1 g1 R1 r1 q1 => k v H1 d os1 g1 R1 r1 (m d os1 q1)
end

/-! ### tests -/
section
variable {K : PySem.W.Frag} {X : Xc} {S : Sa} {Q : Bool → Os → Prop} {ta : TE} {t u : TT}
theorem tw_test (h : EW K X ta S fun x os => ∃ b, x = .d (.bl b) ∧ Q b os) : TW K X (tTest ta) S Q := fun as H σ Q' R x k =>
  h as H σ _ R x fun v H1 d os1 g1 R1 r1 ⟨b, e, q⟩ => by
    subst e
    cases r1
    exact ⟨b, rfl, k b H1 os1 g1 R1 q⟩
theorem tw_B (h : EW K X ta S fun x os => ∃ b, x = .d (.bl b) ∧ Q b os) : TW K X (tB ta) S Q := fun as H σ Q' R x k =>
  h as H σ _ R x fun v H1 d os1 g1 R1 r1 ⟨b, e, q⟩ => by
    subst e
    cases r1
    exact ⟨b, rfl, k b H1 os1 g1 R1 q⟩
theorem tw_and (h : TW K X t S fun b os => if b = true then TW K X u ⟨S.s, os⟩ Q else Q false os) : TW K X (tAnd t u) S Q := fun as H σ Q' R x k =>
  h as H σ _ R x fun b H1 os1 g1 R1 q1 => by
    cases b with
    | true =>
      show u σ H1 Q'
      exact (show TW K X u ⟨S.s, os1⟩ Q from q1) as H1 σ Q' (R.go g1 R1) (x.go g1 R1) fun b H2 os2 g2 R2 q2 => k b H2 os2 (g1.trans g2) R2 q2
    | false =>
      show Q' false H1
      exact k false H1 os1 g1 R1 q1
theorem tw_or (h : TW K X t S fun b os => if b = true then Q true os else TW K X u ⟨S.s, os⟩ Q) : TW K X (tOr t u) S Q := fun as H σ Q' R x k =>
  h as H σ _ R x fun b H1 os1 g1 R1 q1 => by
    cases b with
    | false =>
      show u σ H1 Q'
      exact (show TW K X u ⟨S.s, os1⟩ Q from q1) as H1 σ Q' (R.go g1 R1) (x.go g1 R1) fun b H2 os2 g2 R2 q2 => k b H2 os2 (g1.trans g2) R2 q2
    | true =>
      show Q' true H1
      exact k true H1 os1 g1 R1 q1
theorem tw_not (h : TW K X t S fun b os => Q (!b) os) : TW K X (tNot t) S Q := fun as H σ Q' R x k => h as H σ _ R x fun b H1 os1 g1 R1 q1 => k (!b) H1 os1 g1 R1 q1
end
section
variable {K : PySem.W.Frag} {X : Xc} {S : Sa} {Q : Sv → Os → Prop} {ta tb : TE}
theorem ew_andV (h : EW K X ta S fun x os => ∃ b, x = .d (.bl b) ∧ if b = true then EW K X tb ⟨S.s, os⟩ Q else Q (.d (.bl false)) os) : EW K X (tAndV ta tb) S Q := fun as H σ Q' R x k =>
  h as H σ _ R x fun v H1 d os1 g1 R1 r1 ⟨b, e, q1⟩ => by
    subst e
    cases r1
    refine ⟨b, rfl, ?_⟩
    cases b with
    | true =>
      show tb σ H1 Q'
      exact (show EW K X tb ⟨S.s, os1⟩ Q from q1) as H1 σ Q' (R.go g1 R1) (x.go g1 R1) fun z H3 f os3 g3 R3 r3 q3 => k z H3 f os3 (g1.trans g3) R3 r3 q3
    | false =>
      show Q' (.bl false) H1
      exact k _ H1 (.d (.bl false)) os1 g1 R1 (Dx.bl false) q1
theorem ew_orV (h : EW K X ta S fun x os => ∃ b, x = .d (.bl b) ∧ if b = true then Q (.d (.bl true)) os else EW K X tb ⟨S.s, os⟩ Q) : EW K X (tOrV ta tb) S Q := fun as H σ Q' R x k =>
  h as H σ _ R x fun v H1 d os1 g1 R1 r1 ⟨b, e, q1⟩ => by
    subst e
    cases r1
    refine ⟨b, rfl, ?_⟩
    cases b with
    | false =>
      show tb σ H1 Q'
      exact (show EW K X tb ⟨S.s, os1⟩ Q from q1) as H1 σ Q' (R.go g1 R1) (x.go g1 R1) fun z H3 f os3 g3 R3 r3 q3 => k z H3 f os3 (g1.trans g3) R3 r3 q3
    | true =>
      show Q' (.bl true) H1
      exact k _ H1 (.d (.bl true)) os1 g1 R1 (Dx.bl true) q1
theorem ew_notV (h : EW K X ta S fun x os => ∃ b, x = .d (.bl b) ∧ Q (.d (.bl (!b))) os) : EW K X (tNotV ta) S Q := fun as H σ Q' R x k =>
  h as H σ _ R x fun v H1 d os1 g1 R1 r1 ⟨b, e, q1⟩ => by
    subst e
    cases r1
    exact ⟨b, rfl, k _ H1 (.d (.bl _)) os1 g1 R1 (Dx.bl _) q1⟩
end

/-! ### statements -/
section
variable {K : PySem.W.Frag} {X : Xc} {S : Sa} {E : Ea} {te : TE} {tt : TT} {t u : TS}
theorem w_seq (h : W K X t { E with nx := W K X u E } S) : W K X (tSeq t u) E S := fun as H σ D R x n r b c => by
  refine h as H σ { D with nx := u D } R x (fun bs H1 σ1 S1 s1 R1 q1 => ?_) r b c
  exact q1 bs H1 σ1 D R1 (x.stp s1) (fun cs H2 σ2 S2 s2 R2 q2 => n cs H2 σ2 S2 (s1.trans s2) R2 q2) (fun cs H2 v d os2 s2 R2 r2 q2 => r cs H2 v d os2 (s1.trans s2) R2 r2 q2)
    (fun cs H2 σ2 S2 s2 R2 q2 => b cs H2 σ2 S2 (s1.trans s2) R2 q2) (fun cs H2 σ2 S2 s2 R2 q2 => c cs H2 σ2 S2 (s1.trans s2) R2 q2)
theorem w_next (q : E.nx S) : W K X tNext E S := fun as H σ D R x n r b c => n as H σ S Stp.refl R q
theorem w_brk (q : E.bk S) : W K X tBreak E S := fun as H σ D R x n r b c => b as H σ S Stp.refl R q
theorem w_cont (q : E.ct S) : W K X tCont E S := fun as H σ D R x n r b c => c as H σ S Stp.refl R q
theorem w_ret (h : EW K X te S E.rt) : W K X (tRet te) E S := fun as H σ D R x n r b c => h as H σ _ R (x.h R) fun v H1 d os1 g1 R1 r1 q1 => r as H1 v d os1 (Stp.of_go g1 R1) R1 r1 q1
theorem w_retN (h : E.rt (.d .non) S.os) : W K X tRetN E S := fun as H σ D R x n r b c => r as H .non (.d .non) S.os Stp.refl R.o Dx.non h
theorem w_drop (h : EW K X te S fun _ os => E.nx ⟨S.s, os⟩) : W K X (tDrop te) E S := fun as H σ D R x n r b c => h as H σ _ R (x.h R) fun v H1 d os1 g1 R1 r1 q1 => n as H1 σ _ (Stp.of_go g1 R1) (R.go g1 R1) q1
theorem Re.set {as : List Addr} {H : Hp} {σ : St} {v : V} {d : Sv} (i : Nat) (R : Re K as H σ S) (r : SvR K as H v d) : Re K as H (σ.set i (some v)) ⟨S.s.set i (some d), S.os⟩ :=
  ⟨R.o, by simp [R.slen], fun j e h => by
    have h' : (S.s.set i (some d))[j]? = some (some e) := h
    by_cases hj : i = j
    · subst hj
      by_cases hl : i < S.s.length
      · rw [List.getElem?_set_self hl] at h'
        cases h'
        exact ⟨v, by rw [List.getElem?_set_self (by rw [R.slen]; exact hl)], r⟩
      · rw [List.getElem?_eq_none (by simpa using hl)] at h'
        cases h'
    · rw [List.getElem?_set_ne hj] at h'
      obtain ⟨w, e1, r1⟩ := R.slot j e h'
      exact ⟨w, by rw [List.getElem?_set_ne hj]; exact e1, r1⟩⟩
theorem w_asg {i : Nat} (h : EW K X te S fun d os => E.nx ⟨S.s.set i (some d), os⟩) : W K X (tAsg te (gName i)) E S := fun as H σ D R x n r b c =>
  h as H σ _ R (x.h R) fun v H1 d os1 g1 R1 r1 q1 => n as H1 _ _ (Stp.of_go g1 R1) ((R.go g1 R1).set i r1) q1
theorem w_if (h : TW K X tt S fun b os => if b = true then W K X t E ⟨S.s, os⟩ else W K X u E ⟨S.s, os⟩) : W K X (tIfS tt t u) E S := fun as H σ D R x n r b c =>
  h as H σ _ R (x.h R) fun y H1 os1 g1 R1 q1 => by
    have s1 := Stp.of_go g1 R1
    cases y with
    | true =>
      show t D σ H1
      exact (show W K X t E ⟨S.s, os1⟩ from q1) as H1 σ D (R.go g1 R1) (x.stp s1) (fun cs H2 σ2 S2 s2 R2 q2 => n cs H2 σ2 S2 (s1.trans s2) R2 q2) (fun cs H2 v d os2 s2 R2 r2 q2 => r cs H2 v d os2 (s1.trans s2) R2 r2 q2)
        (fun cs H2 σ2 S2 s2 R2 q2 => b cs H2 σ2 S2 (s1.trans s2) R2 q2) (fun cs H2 σ2 S2 s2 R2 q2 => c cs H2 σ2 S2 (s1.trans s2) R2 q2)
    | false =>
      show u D σ H1
      exact (show W K X u E ⟨S.s, os1⟩ from q1) as H1 σ D (R.go g1 R1) (x.stp s1) (fun cs H2 σ2 S2 s2 R2 q2 => n cs H2 σ2 S2 (s1.trans s2) R2 q2) (fun cs H2 v d os2 s2 R2 r2 q2 => r cs H2 v d os2 (s1.trans s2) R2 r2 q2)
        (fun cs H2 σ2 S2 s2 R2 q2 => b cs H2 σ2 S2 (s1.trans s2) R2 q2) (fun cs H2 σ2 S2 s2 R2 q2 => c cs H2 σ2 S2 (s1.trans s2) R2 q2)
theorem w_mono {E' : Ea} (h : W K X t E S) (n : ∀ S, E.nx S → E'.nx S) (r : ∀ d os, E.rt d os → E'.rt d os) (b : ∀ S, E.bk S → E'.bk S) (c : ∀ S, E.ct S → E'.ct S) : W K X t E' S := fun as H σ D R x kn kr kb kc =>
  h as H σ D R x (fun bs H' σ' S' s R' q => kn bs H' σ' S' s R' (n _ q)) (fun bs H' v d os s R' r' q => kr bs H' v d os s R' r' (r _ _ q)) (fun bs H' σ' S' s R' q => kb bs H' σ' S' s R' (b _ q)) (fun bs H' σ' S' s R' q => kc bs H' σ' S' s R' (c _ q))
/-- never come to -/
theorem w_never (h : False) : W K X t E S := h.elim
end
end Br

/-! BrB: calls, operations on data. -/
namespace Br
open PySem L2

/-! ### data as the library's own -/
mutual
def D.py : D → Option PyData
  | .non => some .none
  | .bl b => some (.bool b)
  | .int i => some (.int i)
  | .str x => some (.str x)
  | .lst xs => (D.pys xs).map .list
  | .tup xs => (D.pys xs).map .tuple
  | .dk _ => none
  | .ob _ _ => none
  | .xo _ _ => none
def D.pys : List D → Option (List PyData)
  | [] => some []
  | x :: r => (D.py x).bind fun p => (D.pys r).map fun ps => p :: ps
end
section
variable {K : PySem.W.Frag} {as : List Addr} {H : Hp}
mutual
theorem Dx.dp1 : ∀ (d : D) (v : V) (p : PyData), Dx K as H v d → d.py = some p → Dp K H v p
  | .non, _, _, h, e => by
    cases h
    have e2 : some PyData.none = some _ := e
    cases e2
    exact .non
  | .bl b, _, _, h, e => by
    cases h
    have e2 : some (PyData.bool b) = some _ := e
    cases e2
    exact .bl b
  | .int b, _, _, h, e => by
    cases h
    have e2 : some (PyData.int b) = some _ := e
    cases e2
    exact .int b
  | .str b, _, _, h, e => by
    cases h
    have e2 : some (PyData.str b) = some _ := e
    cases e2
    exact .str b
  | .lst ds, _, p, h, e => by
    cases h with
    | lst hl hr =>
      have e2 : (D.pys ds).map PyData.list = some p := e
      obtain ⟨ps, q, rfl⟩ := Option.map_eq_some_iff.mp e2
      exact .lst hl.sq (DxA.dp1 ds _ ps hr q)
  | .tup ds, _, p, h, e => by
    cases h with
    | tup hl hr =>
      have e2 : (D.pys ds).map PyData.tuple = some p := e
      obtain ⟨ps, q, rfl⟩ := Option.map_eq_some_iff.mp e2
      exact .tup hl.sq (DxA.dp1 ds _ ps hr q)
  | .dk _, _, p, _, e => by
    have e2 : (none : Option PyData) = some p := e
    cases e2
  | .ob _ _, _, p, _, e => by
    have e2 : (none : Option PyData) = some p := e
    cases e2
  | .xo _ _, _, p, _, e => by
    have e2 : (none : Option PyData) = some p := e
    cases e2
theorem DxA.dp1 : ∀ (ds : List D) (vs : List V) (ps : List PyData), DxA K as H vs ds → D.pys ds = some ps → DpAll K H vs ps
  | [], _, ps, h, e => by
    cases h
    have e2 : some [] = some ps := e
    cases e2
    exact .nil
  | d :: ds, _, ps, h, e => by
    cases h with
    | cons h r =>
      have e2 : ((D.py d).bind fun p => (D.pys ds).map fun ps => p :: ps) = some ps := e
      obtain ⟨p, q1, q2⟩ := Option.bind_eq_some_iff.mp e2
      obtain ⟨qs, q3, q4⟩ := Option.map_eq_some_iff.mp q2
      subst q4
      exact .cons (Dx.dp1 d _ p h q1) (DxA.dp1 ds _ qs r q3)
end
theorem Dx.dp {v : V} {d : D} {p : PyData} (h : Dx K as H v d) (e : d.py = some p) : Dp K H v p := Dx.dp1 d v p h e
end

/-! ### promises over data -/
abbrev Xa := Addr → List (Str × D) → Os → Prop
abbrev FD := List Sv → Os → (D → Os → Prop) → Xa → Prop
/-- the promise: from the arguments' data and the store to the answer's -/
def spD (K : PySem.W.Frag) (f : FD) : Sp := fun vs H Q E => ∃ (as : List Addr) (os : Os) (ds : List Sv) (QA : D → Os → Prop) (EA : Xa), Ro K as H os ∧ SvA K as H vs ds ∧ f ds os QA EA ∧
  (∀ v H' d os', Go as H H' → Ro K as H' os' → Dx K as H' v d → QA d os' → Q v H') ∧
  (∀ C dd H' fs fds os', Go as H H' → Ro K as H' os' → H dd = none → H' dd = some (.xd fs) → DxF K as H' fs fds → EA C fds os' → E (.ref C) (some dd) H')
section
variable {K : PySem.W.Frag} {as bs : List Addr} {H H' : Hp} {os os' : Os}
/-- back to the caller's things -/
theorem Ro.back (s : Stp as H bs H') (n : as.length = os.length) (R : Ro K bs H' os') : Ro K as H' (os'.take os.length) := by
  obtain ⟨nw, e, _⟩ := s.pre
  have hl : os.length ≤ os'.length := by rw [← R.len, ← n, e, List.length_append]; omega
  refine ⟨?_, by rw [n, List.length_take]; omega, fun k a ob h1 h2 => ?_⟩
  · have q := R.nd
    rw [e] at q
    exact (List.nodup_append.mp q).1
  · have hk : k < as.length := (List.getElem?_eq_some_iff.mp h1).1
    have h1' : bs[k]? = some a := by rw [e, List.getElem?_append_left hk]; exact h1
    have h2' : os'[k]? = some ob := by rw [List.getElem?_take_of_lt (by omega)] at h2; exact h2
    exact (R.own k a ob h1' h2').way (Way.of_sub s.sub) fun _ z => z
/-- what a return hands out -/
def RetOk (n : Nat) (QA : D → Os → Prop) : Sv → Os → Prop := fun x os' => match x with
  | .d d => QA d (os'.take n)
  | .o k => n ≤ k ∧ ∃ xs, os'[k]? = some (.ml xs) ∧ QA (.lst xs) (os'.take n)
  | .fn _ _ => False
theorem ret_back {QA : D → Os → Prop} {v : V} {x : Sv} {Q : VK} (s : Stp as H bs H') (n : as.length = os.length) (R : Ro K bs H' os') (r : SvR K bs H' v x) (q : RetOk os.length QA x os')
    (k : ∀ v H' d os', Go as H H' → Ro K as H' os' → Dx K as H' v d → QA d os' → Q v H') : Q v H' := by
  cases x with
  | d d => exact k v H' d _ s.go (R.back s n) (Dx.way (Way.of_sub s.sub) r) q
  | o j =>
    obtain ⟨hj, xs, e, q⟩ := q
    obtain ⟨a, ea, rfl⟩ := r
    obtain ⟨vs, h1, h2⟩ := R.own j a _ ea e
    obtain ⟨nw, eb, hf⟩ := s.pre
    have ha : a ∉ as := fun z => by
      obtain ⟨i, hi, ei⟩ := List.mem_iff_getElem.mp z
      have h3 : bs[i]? = some a := by rw [eb, List.getElem?_append_left hi, List.getElem?_eq_getElem hi, ei]
      have h4 : i = j := by
        obtain ⟨l1, m1⟩ := List.getElem?_eq_some_iff.mp h3
        obtain ⟨l2, m2⟩ := List.getElem?_eq_some_iff.mp ea
        exact (List.getElem_inj R.nd).mp (m1.trans m2.symm)
      omega
    exact k _ H' _ _ s.go (R.back s n) (.lst (.inl ⟨ha, .inl h1⟩) (h2.way (Way.of_sub s.sub))) q
  | fn f r => exact q.elim
def startS (N : List Str) (ds : List Sv) : Sl := ds.map some ++ List.replicate (N.length - ds.length) none
theorem SvA.length : ∀ {vs : List V} {ds : List Sv}, SvA K as H vs ds → vs.length = ds.length
  | _, _, .nil => rfl
  | _, _, .cons _ r => by rw [List.length_cons, List.length_cons, SvA.length r]
theorem SvA.get : ∀ {v : List V} {d : List Sv} {i : Nat} {x : Sv}, SvA K as H v d → d[i]? = some x → ∃ u, v[i]? = some u ∧ SvR K as H u x
  | _, _, _, _, .nil, e => by simp at e
  | _, _, 0, _, .cons h _, e => by simp at e; subst e; exact ⟨_, rfl, h⟩
  | _, _, i + 1, x, .cons _ r, e => by
    obtain ⟨u, h1, h2⟩ := SvA.get (i := i) (x := x) r (by simpa using e)
    exact ⟨u, by simpa using h1, h2⟩
theorem re_start {N : List Str} {vs : List V} {ds : List Sv} (R : Ro K as H os) (r : SvA K as H vs ds) : Re K as H (L2.start N vs) ⟨startS N ds, os⟩ := by
  have hl := r.length
  refine ⟨R, by unfold L2.start startS; simp [hl], fun i d h => ?_⟩
  have h' : (startS N ds)[i]? = some (some d) := h
  unfold startS at h'
  by_cases hi : i < ds.length
  · rw [List.getElem?_append_left (by simpa using hi), List.getElem?_map] at h'
    cases e : ds[i]? with
    | none => rw [e] at h'; cases h'
    | some y =>
      rw [e] at h'
      cases h'
      obtain ⟨u, h1, h2⟩ := r.get e
      refine ⟨u, ?_, h2⟩
      unfold L2.start
      rw [List.getElem?_append_left (by simpa [hl] using hi), List.getElem?_map, h1]
      rfl
  · rw [List.getElem?_append_right (by simpa using hi), List.getElem?_replicate] at h'
    split at h' <;> cases h'
/-- a body's abstract reading is a reading of the promise -/
theorem read_of {N : List Str} {f : FD} {t : TS} {vs : List V} {Q : VK} {E : XK} (h : spD K f vs H Q E)
    (w : ∀ ds os QA EA, f ds os QA EA → W K ⟨fun cls d _ H => E cls d H, fun C fds S => EA C fds (S.os.take os.length)⟩ t { nx := fun S => RetOk os.length QA (.d .non) S.os, rt := RetOk os.length QA } ⟨startS N ds, os⟩) : t { nx := fun _ H' => Q .non H', rt := Q } (L2.start N vs) H := by
  obtain ⟨as, os, ds, QA, EA, R, r, hf, kq, ke⟩ := h
  refine w ds os QA EA hf as H _ _ (re_start R r) (fun bs H' σ' S' C dd fs fds s R' n e r' z => ?_) (fun bs H' σ' S' s R' q => ?_) (fun bs H' v d os' s R' r' q => ?_) (fun _ _ _ _ _ _ q => q.elim) fun _ _ _ _ _ _ q => q.elim
  · exact ke C dd H' fs fds _ s.go (R'.o.back s R.len) n e (DxF.way (Way.of_sub s.sub) r') z
  · exact ret_back s R.len R'.o (v := .non) (x := .d .non) Dx.non q kq
  · exact ret_back s R.len R' r' q kq
end

/-! ### a call of a def -/
section
variable {K : PySem.W.Frag} {X : Xc} {S : Sa} {Q : Sv → Os → Prop} {ta : TA} {f : FD}
theorem SvA.nilr {as : List Addr} {H : Hp} : ∀ {vs : List V} {ds : List Sv}, SvA K as H vs ds → SvA K as H (vs ++ []) ds := fun h => by
  rw [List.append_nil]
  exact h
theorem ew_call (h : AW K X ta S fun ds os => f ds os (fun d os' => Q (.d d) os') fun _ _ _ => False) : EW K X (tCall (spD K f) [] E0 ta) S Q := fun as H σ Q' R x k =>
  h as H σ _ R x fun vs H1 ds os1 g1 R1 r1 q1 => ⟨as, os1, ds, _, _, R1, r1.nilr, q1, fun v H2 d os2 g2 R2 r2 q2 => k v H2 (.d d) os2 (g1.trans g2) R2 r2 q2, fun _ _ _ _ _ _ _ _ _ _ _ z => z.elim⟩
/-- one that may raise -/
theorem ew_callS {wx : WX} {xe : Addr → List (Str × D) → Sa → Prop} (h : AW K ⟨wx, xe⟩ ta S fun ds os => f ds os (fun d os' => Q (.d d) os') fun C fds os' => xe C fds ⟨S.s, os'⟩) : EW K ⟨wx, xe⟩ (tCallS (spD K f) (WE wx) ta) S Q := fun as H σ Q' R x k =>
  h as H σ _ R x fun vs H1 ds os1 g1 R1 r1 q1 => ⟨as, os1, ds, _, _, R1, r1, q1, fun v H2 d os2 g2 R2 r2 q2 => k v H2 (.d d) os2 (g1.trans g2) R2 r2 q2,
    fun C dd H2 fs fds os2 g2 R2 n2 e2 r2 z => x H2 C dd fs fds os2 (g1.trans g2) R2 (g1.free (R1.notin n2) n2) e2 r2 z⟩
end

/-! ### operations on values -/
section
variable {K : PySem.W.Frag} {os : Os} {Q : Sv → Os → Prop}
theorem bw_pure {r : R2} {x y : Sv} {z : D} (h : ∀ as H v u (Q' : VK), Ro K as H os → SvR K as H v x → SvR K as H u y → (∀ v, Dx K as H v z → Q' v H) → r v u H Q') (q : Q (.d z) os) : BW K r x y os Q :=
  fun as H v u Q' R rx ry k => h as H v u Q' R rx ry fun w rw => k w H (.d z) os (Go.refl _ _) R rw q
theorem cw_pure {r : List V → Hp → VK → Prop} {xs : List Sv} {z : D} (h : ∀ as H vs (Q' : VK), Ro K as H os → SvA K as H vs xs → (∀ v, Dx K as H v z → Q' v H) → r vs H Q') (q : Q (.d z) os) : CW K r xs os Q :=
  fun as H vs Q' R r k => h as H vs Q' R r fun w rw => k w H (.d z) os (Go.refl _ _) R rw q
/-- what gives a new object -/
theorem cw_new {r : List V → Hp → VK → Prop} {xs : List Sv} {z : D}
    (h : ∀ as H vs (Q' : VK), Ro K as H os → SvA K as H vs xs → (∀ p o, H p = none → Dx K as (upd H p o) (.ref p) z → Q' (.ref p) (upd H p o)) → (∀ v, Dx K as H v z → Q' v H) → r vs H Q') (q : Q (.d z) os) : CW K r xs os Q :=
  fun as H vs Q' R r k => h as H vs Q' R r (fun p o hp rw => k (.ref p) (upd H p o) (.d z) os (Go.new hp) (R.new hp) rw q) fun w rw => k w H (.d z) os (Go.refl _ _) R rw q
theorem bw_new {r : R2} {x y : Sv} {z : D}
    (h : ∀ as H v u (Q' : VK), Ro K as H os → SvR K as H v x → SvR K as H u y → (∀ p o, H p = none → Dx K as (upd H p o) (.ref p) z → Q' (.ref p) (upd H p o)) → (∀ v, Dx K as H v z → Q' v H) → r v u H Q') (q : Q (.d z) os) : BW K r x y os Q :=
  fun as H v u Q' R rx ry k => h as H v u Q' R rx ry (fun p o hp rw => k (.ref p) (upd H p o) (.d z) os (Go.new hp) (R.new hp) rw q) fun w rw => k w H (.d z) os (Go.refl _ _) R rw q
/-- ints -/
theorem bw_i0 {g : Int → Int → Int} {i j : Int} (q : Q (.d (.int (g i j))) os) : BW K (rI0 fun i j => .int (g i j)) (.d (.int i)) (.d (.int j)) os Q :=
  bw_pure (fun as H v u Q' R rx ry k => by
    cases rx
    cases ry
    exact ⟨i, j, rfl, rfl, k _ (.int _)⟩) q
theorem bw_ib {g : Int → Int → Bool} {i j : Int} (q : Q (.d (.bl (g i j))) os) : BW K (rI0 fun i j => .bl (g i j)) (.d (.int i)) (.d (.int j)) os Q :=
  bw_pure (fun as H v u Q' R rx ry k => by
    cases rx
    cases ry
    exact ⟨i, j, rfl, rfl, k _ (.bl _)⟩) q
theorem bw_i {C : Int → Int → Prop} {g : Int → Int → Int} {i j : Int} (c : C i j) (q : Q (.d (.int (g i j))) os) : BW K (rI C fun i j => .int (g i j)) (.d (.int i)) (.d (.int j)) os Q :=
  bw_pure (fun as H v u Q' R rx ry k => by
    cases rx
    cases ry
    exact ⟨i, j, rfl, rfl, c, k _ (.int _)⟩) q
/-- texts -/
def rCatS : R2 := fun x y H Q => ∃ i j, x = .str i ∧ y = .str j ∧ i.length + j.length ≤ sizeLine ∧ Q (.str (i ++ j)) H
theorem bw_catS {i j : Str} (c : i.length + j.length ≤ sizeLine) (q : Q (.d (.str (i ++ j))) os) : BW K rCatS (.d (.str i)) (.d (.str j)) os Q :=
  bw_pure (fun as H v u Q' R rx ry k => by
    cases rx
    cases ry
    exact ⟨i, j, rfl, rfl, c, k _ (.str _)⟩) q
theorem bw_inS {c : Nat} {z : Str} (q : Q (.d (.bl (decide (c ∈ z.cps.toList)))) os) : BW K rInS (.d (.str ⟨#[c]⟩)) (.d (.str z)) os Q :=
  bw_pure (fun as H v u Q' R rx ry k => by
    cases rx
    cases ry
    exact ⟨c, z, rfl, rfl, k _ (.bl _)⟩) q
theorem bw_notInS {c : Nat} {z : Str} (q : Q (.d (.bl (!decide (c ∈ z.cps.toList)))) os) : BW K rNotInS (.d (.str ⟨#[c]⟩)) (.d (.str z)) os Q :=
  bw_pure (fun as H v u Q' R rx ry k => by
    cases rx
    cases ry
    exact ⟨c, z, rfl, rfl, k _ (.bl _)⟩) q
theorem bw_eqS {i j : Str} (q : Q (.d (.bl (decide (i = j)))) os) : BW K rEq (.d (.str i)) (.d (.str j)) os Q :=
  bw_pure (fun as H v u Q' R rx ry k => by
    cases rx
    cases ry
    have e : decide (V.str i = V.str j) = decide (i = j) := by simp
    exact ⟨rfl, by rw [e]; exact k _ (.bl _)⟩) q
theorem bw_neS {i j : Str} (q : Q (.d (.bl (!decide (i = j)))) os) : BW K rNe (.d (.str i)) (.d (.str j)) os Q :=
  bw_pure (fun as H v u Q' R rx ry k => by
    cases rx
    cases ry
    have e : decide (V.str i = V.str j) = decide (i = j) := by simp
    exact ⟨rfl, by rw [e]; exact k _ (.bl _)⟩) q
theorem bw_eqI {i j : Int} (q : Q (.d (.bl (decide (i = j)))) os) : BW K rEq (.d (.int i)) (.d (.int j)) os Q :=
  bw_pure (fun as H v u Q' R rx ry k => by
    cases rx
    cases ry
    have e : decide (V.int i = V.int j) = decide (i = j) := by simp
    exact ⟨rfl, by rw [e]; exact k _ (.bl _)⟩) q
theorem bw_neI {i j : Int} (q : Q (.d (.bl (!decide (i = j)))) os) : BW K rNe (.d (.int i)) (.d (.int j)) os Q :=
  bw_pure (fun as H v u Q' R rx ry k => by
    cases rx
    cases ry
    have e : decide (V.int i = V.int j) = decide (i = j) := by simp
    exact ⟨rfl, by rw [e]; exact k _ (.bl _)⟩) q
/-- data at any depth -/
theorem bw_eqD {x y : D} {p r : PyData} (hx : x.py = some p) (hy : y.py = some r) (sp : SeqAt.shaped p = true) (sr : SeqAt.shaped r = true) (q : Q (.d (.bl (PyData.eqv p r))) os) : BW K (rEqD K) (.d x) (.d y) os Q :=
  bw_pure (fun as H v u Q' R rx ry k => ⟨p, r, Dx.dp rx hx, Dx.dp ry hy, sp, sr, k _ (.bl _)⟩) q
theorem bw_neD {x y : D} {p r : PyData} (hx : x.py = some p) (hy : y.py = some r) (sp : SeqAt.shaped p = true) (sr : SeqAt.shaped r = true) (q : Q (.d (.bl (!PyData.eqv p r))) os) : BW K (rNeD K) (.d x) (.d y) os Q :=
  bw_pure (fun as H v u Q' R rx ry k => ⟨p, r, Dx.dp rx hx, Dx.dp ry hy, sp, sr, k _ (.bl _)⟩) q
/-- an item -/
theorem DxA.atI {as : List Addr} {H : Hp} {vs : List V} {ds : List D} {i : Int} {z : D} (r : DxA K as H vs ds) (h : L2.atI ds i = some z) : ∃ u, L2.atI vs i = some u ∧ Dx K as H u z := by
  unfold L2.atI at h ⊢
  rw [r.length]
  cases e : ixN ds.length i with
  | none => rw [e] at h; cases h
  | some j =>
    rw [e] at h
    exact r.get h
theorem bw_ixL {xs : List D} {i : Int} {z : D} (h : L2.atI xs i = some z) (q : Q (.d z) os) : BW K (rIxL K) (.d (.lst xs)) (.d (.int i)) os Q :=
  bw_pure (fun as H v u Q' R rx ry k => by
    cases rx with
    | lst hl hr =>
      cases ry
      obtain ⟨u, e, r⟩ := hr.atI h
      exact ⟨_, _, i, u, rfl, rfl, hl.sq, e, k _ r⟩) q
theorem bw_ixT {xs : List D} {i : Int} {z : D} (h : L2.atI xs i = some z) (q : Q (.d z) os) : BW K (rIxT K) (.d (.tup xs)) (.d (.int i)) os Q :=
  bw_pure (fun as H v u Q' R rx ry k => by
    cases rx with
    | tup hl hr =>
      cases ry
      obtain ⟨u, e, r⟩ := hr.atI h
      exact ⟨_, _, i, u, rfl, rfl, hl.sq, e, k _ r⟩) q
theorem bw_ixS {s : Str} {i : Int} {c : Nat} (hz : s.length ≤ sizeLine) (h : L2.atI s.cps.toList i = some c) (q : Q (.d (.str ⟨#[c]⟩)) os) : BW K rIxS (.d (.str s)) (.d (.int i)) os Q :=
  bw_pure (fun as H v u Q' R rx ry k => by
    cases rx
    cases ry
    exact ⟨s, i, c, rfl, rfl, hz, h, k _ (.str _)⟩) q
/-- lengths -/
def rLen (K : PySem.W.Frag) : List V → Hp → VK → Prop := fun xs H Q => ∃ p ys, xs = [.ref p] ∧ (SqL K H p ys ∨ SqT K H p ys) ∧ Q (.int ys.length) H
def rLenT : List V → Hp → VK → Prop := fun xs H Q => ∃ z, xs = [.str z] ∧ z.length ≤ sizeLine ∧ Q (.int z.length) H
theorem cw_lenL {xs : List D} (q : Q (.d (.int (xs.length : Int))) os) : CW K (rLen K) [.d (.lst xs)] os Q :=
  cw_pure (fun as H vs Q' R r k => by
    cases r with
    | cons h t =>
      cases t
      cases h with
      | lst hl hr =>
        refine ⟨_, _, rfl, .inl hl.sq, ?_⟩
        rw [hr.length]
        exact k _ (.int _)) q
theorem cw_lenU {xs : List D} (q : Q (.d (.int (xs.length : Int))) os) : CW K (rLen K) [.d (.tup xs)] os Q :=
  cw_pure (fun as H vs Q' R r k => by
    cases r with
    | cons h t =>
      cases t
      cases h with
      | tup hl hr =>
        refine ⟨_, _, rfl, .inr hl.sq, ?_⟩
        rw [hr.length]
        exact k _ (.int _)) q
theorem cw_lenS {z : Str} (hz : z.length ≤ sizeLine) (q : Q (.d (.int (z.length : Int))) os) : CW K rLenT [.d (.str z)] os Q :=
  cw_pure (fun as H vs Q' R r k => by
    cases r with
    | cons h t =>
      cases t
      cases h
      exact ⟨z, rfl, hz, k _ (.int _)⟩) q
/-- tuple(a list), list(..) -/
def rTupOf (K : PySem.W.Frag) : List V → Hp → VK → Prop := fun xs H Q => ∃ p ys, xs = [.ref p] ∧ ((SqL K H p ys ∧ ∀ l, H l = none → Q (.ref l) (upd H l (.tup ys))) ∨ (SqT K H p ys ∧ Q (.ref p) H))
theorem dx_newT {as : List Addr} {H : Hp} {p : Addr} {vs : List V} {ds : List D} (R : Ro K as H os) (hp : H p = none) (r : DxA K as H vs ds) : Dx K as (upd H p (.tup vs)) (.ref p) (.tup ds) :=
  .tup (.inl ⟨R.notin hp, .inl upd_same⟩) (r.way (Way.of_go (Go.new hp)))
theorem dx_newL {as : List Addr} {H : Hp} {p : Addr} {vs : List V} {ds : List D} (R : Ro K as H os) (hp : H p = none) (r : DxA K as H vs ds) : Dx K as (upd H p (.lst vs)) (.ref p) (.lst ds) :=
  .lst (.inl ⟨R.notin hp, .inl upd_same⟩) (r.way (Way.of_go (Go.new hp)))
theorem cw_tupL {xs : List D} (q : Q (.d (.tup xs)) os) : CW K (rTupOf K) [.d (.lst xs)] os Q :=
  cw_new (fun as H vs Q' R r k1 k2 => by
    cases r with
    | cons h t =>
      cases t
      cases h with
      | lst hl hr => exact ⟨_, _, rfl, .inl ⟨hl.sq, fun l hl => k1 l _ hl (dx_newT R hl hr)⟩⟩) q
theorem cw_tupU {xs : List D} (q : Q (.d (.tup xs)) os) : CW K (rTupOf K) [.d (.tup xs)] os Q :=
  cw_new (fun as H vs Q' R r k1 k2 => by
    cases r with
    | cons h t =>
      cases t
      cases h with
      | tup hl hr => exact ⟨_, _, rfl, .inr ⟨hl.sq, k2 _ (.tup hl hr)⟩⟩) q
def rListOf (K : PySem.W.Frag) : List V → Hp → VK → Prop := fun xs H Q => ∃ p ys, xs = [.ref p] ∧ (SqL K H p ys ∨ SqT K H p ys) ∧ ∀ l, H l = none → Q (.ref l) (upd H l (.lst ys))
theorem cw_lstL {xs : List D} (q : Q (.d (.lst xs)) os) : CW K (rListOf K) [.d (.lst xs)] os Q :=
  cw_new (fun as H vs Q' R r k1 k2 => by
    cases r with
    | cons h t =>
      cases t
      cases h with
      | lst hl hr => exact ⟨_, _, rfl, .inl hl.sq, fun l hl => k1 l _ hl (dx_newL R hl hr)⟩) q
theorem cw_lstU {xs : List D} (q : Q (.d (.lst xs)) os) : CW K (rListOf K) [.d (.tup xs)] os Q :=
  cw_new (fun as H vs Q' R r k1 k2 => by
    cases r with
    | cons h t =>
      cases t
      cases h with
      | tup hl hr => exact ⟨_, _, rfl, .inr hl.sq, fun l hl => k1 l _ hl (dx_newL R hl hr)⟩) q
/-- abs, min, max, int -/
def rAbs : List V → Hp → VK → Prop := fun xs H Q => ∃ i, xs = [.int i] ∧ Q (.int (if i < 0 then -i else i)) H
theorem cw_abs {i : Int} (q : Q (.d (.int (if i < 0 then -i else i))) os) : CW K rAbs [.d (.int i)] os Q :=
  cw_pure (fun as H vs Q' R r k => by
    cases r with
    | cons h t =>
      cases t
      cases h
      exact ⟨i, rfl, k _ (.int _)⟩) q
def rMin2 : List V → Hp → VK → Prop := fun xs H Q => ∃ i j, xs = [.int i, .int j] ∧ Q (.int (if j < i then j else i)) H
theorem cw_min2 {i j : Int} (q : Q (.d (.int (if j < i then j else i))) os) : CW K rMin2 [.d (.int i), .d (.int j)] os Q :=
  cw_pure (fun as H vs Q' R r k => by
    cases r with
    | cons h t =>
      cases t with
      | cons h2 t =>
        cases t
        cases h
        cases h2
        exact ⟨i, j, rfl, k _ (.int _)⟩) q
def rInt1 : List V → Hp → VK → Prop := fun xs H Q => (∃ i, xs = [.int i] ∧ Q (.int i) H) ∨ ∃ k, xs = [.bl k] ∧ Q (.int (if k then 1 else 0)) H
theorem cw_intI {i : Int} (q : Q (.d (.int i)) os) : CW K rInt1 [.d (.int i)] os Q :=
  cw_pure (fun as H vs Q' R r k => by
    cases r with
    | cons h t =>
      cases t
      cases h
      exact .inl ⟨i, rfl, k _ (.int _)⟩) q
theorem cw_intB {b : Bool} (q : Q (.d (.int (if b then 1 else 0))) os) : CW K rInt1 [.d (.bl b)] os Q :=
  cw_pure (fun as H vs Q' R r k => by
    cases r with
    | cons h t =>
      cases t
      cases h
      exact .inr ⟨b, rfl, k _ (.int _)⟩) q
end
section
variable {X : Cx}
theorem op_addS : OpR X (binaryOp .Add) rCatS := op_add_str
theorem call_lenA : CallR X (.builtin "len") (rLen X.K) := call_len_seq
theorem call_lenS1 : CallR X (.builtin "len") rLenT := call_len_str
theorem call_tupA : CallR X (.type "tuple") (rTupOf X.K) := call_tuple_of
theorem call_lstA : CallR X (.type "list") (rListOf X.K) := call_list_of
theorem call_absA (hc : X.calm = true) : CallR X (.builtin "abs") rAbs := by first | exact call_abs | exact call_abs hc
theorem call_min2A (hc : X.calm = true) : CallR X (.builtin "min") rMin2 := call_min2 hc
theorem call_intA : CallR X (.type "int") rInt1 := call_int1
end

/-! ### displays, slices -/
section
variable {K : PySem.W.Frag} {X : Xc} {S : Sa} {Q : Sv → Os → Prop} {ta : TA} {te : TE} {tl th : TO}
inductive AllD : List Sv → List D → Prop
  | nil : AllD [] []
  | cons {x : D} {xs : List Sv} {ds : List D} : AllD xs ds → AllD (.d x :: xs) (x :: ds)
theorem AllD.dx {as : List Addr} {H : Hp} : ∀ {vs : List V} {xs : List Sv} {ds : List D}, AllD xs ds → SvA K as H vs xs → DxA K as H vs ds
  | _, _, _, .nil, .nil => .nil
  | _, _, _, .cons a, .cons h r => .cons h (AllD.dx a r)
theorem ew_lst (h : AW K X ta S fun xs os => ∃ ds, AllD xs ds ∧ ds.length ≤ sizeLine ∧ Q (.d (.lst ds)) os) : EW K X (tLst ta) S Q := fun as H σ Q' R x k =>
  h as H σ _ R x fun vs H1 xs os1 g1 R1 r1 ⟨ds, a, hl, q⟩ => ⟨by rw [(a.dx r1).length]; exact hl, fun p hp => k (.ref p) _ (.d (.lst ds)) os1 (g1.trans (Go.new hp)) (R1.new hp) (dx_newL R1 hp (a.dx r1)) q⟩
theorem ew_tup (h : AW K X ta S fun xs os => ∃ ds, AllD xs ds ∧ ds.length ≤ sizeLine ∧ Q (.d (.tup ds)) os) : EW K X (tTup ta) S Q := fun as H σ Q' R x k =>
  h as H σ _ R x fun vs H1 xs os1 g1 R1 r1 ⟨ds, a, hl, q⟩ => ⟨by rw [(a.dx r1).length]; exact hl, fun p hp => k (.ref p) _ (.d (.tup ds)) os1 (g1.trans (Go.new hp)) (R1.new hp) (dx_newT R1 hp (a.dx r1)) q⟩
theorem ow_none {Q : Option Int → Os → Prop} (q : Q none S.os) : OW K X tNoPart S Q := fun as H σ Q' R x k => k none H S.os (Go.refl _ _) R.o q
theorem ow_some {Q : Option Int → Os → Prop} (h : EW K X te S fun x os => ∃ i, x = .d (.int i) ∧ Q (some i) os) : OW K X (tPart te) S Q := fun as H σ Q' R x k =>
  h as H σ _ R x fun v H1 d os1 g1 R1 r1 ⟨i, e, q⟩ => by
    subst e
    cases r1
    exact ⟨i, rfl, k (some i) H1 os1 g1 R1 q⟩
def SW (K : PySem.W.Frag) (r : V → Option Int → Option Int → Hp → VK → Prop) (x : Sv) (lo hi : Option Int) (os : Os) (Q : Sv → Os → Prop) : Prop :=
  ∀ as H v (Q' : VK), Ro K as H os → SvR K as H v x → (∀ z H' d os', Go as H H' → Ro K as H' os' → SvR K as H' z d → Q d os' → Q' z H') → r v lo hi H Q'
theorem ew_sl {r : V → Option Int → Option Int → Hp → VK → Prop} (h : EW K X te S fun x os1 => OW K X tl ⟨S.s, os1⟩ fun lo os2 => OW K X th ⟨S.s, os2⟩ fun hi os3 => SW K r x lo hi os3 Q) : EW K X (tSl r te tl th) S Q := fun as H σ Q' R x k =>
  h as H σ _ R x fun v H1 d os1 g1 R1 r1 q1 => q1 as H1 σ _ (R.go g1 R1) (x.go g1 R1) fun lo H2 os2 g2 R2 q2 => q2 as H2 σ _ (R.go (g1.trans g2) R2) (x.go (g1.trans g2) R2) fun hi H3 os3 g3 R3 q3 =>
    q3 as H3 v Q' R3 (r1.go (g2.trans g3)) fun z H4 e os4 g4 R4 r4 q4 => k z H4 e os4 (((g1.trans g2).trans g3).trans g4) R4 r4 q4
theorem sw_S {z : Str} {lo hi : Option Int} {os : Os} (hz : z.length ≤ sizeLine) (q : Q (.d (.str (cutS z lo hi))) os) : SW K rSlS (.d (.str z)) lo hi os Q := fun as H v Q' R r k => by
  cases r
  exact ⟨z, rfl, hz, k _ H (.d (.str _)) os (Go.refl _ _) R (Dx.str _) q⟩
def cutD (xs : List D) (lo hi : Option Int) : List D := (xs.drop (HT.sIx xs.length 0 lo)).take (HT.sIx xs.length xs.length hi - HT.sIx xs.length 0 lo)
theorem cut_dx {as : List Addr} {H : Hp} {vs : List V} {ds : List D} (r : DxA K as H vs ds) (lo hi : Option Int) : DxA K as H (cutV vs lo hi) (cutD ds lo hi) := by
  unfold cutV cutD
  rw [r.length]
  exact (r.drop _).take _
theorem sw_L {xs : List D} {lo hi : Option Int} {os : Os} (q : Q (.d (.lst (cutD xs lo hi))) os) : SW K (rSlL K) (.d (.lst xs)) lo hi os Q := fun as H v Q' R r k => by
  cases r with
  | lst hl hr => exact ⟨_, _, rfl, hl.sq, fun p hp => k _ _ (.d (.lst _)) os (Go.new hp) (R.new hp) (dx_newL R hp (cut_dx hr lo hi)) q⟩
end
end Br

/-! BrC: what is walked, targets, loops, comprehensions, the store's dicts and lists. -/
namespace Br
open PySem L2

/-! ### what is walked -/
/-- J walks over ds, whatever comes later -/
def ItD (K : PySem.W.Frag) (J : It) (as : List Addr) (H : Hp) (ds : List D) : Prop :=
  ∀ bs H2 os, Stp as H bs H2 → Ro K bs H2 os → ∀ i, (∀ d, ds[i]? = some d → J.go i H2 ∧ ∀ x H3, J.yld i H2 x H3 → Go bs H2 H3 ∧ Ro K bs H3 os ∧ Dx K bs H3 x d) ∧ (ds.length ≤ i → J.stop i H2)
def IW (K : PySem.W.Frag) (X : Xc) (wi : TI) (S : Sa) (Q : List D → Os → Prop) : Prop :=
  ∀ as H σ (R' : It → Hp → Prop), Re K as H σ S → XH K X as H σ S.s → (∀ J H' ds os', Go as H H' → Ro K as H' os' → ItD K J as H' ds → Q ds os' → R' J H') → wi σ H R'
section
variable {K : PySem.W.Frag} {X : Xc} {S : Sa} {tl : TE} {ta : TA} {Q : List D → Os → Prop}
theorem iw_list (h : EW K X tl S fun x os => ∃ ds, x = .d (.lst ds) ∧ Q ds os) : IW K X (iList K tl) S Q := fun as H σ R' R x k =>
  h as H σ _ R x fun v H1 d os1 g1 R1 r1 ⟨ds, e, q⟩ => by
    subst e
    cases r1 with
    | @lst a xs _ hl hr =>
      refine ⟨a, rfl, ⟨xs, hl.sq⟩, k (Itl K a) H1 ds os1 g1 R1 (fun bs H2 os s R2 i => ?_) q⟩
      have hl2 := s.way.l _ _ hl
      have hr2 := hr.way s.way
      refine ⟨fun d hd => ?_, fun hn => ⟨xs, hl2.sq, by rw [hr.length]; exact hn⟩⟩
      obtain ⟨u, e1, e2⟩ := hr2.get hd
      refine ⟨⟨xs, u, hl2.sq, e1⟩, fun y H3 hy => ?_⟩
      obtain ⟨rfl, hy⟩ := hy
      have z := hy xs hl2.sq
      rw [e1] at z
      cases z
      exact ⟨Go.refl _ _, R2, e2⟩
theorem iw_tup (h : EW K X tl S fun x os => ∃ ds, x = .d (.tup ds) ∧ Q ds os) : IW K X (iTup K tl) S Q := fun as H σ R' R x k =>
  h as H σ _ R x fun v H1 d os1 g1 R1 r1 ⟨ds, e, q⟩ => by
    subst e
    cases r1 with
    | @tup a xs _ hl hr =>
      refine ⟨a, rfl, ⟨xs, hl.sq⟩, k (Itt K a) H1 ds os1 g1 R1 (fun bs H2 os s R2 i => ?_) q⟩
      have hl2 := s.way.t _ _ hl
      have hr2 := hr.way s.way
      refine ⟨fun d hd => ?_, fun hn => ⟨xs, hl2.sq, by rw [hr.length]; exact hn⟩⟩
      obtain ⟨u, e1, e2⟩ := hr2.get hd
      refine ⟨⟨xs, u, hl2.sq, e1⟩, fun y H3 hy => ?_⟩
      obtain ⟨rfl, hy⟩ := hy
      have z := hy xs hl2.sq
      rw [e1] at z
      cases z
      exact ⟨Go.refl _ _, R2, e2⟩
/-- lo, lo + c, .. -/
def rngD (lo c : Int) (n : Nat) : List D := (List.range n).map fun i => D.int (lo + (i : Nat) * c)
theorem rngD_get {lo c : Int} {n i : Nat} {d : D} (h : (rngD lo c n)[i]? = some d) : i < n ∧ d = .int (lo + (i : Nat) * c) := by
  unfold rngD at h
  rw [List.getElem?_map] at h
  obtain ⟨j, h1, h2⟩ := Option.map_eq_some_iff.mp h
  obtain ⟨h3, h4⟩ := List.getElem?_eq_some_iff.mp h1
  rw [List.getElem_range] at h4
  rw [List.length_range] at h3
  subst h4
  exact ⟨h3, h2.symm⟩
theorem rngD_len {lo c : Int} {n : Nat} : (rngD lo c n).length = n := by unfold rngD; simp
theorem iw_rng1 (h : AW K X ta S fun xs os => ∃ j : Int, xs = [.d (.int j)] ∧ -(2 ^ 62) ≤ j ∧ j < 2 ^ 62 ∧ Q (rngD 0 1 j.toNat) os) : IW K X (iRng1 ta) S Q := fun as H σ R' R x k =>
  h as H σ _ R x fun vs H1 ds os1 g1 R1 r1 ⟨j, e, h1, h2, q⟩ => by
    subst e
    cases r1 with
    | cons r1 rn =>
      cases rn
      cases r1
      refine ⟨j, rfl, h1, h2, k _ H1 _ os1 g1 R1 (fun bs H2 os s R2 i => ⟨fun d hd => ?_, fun hn => ?_⟩) q⟩
      · obtain ⟨hi, rfl⟩ := rngD_get hd
        refine ⟨hi, fun y H3 hy => ?_⟩
        obtain ⟨rfl, rfl⟩ := hy
        refine ⟨Go.refl _ _, R2, ?_⟩
        rw [Int.mul_one]
        exact .int _
      · rw [rngD_len] at hn
        exact hn
theorem iw_rng2 (h : AW K X ta S fun xs os => ∃ i j : Int, xs = [.d (.int i), .d (.int j)] ∧ (-(2 ^ 62) ≤ i ∧ i < 2 ^ 62 ∧ -(2 ^ 62) ≤ j ∧ j < 2 ^ 62) ∧ Q (rngD i 1 (j - i).toNat) os) : IW K X (iRng2 ta) S Q := fun as H σ R' R x k =>
  h as H σ _ R x fun vs H1 ds os1 g1 R1 r1 ⟨i0, j, e, h1, q⟩ => by
    subst e
    cases r1 with
    | cons r1 rn =>
      cases rn with
      | cons r2 rn =>
        cases rn
        cases r1
        cases r2
        refine ⟨i0, j, rfl, h1, k _ H1 _ os1 g1 R1 (fun bs H2 os s R2 i => ⟨fun d hd => ?_, fun hn => ?_⟩) q⟩
        · obtain ⟨hi, rfl⟩ := rngD_get hd
          refine ⟨hi, fun y H3 hy => ?_⟩
          obtain ⟨rfl, rfl⟩ := hy
          refine ⟨Go.refl _ _, R2, ?_⟩
          rw [Int.mul_one]
          exact .int _
        · rw [rngD_len] at hn
          exact hn
theorem iw_rng3 (h : AW K X ta S fun xs os => ∃ (i j c : Int) (n : Nat), xs = [.d (.int i), .d (.int j), .d (.int c)] ∧ RgC i j c n ∧ Q (rngD i c n) os) : IW K X (iRng3 ta) S Q := fun as H σ R' R x k =>
  h as H σ _ R x fun vs H1 ds os1 g1 R1 r1 ⟨i0, j, c, n, e, h1, q⟩ => by
    subst e
    cases r1 with
    | cons r1 rn =>
      cases rn with
      | cons r2 rn =>
        cases rn with
        | cons r3 rn =>
          cases rn
          cases r1
          cases r2
          cases r3
          refine ⟨i0, j, c, n, rfl, h1, k _ H1 _ os1 g1 R1 (fun bs H2 os s R2 i => ⟨fun d hd => ?_, fun hn => ?_⟩) q⟩
          · obtain ⟨hi, rfl⟩ := rngD_get hd
            refine ⟨hi, fun y H3 hy => ?_⟩
            obtain ⟨rfl, rfl⟩ := hy
            exact ⟨Go.refl _ _, R2, .int _⟩
          · rw [rngD_len] at hn
            exact hn
theorem iw_str (h : EW K X tl S fun x os => ∃ z : Str, x = .d (.str z) ∧ Q (z.cps.toList.map fun c => D.str ⟨#[c]⟩) os) : IW K X (iStr tl) S Q := fun as H σ R' R x k =>
  h as H σ _ R x fun v H1 d os1 g1 R1 r1 ⟨z, e, q⟩ => by
    subst e
    cases r1
    refine ⟨z, rfl, k (Its z) H1 _ os1 g1 R1 (fun bs H2 os s R2 i => ⟨fun d hd => ?_, fun hn => ?_⟩) q⟩
    · rw [List.getElem?_map] at hd
      obtain ⟨c, h1, h2⟩ := Option.map_eq_some_iff.mp hd
      have h1' : z.cps[i]? = some c := by rw [← Array.getElem?_toList]; exact h1
      have hi : i < z.cps.size := (Array.getElem?_eq_some_iff.mp h1').1
      refine ⟨hi, fun y H3 hy => ?_⟩
      obtain ⟨rfl, c', e1, rfl⟩ := hy
      rw [h1'] at e1
      cases e1
      subst h2
      exact ⟨Go.refl _ _, R2, .str _⟩
    · rw [List.length_map, Array.length_toList] at hn
      exact hn
end

/-! ### targets -/
def GW (K : PySem.W.Frag) (g : TG) (d : Sv) (S : Sa) (Q : Sa → Prop) : Prop :=
  ∀ as H σ v (Q' : St → Hp → Prop), Re K as H σ S → SvR K as H v d → (∀ σ' S', Re K as H σ' S' → Q S' → Q' σ' H) → g v σ H Q'
def GsW (K : PySem.W.Frag) (g : TGs) (ds : List D) (S : Sa) (Q : Sa → Prop) : Prop :=
  ∀ as H σ vs (Q' : St → Hp → Prop), Re K as H σ S → DxA K as H vs ds → (∀ σ' S', Re K as H σ' S' → Q S' → Q' σ' H) → g vs σ H Q'
section
variable {K : PySem.W.Frag} {X : Xc} {S : Sa} {Q : Sa → Prop} {g : TG} {gs : TGs}
theorem gw_name {j : Nat} {d : Sv} (q : Q ⟨S.s.set j (some d), S.os⟩) : GW K (gName j) d S Q := fun as H σ v Q' R r k => k _ _ (R.set j r) q
theorem gw_tup {n : Nat} {xs : List D} (hn : xs.length = n) (h : GsW K gs xs S Q) : GW K (gTup K n gs) (.d (.tup xs)) S Q := fun as H σ v Q' R r k => by
  cases r with
  | tup hl hr => exact ⟨_, _, rfl, hl.sq, by rw [hr.length]; exact hn, h as H σ _ Q' R hr k⟩
theorem gs_nil (q : Q S) : GsW K gNil [] S Q := fun as H σ vs Q' R r k => by
  cases r
  exact ⟨rfl, k σ S R q⟩
theorem gs_cons {d : D} {ds : List D} (h : GW K g (.d d) S fun S' => GsW K gs ds S' Q) : GsW K (gCons g gs) (d :: ds) S Q := fun as H σ vs Q' R r k => by
  cases r with
  | cons r1 r2 => exact ⟨_, _, rfl, h as H σ _ _ R r1 fun σ' S' R' q => q as H σ' _ Q' R' r2 k⟩
/-- x, y = e -/
theorem w_asgG {te : TE} {E : Ea} (h : EW K X te S fun d os => GW K g d ⟨S.s, os⟩ E.nx) : W K X (tAsg te g) E S := fun as H σ D R x n r b c =>
  h as H σ _ R (x.h R) fun v H1 d os1 g1 R1 r1 q1 => q1 as H1 σ v _ (R.go g1 R1) r1 fun σ' S' R' q => n as H1 σ' S' (Stp.of_go g1 R1) R' q
theorem w_par {i j : Nat} {ta : TA} {E : Ea} (h : AW K X ta S fun ds os => ∃ x y, ds = [x, y] ∧ E.nx ⟨(S.s.set i (some x)).set j (some y), os⟩) : W K X (tPar i j ta) E S := fun as H σ D R x n r b c =>
  h as H σ _ R (x.h R) fun vs H1 ds os1 g1 R1 r1 ⟨y, z, e, q⟩ => by
    subst e
    cases r1 with
    | cons r1 rn =>
      cases rn with
      | cons r2 rn =>
        cases rn
        exact ⟨_, _, rfl, n as H1 _ _ (Stp.of_go g1 R1) (((R.go g1 R1).set i r1).set j r2) q⟩
end

/-! ### for -/
section
variable {K : PySem.W.Frag} {X : Xc} {S : Sa} {E : Ea} {wi : TI} {g : TG} {tb : TS}
theorem w_for (h : IW K X wi S fun ds os => ∃ Pv : Nat → Sa → Prop, Pv 0 ⟨S.s, os⟩ ∧
      (∀ i d S', ds[i]? = some d → Pv i S' → GW K g (.d d) S' (W K X tb { nx := Pv (i + 1), ct := Pv (i + 1), bk := E.nx, rt := E.rt })) ∧ ∀ S', Pv ds.length S' → E.nx S') : W K X (tFor wi g tb) E S := fun as H σ D R x n r b c =>
  h as H σ _ R (x.h R) fun J H1 ds os1 g1 R1 it ⟨Pv, p0, turn, fin⟩ => by
    have s1 : Stp as H as H1 := Stp.of_go g1 R1
    refine ⟨fun i m σ H2 => m = ds.length - i ∧ i ≤ ds.length ∧ ∃ bs S', Stp as H1 bs H2 ∧ Re K bs H2 σ S' ∧ Pv i S', ⟨_, rfl, Nat.zero_le _, as, _, Stp.refl, R.go g1 R1, p0⟩, ?_⟩
    rintro i m σ2 H2 ⟨rfl, hi, bs, S2, s2, R2, p⟩
    by_cases hlt : i < ds.length
    · have hd : ds[i]? = some ds[i] := List.getElem?_eq_getElem hlt
      obtain ⟨hgo, hy⟩ := (it bs H2 S2.os s2 R2.o i).1 _ hd
      refine .inr ⟨hgo, fun σ' H' => ∃ cs S', Stp as H1 cs H' ∧ Re K cs H' σ' S' ∧ Pv (i + 1) S', fun σ' H' z => ⟨ds.length - (i + 1), by omega, rfl, hlt, z⟩, fun y H3 hyl => ?_⟩
      obtain ⟨g3, R3, r3⟩ := hy y H3 hyl
      have s3 : Stp bs H2 bs H3 := Stp.of_go g3 R3
      refine turn i _ S2 hd p bs H3 σ2 y _ (R2.go g3 R3) r3 fun σ4 S4 R4 w => ?_
      refine w bs H3 σ4 _ R4 ((x.stp s1).stp (s2.trans s3)) (fun cs H5 σ5 S5 s5 R5 q5 => ⟨cs, S5, (s2.trans s3).trans s5, R5, q5⟩) (fun cs H5 v d os5 s5 R5 r5 q5 => r cs H5 v d os5 (((s1.trans s2).trans s3).trans s5) R5 r5 q5)
        (fun cs H5 σ5 S5 s5 R5 q5 => n cs H5 σ5 S5 (((s1.trans s2).trans s3).trans s5) R5 q5) (fun cs H5 σ5 S5 s5 R5 q5 => ⟨cs, S5, (s2.trans s3).trans s5, R5, q5⟩)
    · have e : i = ds.length := by omega
      subst e
      exact .inl ⟨(it bs H2 S2.os s2 R2.o _).2 (Nat.le_refl _), n bs H2 σ2 S2 (s1.trans s2) R2 (fin S2 p)⟩
/-- while, by a word that falls -/
theorem w_while {tc : TT} (Pv : Nat → Sa → Prop) (m0 : Nat) (p0 : Pv m0 S)
    (turn : ∀ m S', Pv m S' → TW K X tc S' fun b os => if b = true then W K X tb { nx := fun S2 => ∃ m', m' < m ∧ Pv m' S2, ct := fun S2 => ∃ m', m' < m ∧ Pv m' S2, bk := E.nx, rt := E.rt } ⟨S'.s, os⟩ else E.nx ⟨S'.s, os⟩) : W K X (tWhile tc tb) E S := fun as H σ D R x n r b c => by
  refine ⟨fun m σ H2 => ∃ bs S', Stp as H bs H2 ∧ Re K bs H2 σ S' ∧ Pv m S', ⟨m0, as, S, Stp.refl, R, p0⟩, ?_⟩
  rintro m σ2 H2 ⟨bs, S2, s2, R2, p⟩
  refine turn m S2 p bs H2 σ2 _ R2 ((x.stp s2).h R2) fun y H3 os3 g3 R3 q => ?_
  have s3 : Stp bs H2 bs H3 := Stp.of_go g3 R3
  cases y with
  | false =>
    show D.nx σ2 H3
    exact n bs H3 σ2 _ (s2.trans s3) (R2.go g3 R3) q
  | true =>
    show ∃ N : St → Hp → Prop, _
    refine ⟨fun σ' H' => ∃ m', m' < m ∧ ∃ cs S', Stp as H cs H' ∧ Re K cs H' σ' S' ∧ Pv m' S', fun σ' H' ⟨m', l, z⟩ => ⟨m', l, z⟩, ?_⟩
    refine (show W K X tb _ _ from q) bs H3 σ2 _ (R2.go g3 R3) (x.stp (s2.trans s3)) (fun cs H5 σ5 S5 s5 R5 ⟨m', l, q5⟩ => ⟨m', l, cs, S5, (s2.trans s3).trans s5, R5, q5⟩) (fun cs H5 v d os5 s5 R5 r5 q5 => r cs H5 v d os5 ((s2.trans s3).trans s5) R5 r5 q5)
      (fun cs H5 σ5 S5 s5 R5 q5 => n cs H5 σ5 S5 ((s2.trans s3).trans s5) R5 q5) (fun cs H5 σ5 S5 s5 R5 ⟨m', l, q5⟩ => ⟨m', l, cs, S5, (s2.trans s3).trans s5, R5, q5⟩)
end

/-! ### comprehensions -/
def wipeS (s : Sl) : List Nat → Sl
  | [] => s
  | v :: vs => (wipeS s vs).set v none
section
variable {K : PySem.W.Frag} {X : Xc} {S : Sa} {Q : Sv → Os → Prop} {wi : TI} {g : TG} {tt : TT} {te : TE}
theorem wipe_in {σ : St} {i : Nat} : ∀ {vs : List Nat}, i ∈ vs → (wipe σ vs)[i]? = if i < σ.length then some none else none
  | [], h => nomatch h
  | v :: vs, h => by
    show ((wipe σ vs).set v none)[i]? = _
    by_cases hv : v = i
    · subst hv
      rw [List.getElem?_set, wipe_length]
      simp
    · rw [List.getElem?_set_ne hv]
      rcases List.mem_cons.mp h with e | h
      · exact absurd e.symm hv
      · exact wipe_in h
theorem wipe_out1 {σ : St} {i : Nat} : ∀ {vs : List Nat}, i ∉ vs → (wipe σ vs)[i]? = σ[i]?
  | [], _ => rfl
  | v :: vs, h => by
    have h1 : v ≠ i := fun e => h (by rw [e]; exact List.mem_cons_self)
    show ((wipe σ vs).set v none)[i]? = _
    rw [List.getElem?_set_ne h1]
    exact wipe_out1 fun z => h (List.mem_cons_of_mem _ z)
theorem wipe_ext {σ τ : St} {vs : List Nat} (hl : τ.length = σ.length) (h : ∀ i, i ∉ vs → τ[i]? = σ[i]?) : wipe τ vs = wipe σ vs := by
  refine List.ext_getElem? fun i => ?_
  by_cases hi : i ∈ vs
  · rw [wipe_in hi, wipe_in hi, hl]
  · rw [wipe_out1 hi, wipe_out1 hi, h i hi]
theorem re_wipe {as : List Addr} {H : Hp} {σ : St} {s : Sl} {os : Os} : ∀ {vs : List Nat}, Re K as H σ ⟨s, os⟩ → Re K as H (wipe σ vs) ⟨wipeS s vs, os⟩
  | [], R => R
  | v :: vs, R => by
    have ih := re_wipe (vs := vs) R
    refine ⟨R.o, by show ((wipe σ vs).set v none).length = ((wipeS s vs).set v none).length; simpa using ih.slen, fun i d h => ?_⟩
    have h' : ((wipeS s vs).set v none)[i]? = some (some d) := h
    by_cases hv : v = i
    · subst hv
      by_cases hl : v < (wipeS s vs).length
      · rw [List.getElem?_set_self hl] at h'
        cases h'
      · rw [List.getElem?_eq_none (by simpa using hl)] at h'
        cases h'
    · rw [List.getElem?_set_ne hv] at h'
      obtain ⟨u, e, r⟩ := ih.slot i d h'
      exact ⟨u, by show ((wipe σ vs).set v none)[i]? = _; rw [List.getElem?_set_ne hv]; exact e, r⟩
/-- a target that stores at vs alone -/
def Wg (g : TG) (vs : List Nat) : Prop := ∀ v σ H Q, g v σ H Q → g v σ H fun σ2 H2 => Q σ2 H2 ∧ σ2.length = σ.length ∧ ∀ i, i ∉ vs → σ2[i]? = σ[i]?
def Wgs (g : TGs) (vs : List Nat) : Prop := ∀ v σ H Q, g v σ H Q → g v σ H fun σ2 H2 => Q σ2 H2 ∧ σ2.length = σ.length ∧ ∀ i, i ∉ vs → σ2[i]? = σ[i]?
theorem wg_name {j : Nat} {vs : List Nat} (h : j ∈ vs) : Wg (gName j) vs := fun v σ H Q q => ⟨q, by simp, fun i hi => List.getElem?_set_ne fun (e : j = i) => hi (e ▸ h)⟩
theorem wgs_nil {vs : List Nat} : Wgs gNil vs := fun v σ H Q q => ⟨q.1, q.2, rfl, fun _ _ => rfl⟩
/-- what follows may be widened -/
def Mg (g : TG) : Prop := ∀ v σ H (Q Q' : St → Hp → Prop), (∀ σ H, Q σ H → Q' σ H) → g v σ H Q → g v σ H Q'
def Mgs (g : TGs) : Prop := ∀ v σ H (Q Q' : St → Hp → Prop), (∀ σ H, Q σ H → Q' σ H) → g v σ H Q → g v σ H Q'
theorem mg_name {j : Nat} : Mg (gName j) := fun v σ H Q Q' k q => k _ _ q
theorem mgs_nil : Mgs gNil := fun v σ H Q Q' k q => ⟨q.1, k _ _ q.2⟩
theorem mgs_cons {g : TG} {gs : TGs} (a : Mg g) (b : Mgs gs) : Mgs (gCons g gs) := fun v σ H Q Q' k ⟨x, r, e, q⟩ => ⟨x, r, e, a _ _ _ _ _ (fun σ2 H2 z => b _ _ _ _ _ k z) q⟩
theorem mg_tup {n : Nat} {gs : TGs} (b : Mgs gs) : Mg (gTup K n gs) := fun v σ H Q Q' k ⟨a, xs, e1, e2, e3, q⟩ => ⟨a, xs, e1, e2, e3, b _ _ _ _ _ k q⟩
theorem wgs_cons {g : TG} {gs : TGs} {vs : List Nat} (m : Mg g) (mb : Mgs gs) (a : Wg g vs) (b : Wgs gs vs) : Wgs (gCons g gs) vs := fun v σ H Q ⟨x, r, e, q⟩ =>
  ⟨x, r, e, m _ _ _ _ _ (fun σ2 H2 ⟨z, l, o⟩ => mb _ _ _ _ _ (fun σ3 H3 ⟨y, l2, o2⟩ => ⟨y, l2.trans l, fun i hi => (o2 i hi).trans (o i hi)⟩) (b _ _ _ _ z)) (a _ _ _ _ q)⟩
theorem wg_tup {n : Nat} {gs : TGs} {vs : List Nat} (b : Wgs gs vs) : Wg (gTup K n gs) vs := fun v σ H Q ⟨a, xs, e1, e2, e3, q⟩ => ⟨a, xs, e1, e2, e3, b _ _ _ _ q⟩
theorem ro_add {as : List Addr} {H : Hp} {os : Os} {p : Addr} (R : Ro K as H os) (hp : H p = none) : Ro K (as ++ [p]) (upd H p (.lst [])) (os ++ [.ml []]) := by
  have R' := R.new (o := .lst []) hp
  refine ⟨?_, by simp [R.len], fun k a ob h1 h2 => ?_⟩
  · refine List.nodup_append.mpr ⟨R.nd, List.nodup_cons.mpr ⟨by simp, List.nodup_nil⟩, fun a ha b hb e => ?_⟩
    rw [List.mem_singleton.mp hb] at e
    exact R.notin hp (e ▸ ha)
  · by_cases hk : k < as.length
    · rw [List.getElem?_append_left hk] at h1
      rw [List.getElem?_append_left (by rw [← R.len]; exact hk)] at h2
      refine (R.own k a ob h1 h2).way ?_ fun u e => ?_
      · have w1 : Way K as (as ++ [p]) H H := Way.of_add hp
        have w2 : Way K (as ++ [p]) (as ++ [p]) H (upd H p (.lst [])) := Way.of_go (Go.at (by simp))
        exact ⟨fun a xs z => w2.l _ _ (w1.l _ _ z), fun a xs z => w2.t _ _ (w1.t _ _ z), fun a u n z => let ⟨n1, z1⟩ := w1.r _ _ n z; w2.r _ _ n1 z1, fun a u n z => let ⟨n1, z1⟩ := w1.o _ _ n z; w2.o _ _ n1 z1⟩
      · rw [upd_ne (ne_of_none e hp)]
        exact e
    · have hk2 : k = as.length := by
        have := (List.getElem?_eq_some_iff.mp h1).1
        rw [List.length_append] at this
        simp at this
        omega
      subst hk2
      rw [List.getElem?_append_right (Nat.le_refl _)] at h1
      rw [R.len, List.getElem?_append_right (Nat.le_refl _)] at h2
      simp at h1 h2
      subst h1
      subst h2
      exact ⟨[], upd_same, .nil⟩
theorem ro_drop {as : List Addr} {H : Hp} {os : Os} {p : Addr} {ob : Ob} (R : Ro K (as ++ [p]) H (os ++ [ob])) : Ro K as H os ∧ ObR K as H p ob ∧ p ∉ as := by
  have hl : as.length = os.length := by
    have := R.len
    simpa using this
  have sub : ∀ x ∈ as, x ∈ as ++ [p] := fun x h => List.mem_append_left _ h
  have hnd := List.nodup_append.mp R.nd
  refine ⟨⟨hnd.1, hl, fun k a ob h1 h2 => ?_⟩, ?_, fun z => hnd.2.2 p z p (by simp) rfl⟩
  · have hk := (List.getElem?_eq_some_iff.mp h1).1
    exact (R.own k a ob (by rw [List.getElem?_append_left hk]; exact h1) (by rw [List.getElem?_append_left (by omega)]; exact h2)).way (Way.of_sub sub) fun _ e => e
  · refine (R.own as.length p ob (by simp) (by rw [hl]; simp)).way (Way.of_sub sub) fun _ e => e
/-- the store's last list has grown -/
theorem ro_grow {as : List Addr} {H : Hp} {os : Os} {p : Addr} {vs : List V} {xs : List D} {v : V} {d : D} (R : Ro K (as ++ [p]) H (os ++ [.ml xs])) (e : H p = some (.lst vs)) (r : Dx K (as ++ [p]) H v d) :
    Ro K (as ++ [p]) (upd H p (.lst (vs ++ [v]))) (os ++ [.ml (xs ++ [d])]) := by
  have g : Go (as ++ [p]) H (upd H p (.lst (vs ++ [v]))) := Go.at (by simp)
  have hl : as.length = os.length := by
    have := R.len
    simpa using this
  have hnd := List.nodup_append.mp R.nd
  refine ⟨R.nd, by simp [hl], fun k a ob h1 h2 => ?_⟩
  by_cases hk : k < as.length
  · have h1' := h1
    rw [List.getElem?_append_left hk] at h1
    rw [List.getElem?_append_left (by omega)] at h2
    refine (R.own k a ob h1' (by rw [List.getElem?_append_left (by omega)]; exact h2)).way (Way.of_go g) fun u q => ?_
    have hne : a ≠ p := fun z => hnd.2.2 a (List.mem_of_getElem? h1) p (by simp) z
    rw [upd_ne hne]
    exact q
  · have hk2 : k = as.length := by
      have := (List.getElem?_eq_some_iff.mp h1).1
      rw [List.length_append] at this
      simp at this
      omega
    subst hk2
    rw [List.getElem?_append_right (Nat.le_refl _)] at h1
    rw [hl, List.getElem?_append_right (Nat.le_refl _)] at h2
    simp at h1 h2
    subst h1
    subst h2
    obtain ⟨ws, e2, r2⟩ := (ro_drop R).2.1
    rw [e] at e2
    cases e2
    have hown := R.own as.length p (.ml xs) (by simp) (by rw [hl]; simp)
    obtain ⟨ws, e3, r3⟩ := hown
    rw [e] at e3
    cases e3
    exact ⟨_, upd_same, DxA.app (r3.way (Way.of_go g)) (.cons (r.way (Way.of_go g)) .nil)⟩
theorem ew_lc {vs : List Nat} (hg : Wg g vs) (hm : Mg g) (h : IW K X wi S fun ds os => ∃ Pv : Nat → List D → Os → Prop, Pv 0 [] os ∧
      (∀ i d acc os', ds[i]? = some d → Pv i acc os' → GW K g (.d d) ⟨wipeS S.s vs, os' ++ [.ml acc]⟩ fun S2 => TW K X0 tt S2 fun b os2 =>
        if b = true then EW K X0 te ⟨S2.s, os2⟩ fun y os3 => ∃ z os4, y = .d z ∧ os3 = os4 ++ [.ml acc] ∧ acc.length < sizeLine ∧ Pv (i + 1) (acc ++ [z]) os4 else ∃ os4, os2 = os4 ++ [.ml acc] ∧ Pv (i + 1) acc os4) ∧
      ∀ acc os', Pv ds.length acc os' → Q (.d (.lst acc)) os') : EW K X (tLc wi g tt te vs) S Q := fun as H σ Q' R x k =>
  h as H σ _ R x fun J H1 ds os1 g1 R1 it ⟨Pv, p0, turn, fin⟩ Dl hD => by
    have R1' := R.go g1 R1
    refine ⟨fun i m H2 => m = ds.length - i ∧ i ≤ ds.length ∧ ∃ acc os2, Stp as H1 (as ++ [Dl]) H2 ∧ Re K (as ++ [Dl]) H2 σ ⟨S.s, os2 ++ [.ml acc]⟩ ∧ Pv i acc os2, ⟨_, rfl, Nat.zero_le _, [], os1, ?_, ?_, p0⟩, ?_⟩
    · exact ⟨⟨[Dl], rfl, fun a ha => by rw [List.mem_singleton.mp ha]; exact hD⟩, Go.new hD, fun a ha => by
        by_cases e : a = Dl
        · rw [e]
          exact hD
        · rw [upd_ne e] at ha
          exact ha⟩
    · refine ⟨ro_add R1 hD, R1'.slen, fun i d hd => ?_⟩
      obtain ⟨u, e, r⟩ := R1'.slot i d hd
      refine ⟨u, e, ?_⟩
      have r2 := r.wayA hD
      exact r2.go (Go.at (by simp))
    rintro i m H2 ⟨rfl, hi, acc, os2, s2, R2, p⟩
    by_cases hlt : i < ds.length
    · have hd : ds[i]? = some ds[i] := List.getElem?_eq_getElem hlt
      obtain ⟨hgo, hy⟩ := (it _ H2 _ s2 R2.o i).1 _ hd
      refine .inr ⟨hgo, fun H' => ∃ acc os3, Stp as H1 (as ++ [Dl]) H' ∧ Re K (as ++ [Dl]) H' σ ⟨S.s, os3 ++ [.ml acc]⟩ ∧ Pv (i + 1) acc os3, fun H' z => ⟨ds.length - (i + 1), by omega, rfl, hlt, z⟩, fun y H3 hyl => ?_⟩
      obtain ⟨g3, R3, r3⟩ := hy y H3 hyl
      have R3' := R2.go g3 R3
      have s3 : Stp as H1 (as ++ [Dl]) H3 := s2.trans (Stp.of_go g3 R3)
      have base := turn i _ acc os2 hd p (as ++ [Dl]) H3 (wipe σ vs) y (fun σ2 H4 => H4 = H3 ∧ ∃ S2, Re K (as ++ [Dl]) H3 σ2 S2 ∧ TW K X0 tt S2 fun b os2 =>
        if b = true then EW K X0 te ⟨S2.s, os2⟩ fun y os3 => ∃ z os4, y = .d z ∧ os3 = os4 ++ [.ml acc] ∧ acc.length < sizeLine ∧ Pv (i + 1) (acc ++ [z]) os4 else ∃ os4, os2 = os4 ++ [.ml acc] ∧ Pv (i + 1) acc os4) (re_wipe R3') r3 fun σ2 S2 R4 q => ⟨rfl, S2, R4, q⟩
      refine hm _ _ _ _ _ ?_ (hg _ _ _ _ base)
      rintro σ2 H4 ⟨⟨rfl, S2, R4, tw⟩, hl, ho⟩
      refine ⟨(wipe_ext hl fun i hi => ho i hi).trans (wipe_ext (wipe_length σ vs) fun i hi => wipe_out1 hi), ?_⟩
      refine tw _ H4 σ2 _ R4 XH.x0 fun b H5 os5 g5 R5 q5 => ?_
      have s5 := s3.trans (Stp.of_go g5 R5)
      cases b with
      | false =>
        obtain ⟨os4, rfl, q6⟩ := (show ∃ os4, os5 = os4 ++ [.ml acc] ∧ Pv (i + 1) acc os4 from q5)
        show ∃ acc os3, _
        exact ⟨acc, os4, s5, R3'.go g5 R5, q6⟩
      | true =>
        show te σ2 H5 _
        refine (show EW K X0 te ⟨S2.s, os5⟩ _ from q5) _ H5 σ2 _ (R4.go g5 R5) XH.x0 fun u H6 e os6 g6 R6 r6 ⟨z, os7, ez, eo, hz, q7⟩ => ?_
        subst ez
        subst eo
        obtain ⟨ws, ew, rw'⟩ := (ro_drop R6).2.1
        refine ⟨ws, ew, by rw [rw'.length]; exact hz, acc ++ [z], os7, ?_, ?_, q7⟩
        · exact (s5.trans (Stp.of_go g6 R6)).trans (Stp.of_go (Go.at (by simp)) (ro_grow R6 ew r6))
        · exact (R3'.go (g5.trans g6) R6).go (Go.at (by simp)) (ro_grow R6 ew r6)
    · have e : i = ds.length := by omega
      subst e
      obtain ⟨Rd, ob, nin⟩ := ro_drop R2.o
      obtain ⟨ws, ew, rw'⟩ := ob
      exact .inl ⟨(it _ H2 _ s2 R2.o _).2 (Nat.le_refl _), k (.ref Dl) H2 (.d (.lst acc)) os2 (g1.trans s2.go) Rd (Dx.lst (.inl ⟨nin, .inl ew⟩) rw') (fin acc os2 p)⟩
theorem tw_yes {S : Sa} {Q : Bool → Os → Prop} (q : Q true S.os) : TW K X tYes S Q := fun as H σ Q' R x k => k true H S.os (Go.refl _ _) R.o q
end
end Br

/-! BrE: the store's dicts; a def that makes one; rooms; a law's end. -/
namespace Br
open PySem L2

/-! ### the store's dicts -/
def keyD : Key → D
  | .inl i => .int i
  | .inr x => .str x
def lookD (kvs : List (Key × D)) (k : Key) : Option D := (kvs.find? fun kv => decide (kv.1 = k)).map (·.2)
def putD (kvs : List (Key × D)) (k : Key) (v : D) : List (Key × D) :=
  if (kvs.any fun kv => decide (kv.1 = k)) = true then kvs.map (fun kv => if kv.1 = k then (kv.1, v) else kv) else kvs ++ [(k, v)]
section
variable {K : PySem.W.Frag} {as : List Addr} {H : Hp}
theorem key_v {v : V} {k : Key} (h : Dx K as H v (keyD k)) : v = kV k := by
  cases k with
  | inl i =>
    cases h
    rfl
  | inr x =>
    cases h
    rfl
theorem DxP.length : ∀ {vs : List (Key × V)} {ds : List (Key × D)}, DxP K as H vs ds → vs.length = ds.length
  | _, _, .nil => rfl
  | _, _, .cons _ r => by rw [List.length_cons, List.length_cons, DxP.length r]
theorem DxP.look {k : Key} : ∀ {vs : List (Key × V)} {ds : List (Key × D)} {z : D}, DxP K as H vs ds → lookD ds k = some z → ∃ v, valV vs k = some v ∧ Dx K as H v z
  | _, _, _, .nil, e => by simp [lookD] at e
  | _, _, z, .cons (k := k2) (v := v) (d := d) (ds := ds) (vs := vs) h r, e => by
    by_cases hk : k2 = k
    · have e2 : some d = some z := by rw [← e]; simp [lookD, List.find?_cons, hk]
      cases e2
      exact ⟨v, valV_pos (p := (k2, v)) hk, h⟩
    · have e2 : lookD ds k = some z := by rw [← e]; simp [lookD, List.find?_cons, hk]
      obtain ⟨u, h1, h2⟩ := DxP.look r e2
      exact ⟨u, by rw [valV_neg (p := (k2, v)) hk]; exact h1, h2⟩
theorem DxP.any {k : Key} : ∀ {vs : List (Key × V)} {ds : List (Key × D)}, DxP K as H vs ds → (vs.any fun kv => decide (kv.1 = k)) = (ds.any fun kv => decide (kv.1 = k))
  | _, _, .nil => rfl
  | _, _, .cons _ r => by rw [List.any_cons, List.any_cons, DxP.any r]
theorem DxP.mapk {k : Key} {u : V} {z : D} (h : Dx K as H u z) : ∀ {vs : List (Key × V)} {ds : List (Key × D)}, DxP K as H vs ds → DxP K as H (vs.map fun kv => if kv.1 = k then (kv.1, u) else kv) (ds.map fun kv => if kv.1 = k then (kv.1, z) else kv)
  | _, _, .nil => .nil
  | _, _, .cons (k := k2) h2 r => by
    rw [List.map_cons, List.map_cons]
    by_cases hk : k2 = k
    · rw [if_pos hk, if_pos hk]
      exact .cons h (DxP.mapk h r)
    · rw [if_neg hk, if_neg hk]
      exact .cons h2 (DxP.mapk h r)
theorem DxP.app : ∀ {v w : List (Key × V)} {d e : List (Key × D)}, DxP K as H v d → DxP K as H w e → DxP K as H (v ++ w) (d ++ e)
  | _, _, _, _, .nil, s => s
  | _, _, _, _, .cons h r, s => .cons h (DxP.app r s)
theorem DxP.put {k : Key} {u : V} {z : D} {vs : List (Key × V)} {ds : List (Key × D)} (h : Dx K as H u z) (r : DxP K as H vs ds) : DxP K as H (putK vs k u) (putD ds k z) := by
  unfold putK putD
  rw [r.any (k := k)]
  split
  · exact DxP.mapk h r
  · exact DxP.app r (.cons h .nil)
/-- a thing of the store is written -/
theorem ro_set {os : Os} {k : Nat} {a : Addr} {o : HO} {ob : Ob} (R : Ro K as H os) (ha : as[k]? = some a) (h : ObR K as (upd H a o) a ob) : Ro K as (upd H a o) (os.set k ob) := by
  have hm : a ∈ as := List.mem_of_getElem? ha
  refine ⟨R.nd, by rw [List.length_set]; exact R.len, fun j b ob2 h1 h2 => ?_⟩
  by_cases hj : k = j
  · subst hj
    rw [ha] at h1
    cases h1
    by_cases hl : k < os.length
    · rw [List.getElem?_set_self hl] at h2
      cases h2
      exact h
    · rw [List.getElem?_eq_none (by simpa using hl)] at h2
      cases h2
  · rw [List.getElem?_set_ne hj] at h2
    refine (R.own j b ob2 h1 h2).way (Way.of_go (Go.at hm)) fun u e => ?_
    have hne : b ≠ a := fun z => by
      subst z
      obtain ⟨l1, m1⟩ := List.getElem?_eq_some_iff.mp h1
      obtain ⟨l2, m2⟩ := List.getElem?_eq_some_iff.mp ha
      exact hj ((List.getElem_inj R.nd).mp (m2.trans m1.symm))
    rw [upd_ne hne]
    exact e
end
section
variable {K : PySem.W.Frag} {X : Xc} {S : Sa} {Q : Sv → Os → Prop} {td ty tv : TE} {E : Ea}
theorem ew_dget (h : EW K X td S fun x os1 => EW K X ty ⟨S.s, os1⟩ fun y os2 => ∃ k kvs key z, x = .o k ∧ os2[k]? = some (.md kvs) ∧ y = .d (keyD key) ∧ lookD kvs key = some z ∧ Q (.d z) os2) : EW K X (tDGet td ty) S Q := fun as H σ Q' R x k =>
  h as H σ _ R x fun v H1 d os1 g1 R1 r1 q1 => q1 as H1 σ _ (R.go g1 R1) (x.go g1 R1) fun u H2 e os2 g2 R2 r2 ⟨j, kvs, key, z, ex, eo, ey, el, q2⟩ => by
    subst ex
    subst ey
    obtain ⟨a, ea, rfl⟩ := r1
    obtain ⟨vs, h1, h2⟩ := R2.own j a _ ea eo
    obtain ⟨w, h3, h4⟩ := h2.look el
    have hk := key_v r2
    subst hk
    refine ⟨a, w, rfl, ?_, k w H2 (.d z) os2 (g1.trans g2) R2 h4 q2⟩
    rw [← h3]
    exact DGet.k h1
theorem w_dput (h : EW K X tv S fun v os1 => EW K X td ⟨S.s, os1⟩ fun x os2 => EW K X ty ⟨S.s, os2⟩ fun y os3 => ∃ k kvs key z, v = .d z ∧ x = .o k ∧ os3[k]? = some (.md kvs) ∧ y = .d (keyD key) ∧ kvs.length ≤ 1000 ∧
    E.nx ⟨S.s, os3.set k (.md (putD kvs key z))⟩) : W K X (sDPut td ty tv) E S := fun as H σ D R x n r b c =>
  h as H σ _ R (x.h R) fun v H1 d os1 g1 R1 r1 q1 => q1 as H1 σ _ (R.go g1 R1) ((x.h R).go g1 R1) fun u H2 e os2 g2 R2 r2 q2 => q2 as H2 σ _ (R.go (g1.trans g2) R2) ((x.h R).go (g1.trans g2) R2) fun y H3 f os3 g3 R3 r3 ⟨j, kvs, key, z, ev, ex, eo, ey, hl, q3⟩ => by
    subst ev
    subst ex
    subst ey
    obtain ⟨a, ea, rfl⟩ := r2
    obtain ⟨vs, h1, h2⟩ := R3.own j a _ ea eo
    have hk := key_v r3
    subst hk
    have hm : a ∈ as := List.mem_of_getElem? ea
    have rz : Dx K as H3 v z := (r1.go (g2.trans g3) : SvR K as H3 v (.d z))
    have R4 : Ro K as (upd H3 a (.dK (putK vs key v))) (os3.set j (.md (putD kvs key z))) := ro_set R3 ea ⟨_, upd_same, DxP.way (Way.of_go (Go.at hm)) (h2.put rz)⟩
    have g4 : Go as H (upd H3 a (.dK (putK vs key v))) := ((g1.trans g2).trans g3).trans (Go.at hm)
    have hz : vs.length < sizeLine := by
      rw [h2.length]
      exact Nat.lt_of_le_of_lt hl (by decide)
    exact ⟨a, _, rfl, DPut.k h1 hz, n as _ σ _ (Stp.of_go g4 R4) (R.go g4 R4) q3⟩
end

section
variable {K : PySem.W.Frag} {X : Xc} {S : Sa} {Q : Sv → Os → Prop} {td tv : TE} {E : Ea} {z : Str}
/-- by a written text -/
theorem ew_dgetS (h : EW K X td S fun v os1 => ∃ k kvs d, v = .o k ∧ os1[k]? = some (.md kvs) ∧ lookD kvs (.inr z) = some d ∧ Q (.d d) os1) : EW K X (tDGet td (tC (.str z))) S Q :=
  ew_dget (ew_mono h fun x os1 ⟨k, kvs, d, ex, eo, el, q⟩ => ew_str ⟨k, kvs, .inr z, d, ex, eo, rfl, el, q⟩)
theorem w_dputS (h : EW K X tv S fun v os1 => EW K X td ⟨S.s, os1⟩ fun x os2 => ∃ k kvs d kv2 os3, v = .d d ∧ x = .o k ∧ os2[k]? = some (.md kvs) ∧ kvs.length ≤ 1000 ∧ putD kvs (.inr z) d = kv2 ∧ os2.set k (.md kv2) = os3 ∧ E.nx ⟨S.s, os3⟩) : W K X (sDPut td (tC (.str z)) tv) E S :=
  w_dput (ew_mono h fun v os1 h1 => ew_mono h1 fun x os2 ⟨k, kvs, d, kv2, os3, ev, ex, eo, hl, e1, e2, q⟩ => ew_str ⟨k, kvs, .inr z, d, ev, ex, eo, rfl, hl, by rw [e1, e2]; exact q⟩)
end

/-! ### a def that makes a thing of the store -/
abbrev FN := List Sv → Os → (Ob → Os → Prop) → Prop
def spN (K : PySem.W.Frag) (f : FN) : Sp := fun vs H Q _ => ∃ (as : List Addr) (os : Os) (ds : List Sv) (QN : Ob → Os → Prop), Ro K as H os ∧ SvA K as H vs ds ∧ f ds os QN ∧
  ∀ p H' ob os', Stp as H (as ++ [p]) H' → Ro K (as ++ [p]) H' (os' ++ [ob]) → QN ob os' → Q (.ref p) H'
def RetN (n : Nat) (QN : Ob → Os → Prop) : Sv → Os → Prop := fun x os' => x = .o n ∧ os'.length = n + 1 ∧ ∃ ob, os'[n]? = some ob ∧ QN ob (os'.take n)
theorem take_last {α : Type} {l : List α} {n : Nat} {x : α} (h : l.length = n + 1) (e : l[n]? = some x) : l.take n ++ [x] = l := by
  obtain ⟨hn, e2⟩ := List.getElem?_eq_some_iff.mp e
  rw [← e2]
  have : l.take (n + 1) = l := List.take_of_length_le (by omega)
  rw [← List.take_append_getElem hn] at this
  exact this
theorem readN_of {K : PySem.W.Frag} {N : List Str} {f : FN} {t : TS} {vs : List V} {H : Hp} {Q : VK} {E : XK} (h : spN K f vs H Q E)
    (w : ∀ ds os QN, f ds os QN → W K X0 t { nx := fun S => False, rt := RetN os.length QN } ⟨startS N ds, os⟩) : t { nx := fun _ H' => Q .non H', rt := Q } (L2.start N vs) H := by
  obtain ⟨as, os, ds, QN, R, r, hf, k⟩ := h
  refine w ds os QN hf as H _ _ (re_start R r) XS.x0 (fun _ _ _ _ _ _ q => q.elim) (fun bs H' v d os' s R' r' q => ?_) (fun _ _ _ _ _ _ q => q.elim) fun _ _ _ _ _ _ q => q.elim
  obtain ⟨rfl, hl, ob, e, q⟩ := q
  obtain ⟨a, ea, rfl⟩ := r'
  obtain ⟨nw, eb, hf⟩ := s.pre
  have hb : bs = as ++ [a] := by
    have h1 : bs.length = os.length + 1 := R'.len.trans hl
    have h2 : as.length = os.length := R.len
    rw [eb, List.length_append] at h1
    match nw, h1 with
    | [b], _ =>
      rw [eb, ← h2, List.getElem?_append_right (Nat.le_refl _)] at ea
      simp at ea
      rw [eb, ea]
    | [], h1 => simp at h1; omega
    | _ :: _ :: _, h1 => simp at h1; omega
  subst hb
  exact k a H' ob _ s (by rw [take_last hl e]; exact R') q
section
variable {K : PySem.W.Frag} {X : Xc} {S : Sa}
/-- x = f(..), f making a thing -/
theorem w_asgN {ta : TA} {i : Nat} {f : FN} {E : Ea} (h : AW K X ta S fun ds os => f ds os fun ob os' => E.nx ⟨S.s.set i (some (.o os'.length)), os' ++ [ob]⟩) : W K X (tAsg (tCall (spN K f) [] E0 ta) (gName i)) E S := fun as H σ D R x n r b c =>
  h as H σ _ R (x.h R) fun vs H1 ds os1 g1 R1 r1 q1 => ⟨as, os1, ds, _, R1, r1.nilr, q1, fun p H2 ob os2 s2 R2 q2 => by
    have s1 : Stp as H as H1 := Stp.of_go g1 R1
    have hl : as.length = os2.length := by
      have := R2.len
      simpa using this
    have R3 : Re K (as ++ [p]) H2 σ ⟨S.s, os2 ++ [ob]⟩ := ⟨R2, R.slen, fun j d hd => by
      obtain ⟨u, e, z⟩ := R.slot j d hd
      exact ⟨u, e, z.stp (s1.trans s2)⟩⟩
    exact n _ H2 _ _ (s1.trans s2) (R3.set i (v := .ref p) (d := .o os2.length) ⟨p, by rw [← hl]; simp, rfl⟩) q2⟩
/-- pairs of a display -/
inductive PrR (K : PySem.W.Frag) (as : List Addr) (H : Hp) : List (V × V) → List (D × D) → Prop
  | nil : PrR K as H [] []
  | cons {x y : V} {a b : D} {ps : List (V × V)} {ds : List (D × D)} : Dx K as H x a → Dx K as H y b → PrR K as H ps ds → PrR K as H ((x, y) :: ps) ((a, b) :: ds)
def DW (K : PySem.W.Frag) (X : Xc) (trs : List (TE × TE)) (S : Sa) (Q : List (D × D) → Os → Prop) : Prop :=
  ∀ as H σ (Q' : List (V × V) → Hp → Prop), Re K as H σ S → XH K X as H σ S.s → (∀ ps H' ds os', Go as H H' → Ro K as H' os' → PrR K as H' ps ds → Q ds os' → Q' ps H') → tPairs trs σ H Q'
theorem dw_nil {Q : List (D × D) → Os → Prop} (q : Q [] S.os) : DW K X [] S Q := fun as H σ Q' R x k => k [] H [] S.os (Go.refl _ _) R.o .nil q
theorem dw_cons {Q : List (D × D) → Os → Prop} {tk tv : TE} {trs : List (TE × TE)} (h : EW K X tk S fun x os1 => EW K X tv ⟨S.s, os1⟩ fun y os2 => ∃ a b, x = .d a ∧ y = .d b ∧ DW K X trs ⟨S.s, os2⟩ fun ds os3 => Q ((a, b) :: ds) os3) : DW K X ((tk, tv) :: trs) S Q := fun as H σ Q' R x k =>
  h as H σ _ R x fun v H1 d os1 g1 R1 r1 q1 => q1 as H1 σ _ (R.go g1 R1) (x.go g1 R1) fun u H2 e os2 g2 R2 r2 ⟨a, b, ea, eb, q2⟩ => by
    subst ea
    subst eb
    have ra : Dx K as H2 v a := (r1.go g2 : SvR K as H2 v (.d a))
    have rb : Dx K as H2 u b := r2
    exact q2 as H2 σ _ (R.go (g1.trans g2) R2) (x.go (g1.trans g2) R2) fun ps H3 ds os3 g3 R3 r3 q3 => k _ H3 _ os3 ((g1.trans g2).trans g3) R3 (.cons (ra.way (Way.of_go g3)) (rb.way (Way.of_go g3)) r3) q3
def mergeD (kvs more : List (Key × D)) : List (Key × D) := more.foldl (fun acc kv => putD acc kv.1 kv.2) kvs
theorem merge_dx {as : List Addr} {H : Hp} : ∀ {more : List (Key × V)} {md : List (Key × D)} {kvs : List (Key × V)} {kds : List (Key × D)}, DxP K as H more md → DxP K as H kvs kds → DxP K as H (mergeK kvs more) (mergeD kds md)
  | _, _, _, _, .nil, s => s
  | _, _, _, _, .cons (k := k) (v := v) (vs := vs) (d := d) (ds := ds) h r, s => merge_dx (kvs := putK _ k v) (kds := putD _ k d) r (s.put h)
theorem pr_keys {as : List Addr} {H : Hp} : ∀ {ps : List (V × V)} {kds : List (Key × D)}, PrR K as H ps (kds.map fun kv => (keyD kv.1, kv.2)) → ∃ kvs : List (Key × V), ps = kvs.map (fun kv => (kV kv.1, kv.2)) ∧ DxP K as H kvs kds
  | [], [], _ => ⟨[], rfl, .nil⟩
  | [], _ :: _, h => nomatch h
  | _ :: _, [], h => nomatch h
  | (x, y) :: ps, (k, d) :: kds, .cons h1 h2 r => by
    obtain ⟨kvs, e, z⟩ := pr_keys (kds := kds) r
    have hk := key_v h1
    subst hk
    subst e
    exact ⟨(k, y) :: kvs, rfl, .cons h2 z⟩
/-- a new dict at p -/
theorem ro_addD {as : List Addr} {H : Hp} {os : Os} {p : Addr} (R : Ro K as H os) (hp : H p = none) : Ro K (as ++ [p]) (upd H p (.dK [])) (os ++ [.md []]) := by
  refine ⟨List.nodup_append.mpr ⟨R.nd, List.nodup_cons.mpr ⟨by simp, List.nodup_nil⟩, fun a ha b hb e => ?_⟩, by simp [R.len], fun k a ob h1 h2 => ?_⟩
  · rw [List.mem_singleton.mp hb] at e
    exact R.notin hp (e ▸ ha)
  · have w1 : Way K as (as ++ [p]) H H := Way.of_add hp
    have w2 : Way K (as ++ [p]) (as ++ [p]) H (upd H p (.dK [])) := Way.of_go (Go.at (by simp))
    by_cases hk : k < as.length
    · rw [List.getElem?_append_left hk] at h1
      rw [List.getElem?_append_left (by rw [← R.len]; exact hk)] at h2
      refine ((R.own k a ob h1 h2).way w1 fun _ e => e).way w2 fun u e => ?_
      rw [upd_ne (ne_of_none e hp)]
      exact e
    · have hk2 : k = as.length := by
        have := (List.getElem?_eq_some_iff.mp h1).1
        rw [List.length_append] at this
        simp at this
        omega
      subst hk2
      rw [List.getElem?_append_right (Nat.le_refl _)] at h1
      rw [R.len, List.getElem?_append_right (Nat.le_refl _)] at h2
      simp at h1 h2
      subst h1
      subst h2
      exact ⟨[], upd_same, .nil⟩
theorem stp_add {as : List Addr} {H : Hp} {p : Addr} {o : HO} (hp : H p = none) : Stp as H (as ++ [p]) (upd H p o) :=
  ⟨⟨[p], rfl, fun a ha => by rw [List.mem_singleton.mp ha]; exact hp⟩, Go.new hp, fun a ha => by
    by_cases e : a = p
    · rw [e]
      exact hp
    · rw [upd_ne e] at ha
      exact ha⟩
theorem w_retDisp {trs : List (TE × TE)} {E : Ea} (h : DW K X0 trs ⟨S.s, S.os ++ [.md []]⟩ fun ds os3 => ∃ os4 kds, os3 = os4 ++ [.md []] ∧ ds = kds.map (fun kv => (keyD kv.1, kv.2)) ∧ kds.length ≤ 15 ∧ E.rt (.o S.os.length) (os4 ++ [.md (mergeD [] kds)])) :
    W K X (tRet (tDisp trs)) E S := fun as H σ D R x n r b c p hp => by
  have R1 : Re K (as ++ [p]) (upd H p (.dK [])) σ ⟨S.s, S.os ++ [.md []]⟩ := ⟨ro_addD R.o hp, R.slen, fun j d hd => by
    obtain ⟨u, e, z⟩ := R.slot j d hd
    exact ⟨u, e, z.stp (stp_add hp)⟩⟩
  refine h _ _ σ _ R1 XH.x0 fun ps H2 ds os3 g2 R2 r2 ⟨os4, kds, e3, ed, hl, q⟩ => ?_
  subst e3
  subst ed
  obtain ⟨kvs, ek, rk⟩ := pr_keys r2
  have hlen : as.length = os4.length := by
    have := R2.len
    simpa using this
  have hpos : (as ++ [p])[as.length]? = some p := by simp
  obtain ⟨ws, e1, e2⟩ := R2.own as.length p (.md []) hpos (by rw [hlen]; simp)
  cases e2
  have g3 : Go (as ++ [p]) H2 (upd H2 p (.dK (mergeK [] kvs))) := Go.at (by simp)
  have R3 : Ro K (as ++ [p]) (upd H2 p (.dK (mergeK [] kvs))) (os4 ++ [.md (mergeD [] kds)]) := by
    have z := ro_set (ob := .md (mergeD [] kds)) R2 hpos ⟨mergeK [] kvs, upd_same, DxP.way (Way.of_go g3) (merge_dx rk .nil)⟩
    rw [hlen, List.set_append_right _ _ (Nat.le_refl _)] at z
    simpa using z
  have sN : Stp as H (as ++ [p]) (upd H2 p (.dK (mergeK [] kvs))) := ((stp_add hp).trans (Stp.of_go g2 R2)).trans (Stp.of_go g3 R3)
  refine ⟨e1, kvs, ek, by rw [rk.length]; exact hl, r _ _ (.ref p) (.o S.os.length) _ sN R3 ⟨p, by rw [← R.o.len]; simp, rfl⟩ q⟩
end
end Br

/-! BrT: small words for the readings. -/
namespace Br
open PySem L2
theorem br_ite {c : Prop} [Decidable c] {A B : Prop} (h1 : c → A) (h2 : ¬ c → B) : if decide c = true then A else B := by
  by_cases h : c
  · rw [decide_eq_true h]
    exact h1 h
  · rw [decide_eq_false h]
    exact h2 h
theorem br_iteN {c : Prop} [Decidable c] {A B : Prop} (h1 : ¬ c → A) (h2 : c → B) : if (!decide c) = true then A else B := by
  by_cases h : c
  · rw [decide_eq_true h]
    exact h2 h
  · rw [decide_eq_false h]
    exact h1 h
theorem br_iteB {b : Bool} {A B : Prop} (h1 : b = true → A) (h2 : b = false → B) : if b = true then A else B := by
  cases b with
  | true => exact h1 rfl
  | false => exact h2 rfl
theorem br_T {A B : Prop} (h : A) : if true = true then A else B := h
theorem br_F {A B : Prop} (h : B) : if false = true then A else B := h
theorem set_set {os : Os} {k : Nat} {a b : Ob} : (os.set k a).set k b = os.set k b := List.set_set ..
theorem get_set {os : Os} {k : Nat} {a b : Ob} (h : os[k]? = some a) : (os.set k b)[k]? = some b := List.getElem?_set_self (List.getElem?_eq_some_iff.mp h).1
theorem c_div {i j : Int} (h : 0 < j) (h2 : j < 2 ^ 8000) : CDivW i j := wide_div (b := 8000) h (by omega) (by decide) (by decide)
theorem c_mul {i j : Int} (a b : Nat) (ha : i.natAbs < 2 ^ a) (hb : j.natAbs < 2 ^ b) (h0 : 0 < a) (h1 : 0 < b) (h : a + b ≤ 1000000) : CMulW i j := wide_mul ha hb h0 h1 h
theorem alld1 {x : D} : AllD [.d x] [x] := .cons .nil
theorem small_len {n : Nat} (h : n ≤ 1000000) : n ≤ sizeLine := Nat.le_trans h (by decide)
theorem pys_ints : ∀ ns : List Int, D.pys (ns.map D.int) = some (ns.map PyData.int)
  | [] => rfl
  | n :: r => by
    show ((D.py (.int n)).bind fun p => (D.pys (r.map D.int)).map fun ps => p :: ps) = _
    rw [pys_ints r]
    rfl
theorem bw_neNil {K : PySem.W.Frag} {os : Os} {Q : Sv → Os → Prop} {ns : List Int} (q : Q (.d (.bl (!ns.isEmpty))) os) : BW K (rNeD K) (.d (.lst (ns.map D.int))) (.d (.lst [])) os Q := by
  refine bw_neD (p := .list (ns.map PyData.int)) (r := .list []) ?_ rfl (PySem.W.ke_shaped_ints ns) (PySem.W.ke_shaped_ints []) ?_
  · show (D.pys (ns.map D.int)).map PyData.list = _
    rw [pys_ints]
    rfl
  · cases ns with
    | nil => exact q
    | cons n r => exact q
theorem at_mod {ns : List Int} {n : Int} (h : ns ≠ []) : ∃ c, L2.atI (ns.map D.int) (n % ((ns.map D.int).length : Int)) = some (.int c) := by
  have hl : 0 < ns.length := List.length_pos_iff.mpr h
  have e : ((ns.map D.int).length : Int) = (ns.length : Int) := by rw [List.length_map]
  have h1 : 0 ≤ n % (ns.length : Int) := Int.emod_nonneg _ (by omega)
  have h2 : n % (ns.length : Int) < (ns.length : Int) := Int.emod_lt_of_pos _ (by omega)
  have hk : (n % (ns.length : Int)).toNat < ns.length := by omega
  obtain ⟨j, hj⟩ : ∃ j : Nat, n % (ns.length : Int) = (j : Int) := ⟨(n % (ns.length : Int)).toNat, by omega⟩
  have hj2 : j < ns.length := by omega
  refine ⟨ns[j], ?_⟩
  rw [e, hj]
  exact atI_nat (by rw [List.getElem?_map, List.getElem?_eq_getElem hj2]; rfl)
theorem w_cut {K : PySem.W.Frag} {X : Xc} {S : Sa} {E : Ea} {t u : TS} (Mid : Sa → Prop) (h1 : W K X t { E with nx := Mid } S) (h2 : ∀ S', Mid S' → W K X u E S') : W K X (tSeq t u) E S :=
  w_seq (w_mono h1 h2 (fun _ _ z => z) (fun _ z => z) fun _ z => z)
theorem w_join {K : PySem.W.Frag} {X : Xc} {S S2 : Sa} {E : Ea} {t u : TS} {b : Bool} (Mid : Sa → Prop) (h1 : if b = true then W K X t { E with nx := Mid } S else W K X u { E with nx := Mid } S2) (h2 : ∀ S', Mid S' → E.nx S') : if b = true then W K X t E S else W K X u E S2 := by
  cases b with
  | true => exact w_mono (show W K X t { E with nx := Mid } S from h1) h2 (fun _ _ z => z) (fun _ z => z) fun _ z => z
  | false => exact w_mono (show W K X u { E with nx := Mid } S2 from h1) h2 (fun _ _ z => z) (fun _ z => z) fun _ z => z
theorem ret_set {os : Os} {k : Nat} {ob : Ob} {d : D} {QA : D → Os → Prop} (q : QA d (os.set k ob)) : RetOk os.length QA (.d d) (os.set k ob) := by
  show QA d ((os.set k ob).take os.length)
  rw [List.take_of_length_le (by rw [List.length_set]; exact Nat.le_refl _)]
  exact q
theorem ret_same {os : Os} {d : D} {QA : D → Os → Prop} (q : QA d os) : RetOk os.length QA (.d d) os := by
  show QA d (os.take os.length)
  rw [List.take_length]
  exact q
theorem c_divS {i j : Int} (h : 0 < j) (h2 : j < 2 ^ 64) : CDivW i j := wide_div (b := 64) h (by omega) (by decide) (by decide)
theorem c_mulS {i j : Int} (h1 : -(2 ^ 200) < i ∧ i < 2 ^ 200) (h2 : -(2 ^ 200) < j ∧ j < 2 ^ 200) : CMulW i j := wide_mul (a := 200) (b := 200) (by omega) (by omega) (by decide) (by decide) (by decide)
/-- a display's things, as data -/
def unD : List Sv → Option (List D)
  | [] => some []
  | .d x :: r => (unD r).map fun ds => x :: ds
  | .o _ :: _ => none
  | .fn _ _ :: _ => none
theorem unD_all : ∀ {xs : List Sv} {ds : List D}, unD xs = some ds → AllD xs ds
  | [], ds, h => by
    have e : some [] = some ds := h
    cases e
    exact .nil
  | .d x :: r, ds, h => by
    have e : (unD r).map (fun ds => x :: ds) = some ds := h
    obtain ⟨es, e1, rfl⟩ := Option.map_eq_some_iff.mp e
    exact .cons (unD_all e1)
  | .o _ :: _, ds, h => by
    have e : (none : Option (List D)) = some ds := h
    cases e
  | .fn _ _ :: _, ds, h => by
    have e : (none : Option (List D)) = some ds := h
    cases e
section
variable {K : PySem.W.Frag} {X : Xc} {S : Sa} {Q : Sv → Os → Prop} {ta : TA}
theorem ew_lst2 (h : AW K X ta S fun xs os => ∃ ds, unD xs = some ds ∧ ds.length ≤ sizeLine ∧ Q (.d (.lst ds)) os) : EW K X (tLst ta) S Q :=
  ew_lst fun as H σ Q' R x k => h as H σ Q' R x fun vs H1 xs os1 g1 R1 r1 ⟨ds, e, q⟩ => k vs H1 xs os1 g1 R1 r1 ⟨ds, unD_all e, q⟩
theorem ew_tup2 (h : AW K X ta S fun xs os => ∃ ds, unD xs = some ds ∧ ds.length ≤ sizeLine ∧ Q (.d (.tup ds)) os) : EW K X (tTup ta) S Q :=
  ew_tup fun as H σ Q' R x k => h as H σ Q' R x fun vs H1 xs os1 g1 R1 r1 ⟨ds, e, q⟩ => k vs H1 xs os1 g1 R1 r1 ⟨ds, unD_all e, q⟩
end
end Br

/-! BrU: kinds asked, texts joined, looked through; an exception made and raised. -/
namespace Br
open PySem L2
/-- the kind of data -/
def D.ty : D → Option String
  | .non => some "NoneType"
  | .bl _ => some "bool"
  | .int _ => some "int"
  | .str _ => some "str"
  | .lst _ => some "list"
  | .tup _ => some "tuple"
  | .dk _ => some "dict"
  | .ob _ _ => none
  | .xo _ _ => none
section
variable {K : PySem.W.Frag} {X : Xc} {S : Sa} {Q : Sv → Os → Prop} {te to : TE} {ta : TA}
theorem dx_ty {as : List Addr} {H : Hp} {v : V} {d : D} {n : String} (r : Dx K as H v d) (e : d.ty = some n) : TyX K H v (.type n) := by
  cases r with
  | non => cases e; exact .base .non
  | bl b => cases e; exact .base (.bl b)
  | int i => cases e; exact .base (.int i)
  | str x => cases e; exact .base (.str x)
  | lst hl hr =>
    cases e
    rcases hl with ⟨_, h | ⟨o, h⟩⟩ | ⟨o, its, k, h, c, _⟩
    · exact .base (.lst h)
    · exact .base (.frz h)
    · exact .kList h c
  | tup hl hr =>
    cases e
    rcases hl with ⟨_, h | ⟨o, h⟩⟩ | ⟨o, its, k, h, c, _⟩
    · exact .base (.tup h)
    · exact .fTuple h
    · exact .kTuple h c
  | dk n h hr =>
    cases e
    rcases h with h | ⟨o, h⟩
    · exact .base (.dK h)
    · exact .fDict h
  | ob => cases e
  | xo => cases e
/-- isinstance(x, a built-in type) -/
theorem ew_isi {n : String} (h : EW K X te S fun x os => ∃ d a r, x = .d d ∧ d.ty = some a ∧ kitB a n = some r ∧ Q (.d (.bl r)) os) : EW K X (tCB (rIsi K) (tCons te (tCons (tC (.ty n)) tNil))) S Q := fun as H σ Q' R x k =>
  h as H σ _ R x fun v H1 d os1 g1 R1 r1 ⟨e, a, r, ed, ea, er, q⟩ => by
    subst ed
    exact ⟨v, .ty n, .type a, .type n, r, rfl, .ty n, dx_ty r1 ea, kit_ty er, k (.bl r) H1 (.d (.bl r)) os1 g1 R1 (Dx.bl r) q⟩
/-- sep.join(a list of texts) -/
theorem ew_join (h : EW K X to S fun x os => ∃ a : Str, x = .d (.str a) ∧ EW K X te ⟨S.s, os⟩ fun y os2 => ∃ ys : List Str, y = .d (.lst (ys.map D.str)) ∧ (ys.map (·.length)).sum + ys.length * a.length ≤ 16777216 ∧ Q (.d (.str (Txt.join a ys))) os2) :
    EW K X (tM1 (fun x xs H Q => ∃ a p, ∃ ys : List Str, x = .str a ∧ xs = [.ref p] ∧ (SqL K H p (ys.map V.str) ∨ SqT K H p (ys.map V.str)) ∧ (ys.map (·.length)).sum + ys.length * a.length ≤ 16777216 ∧ Q (.str (Txt.join a ys)) H) to te) S Q := fun as H σ Q' R x k =>
  h as H σ _ R x fun v H1 d os1 g1 R1 r1 ⟨a, ed, h2⟩ => by
    subst ed
    cases r1
    refine ⟨⟨a, rfl⟩, h2 as H1 σ _ (R.go g1 R1) (x.go g1 R1) fun u H2 e os2 g2 R2 r2 ⟨ys, ey, hl, q⟩ => ?_⟩
    subst ey
    cases r2 with
    | @lst p vs _ hl2 hr =>
      have ev := DxA.of_strs hr
      subst ev
      exact ⟨a, p, ys, rfl, rfl, .inl hl2.sq, hl, k _ H2 (.d (.str _)) os2 (g1.trans g2) R2 (Dx.str _) q⟩
/-- a.index(b) -/
theorem ew_sindex (h : EW K X to S fun x os => ∃ a : Str, x = .d (.str a) ∧ EW K X te ⟨S.s, os⟩ fun y os2 => ∃ (b : Str) (i : Nat), y = .d (.str b) ∧ (Builtin.Str.occurrences a b 0 a.length 1).head? = some i ∧ Q (.d (.int (i : Int))) os2) :
    EW K X (tM1 (fun x xs H Q => ∃ a b i rest, x = .str a ∧ xs = [.str b] ∧ Builtin.Str.occurrences a b 0 a.length 1 = i :: rest ∧ Q (.int (i : Nat)) H) to te) S Q := fun as H σ Q' R x k =>
  h as H σ _ R x fun v H1 d os1 g1 R1 r1 ⟨a, ed, h2⟩ => by
    subst ed
    cases r1
    refine ⟨⟨a, rfl⟩, h2 as H1 σ _ (R.go g1 R1) (x.go g1 R1) fun u H2 e os2 g2 R2 r2 ⟨b, i, ey, ho, q⟩ => ?_⟩
    subst ey
    cases r2
    cases eo : Builtin.Str.occurrences a b 0 a.length 1 with
    | nil => rw [eo] at ho; cases ho
    | cons j rest =>
      rw [eo] at ho
      cases ho
      exact ⟨a, b, i, rest, rfl, rfl, eo, k _ H2 (.d (.int _)) os2 (g1.trans g2) R2 (Dx.int _) q⟩
end
/-! ### an exception of the text's own -/
/-- data without a place -/
def D.flat : D → Option V
  | .non => some .non
  | .bl b => some (.bl b)
  | .int i => some (.int i)
  | .str x => some (.str x)
  | _ => none
theorem dx_flat {K : PySem.W.Frag} {as : List Addr} {H : Hp} {v : V} : ∀ {d : D}, d.flat = some v → Dx K as H v d
  | .non, e => by cases e; exact .non
  | .bl b, e => by cases e; exact .bl b
  | .int i, e => by cases e; exact .int i
  | .str x, e => by cases e; exact .str x
  | .lst _, e => by cases e
  | .tup _, e => by cases e
  | .dk _, e => by cases e
  | .ob _ _, e => by cases e
  | .xo _ _, e => by cases e
theorem flat_dx {K : PySem.W.Frag} {as : List Addr} {H : Hp} {u v : V} : ∀ {d : D}, d.flat = some v → Dx K as H u d → u = v
  | .non, e, r => by cases e; cases r; rfl
  | .bl b, e, r => by cases e; cases r; rfl
  | .int i, e, r => by cases e; cases r; rfl
  | .str x, e, r => by cases e; cases r; rfl
  | .lst _, e, _ => by cases e
  | .tup _, e, _ => by cases e
  | .dk _, e, _ => by cases e
  | .ob _ _, e, _ => by cases e
  | .xo _ _, e, _ => by cases e
/-- C.__init__ of one field -/
def spI1 (C : Addr) (f : Str) (P : V → Prop) : Sp := fun vs H Q _ => ∃ (a : Addr) (v : V), vs = [.ref a, v] ∧ P v ∧ H a = some (exo a C none) ∧
  ∀ dx H', H dx = none → dx ≠ a → H' a = some (exo a C (some dx)) → H' dx = some (exd dx [(f, v)]) → (∀ b o, H b = some o → b ≠ a → H' b = some o) → Q .non H'
section
variable {K : PySem.W.Frag} {X : Xc} {S : Sa} {E : Ea} {ta : TA}
theorem w_raise1 {C : Addr} {f : Str} {P : V → Prop} {Wx : WX} (hw : Wx = X.wx) (h : AW K X ta S fun xs os => ∃ d v, xs = [.d d] ∧ d.flat = some v ∧ P v ∧ X.xe C [(f, d)] ⟨S.s, os⟩) :
    W K X (fun _ σ H => tMkO C (spI1 C f P) [] ta σ H fun cls dd H' => Wx cls dd σ H') E S := fun as H σ D R x n r b c => by
  refine h as H σ _ R (x.h R) fun vs H1 xs os1 g1 R1 r1 ⟨d, v, e, ef, hP, q⟩ => ?_
  subst e
  cases r1 with
  | @cons u _ _ _ r1 rn =>
    cases rn
    have ev : v = u := (flat_dx ef r1).symm
    subst ev
    refine ⟨Nat.le_of_ble_eq_true rfl, fun a ha => ⟨a, _, rfl, hP, upd_same, fun dx H2 h1 h2 h3 h4 h6 => ⟨rfl, dx, _, h3, h4, ?_, ?_⟩⟩⟩
    · rw [upd_ne h2] at h1
      exact h1
    · have hdx : H1 dx = none := by
        rw [upd_ne h2] at h1
        exact h1
      have gg : ∀ b o, H1 b = some o → (upd (del H2 a) dx (.xd [(f, v)])) b = some o := fun b o e => by
        have hb : b ≠ a := ne_of_none e ha
        rw [upd_ne (ne_of_none e hdx), del_ne hb]
        exact h6 b o (by rw [upd_ne hb]; exact e) hb
      have g2 : Go as H1 (upd (del H2 a) dx (.xd [(f, v)])) := fun b o e _ => gg b o e
      have R3 : Ro K as (upd (del H2 a) dx (.xd [(f, v)])) os1 := ⟨R1.nd, R1.len, fun k b ob e1 e2 => (R1.own k b ob e1 e2).way (Way.of_go g2) fun w e => gg b w e⟩
      have g3 : Go as H (upd (del H2 a) dx (.xd [(f, v)])) := g1.trans g2
      have z := x.h R _ C dx [(f, v)] [(f, d)] os1 g3 R3 (g1.free (R1.notin hdx) hdx) upd_same (.cons (dx_flat ef) .nil) q
      rw [hw]
      exact z
end
end Br

/-! BrX: an exception that is caught and kept. -/
namespace Br
open PySem PySem.Spec PyProof.Rows L2
theorem exk_ok {P : Program} {w : World} {H : Hp} {h : Heap} {C dd a : Addr} {oe : Obj} {vs : Array Value} (e : h.get? a = some oe) (z : Zc (.ref C) (some dd) oe) (d : oe.data = .fields vs) : ObjOk P w H h a (Exk C dd a) :=
  ⟨⟨oe, vs, e, z, d⟩, ⟨oe, e⟩, fun _ _ ⟨o, v, q, r⟩ k => ⟨o, v, k o q, r⟩⟩
section
variable {X : Cx} {pins : List (Addr × Obj)} {σ : L2.St} {H : Hp} {s : Shared}
/-- what is pinned and new is tracked -/
theorem inv_keep {a : Addr} {oe : Obj} {o : HO} (I : Inv X ((a, oe) :: pins) σ H s) (n0 : X.s_0.heap.get? a = none) (hp : ∀ p ∈ X.pn ++ pins, p.1 ≠ a) (new : ObjOk X.prog X.w (upd H a o) s.heap a o) : Inv X pins σ (upd H a o) s := by
  obtain ⟨he, na, nL, nF, nc⟩ := I.pin (a, oe) (List.mem_append_right _ List.mem_cons_self)
  refine ⟨I.ok, I.os, I.bare, ⟨I.base.keep, I.base.slot, fun b u e n hx => ?_, I.base.there, fun b xs e => ?_, fun b u xs e => ?_, fun b ps e => ?_⟩, I.loc, I.cell, ?_, fun x c e => ?_, fun p hq => ?_, ?_, I.len⟩
  · rw [upd_ne (fun z => by rw [z, n0] at e; cases e)]
    exact I.base.free b u e n hx
  · have z := I.base.tups b xs e
    rw [upd_ne (ne_of_none z na)]
    exact z
  · have z := I.base.frzs b u xs e
    rw [upd_ne (ne_of_none z na)]
    exact z
  · obtain ⟨more, z⟩ := I.base.tbls b ps e
    refine ⟨more, ?_⟩
    rw [upd_ne (ne_of_none z na)]
    exact z
  · rw [upd_ne (Ne.symm nL)]
    exact I.free
  · have hc := I.freeC x c e
    rw [upd_ne (fun z => ?_)]
    · exact hc
    · obtain ⟨v, q⟩ := I.cell x c e
      rw [z] at q
      obtain ⟨o', h1, h2⟩ := id q
      rw [he] at h1
      cases h1
      exact nc v h2
  · have hq' : p ∈ X.pn ++ (a, oe) :: pins := by
      rcases List.mem_append.mp hq with z | z
      · exact List.mem_append_left _ z
      · exact List.mem_append_right _ (List.mem_cons_of_mem _ z)
    obtain ⟨h1, h2, h3, h4, h5⟩ := I.pin p hq'
    refine ⟨h1, ?_, h3, h4, h5⟩
    rw [upd_ne (hp p hq)]
    exact h2
  · exact HOk.laidN I.hok (fun _ _ e => e) na new
end
/-- except x as n: y = n -/
def wKeep (K : PySem.W.Frag) (c : Value) (i j : Nat) (D : Ends) : WX := fun cls d σ H =>
  PySem.W.exmOne K cls c = some true ∧ ∃ C dd, cls = .ref C ∧ d = some dd ∧ i < σ.length ∧ ∀ a, H a = none → D.nx (((σ.set i (some (.ref a))).set j (some (.ref a))).set i none) (upd H a (Exk C dd a))
section
variable {X : Cx} {x n y : Str} {c : Value} {i j : Nat} {body : List Stmt} {np p1 p2 p3 pos pos' : Pos} {tb : WX → TS}
theorem ps_try_keep (hs : X.stack = X.env :: X.outer) (hf : X.env.frame = some X.env.locals) (hN : X.N.Nodup) (hi : X.N[i]? = some n) (hln : X.env.kindOf n = some .local) (hlv : X.env.scope.names.lookup n = some .local) (hj : X.N[j]? = some y) (hjl : X.env.scope.names.lookup y = some .local) (hc : Names X x c) (hex : X.ex = [])
    (hb : ∀ (W : WX) (pn : List (Addr × Obj)) (xe : Value → Shared → Prop), Takes (X.tr pn xe) W → PassesOwn (model X.prog X.w) X.A X.env xe → PSs (X.tr pn xe) body (tb W))
    (hsw : swapsWith (.Name n p1) (some (.Name y p2)) p3.line X.env = pure false := by rfl) (hd1 : (n == ("__debug__" : Str)) = false := by decide) (hd2 : (n == ("__classdict__" : Str)) = false := by decide) :
    PS X (.Try body [.ExceptHandler (some (.Name x np)) (some n) [.Assign [.Name y p2] (.Name n p1) p3] pos'] [] [] pos) (fun D σ H => tb (wKeep X.K c i j D) D σ H) := by
  refine ⟨fun pins s σ H D I h => ?_⟩
  have ok := I.ok
  have hfr : X.A.frames = some (X.env :: X.outer) := by rw [ok.frames, hs]
  have hloc : Loc X.env.scope n := .inl hln
  refine wpAny_Try_except ?_
  refine wpAny_mono ((hb (wKeep X.K c i j D) (X.pn ++ pins) (fun e s₁ => wpAny (model X.prog X.w) X.A (noteFrame e X.env) (fun _ s₂ => wpAny (model X.prog X.w) X.A (setFlight e none) (fun _ s₃ =>
    wpAny (model X.prog X.w) X.A (handleBy e X.env [.ExceptHandler (some (.Name x np)) (some n) [.Assign [.Name y p2] (.Name n p1) p3] pos']) (SP X pins D) X.xe s₃) X.xe s₂) X.xe s₁) (fun u s' xx => ?_) PassesOwn.looking).run [] s σ H D (I.toTry _) h) (fun f s1 hsp => ?_) (fun e s1 he => he)
  · obtain ⟨a, B, sI, pins', σ', H', cls, d, rfl, J', nb, up, sky, na, os, ag, hb1, C, dd, rfl, rfl, hil, hyes⟩ := xx
    have J : Inv X pins σ' H' sI := J'.ofTry ok
    have sky' : Sky B (X.env :: X.outer) a (Zc (.ref C) (some dd)) X.env.locals s'.heap := by rw [← hs]; exact sky
    show wpAny (model X.prog X.w) X.A (noteFrame (.ref a) X.env) _ _ _
    refine Sky.land Zc.steady hfr hf sky' fun h3 fl3 up3 => ?_
    have J3 : Inv X pins σ' H' { s' with heap := h3 } := J.landed nb fl3.1 (up.trans up3) os ag
    obtain ⟨oe3, vs3, he3, hz3, hd3⟩ := fl3.there
    have notFr : ∀ {h : Heap} {o : Obj} {vs : Array Value}, h.FunFrames B (X.env :: X.outer) → h.get? a = some o → o.data = .fields vs → a ∉ frs (X.env :: X.outer) := fun {h o vs} ff e dd hm => by
      obtain ⟨_, o', e', hnf⟩ := ff.mem hm
      rw [e] at e'; cases e'
      exact hnf _ dd
    have nfr := notFr fl3.2.2.1 he3 hd3
    have nL : a ≠ X.env.locals := fun z => nfr (List.mem_filterMap.mpr ⟨X.env, List.mem_cons_self, by rw [hf, z]⟩)
    have nF : a ∉ X.fs := fun hm => by
      obtain ⟨e, he, q⟩ := List.mem_filterMap.mp hm
      exact nfr (List.mem_filterMap.mpr ⟨e, List.mem_cons_of_mem _ he, q⟩)
    have nI : sI.heap.get? a = none := by
      cases e : sI.heap.get? a with
      | none => rfl
      | some o =>
        have z := nb a o e (by rw [hs]; exact nfr)
        rw [fl3.2.1] at z
        cases z
    have n0 : X.s_0.heap.get? a = none := by
      cases e : X.s_0.heap.get? a with
      | none => rfl
      | some o =>
        obtain ⟨o', z⟩ := J.base.there a o e (by rw [hex]; exact fun z => nomatch z)
        rw [nI] at z
        cases z
    have np' : ∀ p ∈ X.pn ++ pins, p.1 ≠ a := fun p hp z => by
      have e := (J.pin p hp).1
      rw [z, nI] at e
      cases e
    have S3 := J3.suite he3 hd3 na nL nF
    refine wpAny_handleBy_cons (codeAny_handlers_test ?_) (by intro q; cases q)
    have LT : PySem.W.Looks (model X.prog X.w) h3 (typeOf (.ref a)) (.ref C) := fun A Q E s k q => wpAny_typeOf_ref (k _ _ he3) (by rw [hz3.1]; exact q)
    have LM := PySem.W.exm_one (M := model X.prog X.w) (J3.kIn) LT hb1
    have test : ∀ {Q : Value → Shared → Prop} {E : Value → Shared → Prop}, Q c { s' with heap := h3 } → wpAny (model X.prog X.w) (X.A.mark (some (.ref a))) (eval (.Name x np) X.env) Q E { s' with heap := h3 } := fun {Q E} q => by
      obtain ⟨hg, hdbg, hm | ⟨hm, hv, hnn⟩⟩ := hc
      · exact ld_glob (X := X.suite a ((a, oe3) :: (X.pn ++ pins))) S3 hg hm q hdbg
      · exact ld_blt (X := X.suite a ((a, oe3) :: (X.pn ++ pins))) S3 hg hm hv q hnn hdbg
    refine test (LM.here ?_)
    refine codeAny_handlers_suite_as ?_
    refine HandSPX.lands_againZ fl3 fun h4 fl4 up4 => ?_
    have J4 : Inv X pins σ' H' { s' with heap := h4 } := J.landed nb fl4.1 ((up.trans up3).trans up4) os ag
    obtain ⟨oe4, vs4, he4, hz4, hd4⟩ := fl4.there
    have S4 := J4.suite he4 hd4 na nL nF
    refine store_ok (X := X.suite a ((a, oe4) :: (X.pn ++ pins))) (v := .ref a) S4 hN hi hloc rfl (fun s5 S5 => ?_) (.inr hln)
    have suite : PSs (X.suite a ((a, oe4) :: (X.pn ++ pins))) [.Assign [.Name y p2] (.Name n p1) p3] (tAsg (tVar i) (gName j)) :=
      pss_one (ps_set (X := X.suite a ((a, oe4) :: (X.pn ++ pins))) hN hj (.inl hjl) (pe_var (X := X.suite a ((a, oe4) :: (X.pn ++ pins))) hi (.inl hlv) hd1 hd2) hsw (.inr hjl))
    refine wpAny_mono (suite.run [] s5 _ H' { nx := fun σ6 H6 => H6 = H' ∧ σ6 = (σ'.set i (some (.ref a))).set j (some (.ref a)), rt := fun _ _ => False, bk := fun _ _ => False, ct := fun _ _ => False } S5 ⟨.ref a, by rw [List.getElem?_set_self hil], rfl, rfl⟩) (fun f s6 hsp => ?_) (fun _ _ z => False.elim z)
    cases f with
    | next =>
      obtain ⟨σ6, H6, S6, q6, q7⟩ := hsp
      subst q6
      have pinA := S6.pin (a, oe4) (List.mem_append_left _ List.mem_cons_self)
      have S7 : Inv X ((a, oe4) :: pins) σ6 H6 s6 := (Inv.unsuite S6 ok).pins_of fun p hp => by
        rcases List.mem_cons.mp hp with e | z
        · rw [e]
          exact pinA
        · exact S6.pin p (List.mem_append_left _ (List.mem_cons_of_mem _ (List.mem_append_right _ z)))
      refine gone_ok S7 hN hi hln fun s7 J7 => ?_
      have e7 := (J7.pin (a, oe4) (List.mem_append_right _ List.mem_cons_self)).1
      refine ⟨_, _, inv_keep J7 n0 np' (exk_ok e7 hz4 hd4), ?_⟩
      rw [q7]
      exact hyes a na
    | brk =>
      obtain ⟨σ6, H6, S6, q6⟩ := hsp
      exact q6.elim
    | cont =>
      obtain ⟨σ6, H6, S6, q6⟩ := hsp
      exact q6.elim
    | ret u =>
      obtain ⟨v6, σ6, H6, S6, r6, q6⟩ := hsp
      exact q6.elim
  · cases f with
    | next =>
      obtain ⟨σ', H', J', q⟩ := hsp
      exact wpAny_execs_nil ⟨σ', H', J'.ofTry ok, q⟩
    | brk =>
      obtain ⟨σ', H', J', q⟩ := hsp
      exact ⟨σ', H', J'.ofTry ok, q⟩
    | cont =>
      obtain ⟨σ', H', J', q⟩ := hsp
      exact ⟨σ', H', J'.ofTry ok, q⟩
    | ret u =>
      obtain ⟨v, σ', H', J', r, q⟩ := hsp
      exact ⟨v, σ', H', J'.ofTry ok, r, q⟩
end
/-! ### what is asked of a kept exception -/
/-- kept.f -/
def tXk (C : Addr) (f : Str) (te : TE) : TE := fun σ H Q => te σ H fun x H1 => ∃ (a dd : Addr) (fs : List (Str × V)) (v : V), x = .ref a ∧ H1 a = some (Exk C dd a) ∧ H1 dd = some (.xd fs) ∧ fs.lookup f = some v ∧ Q v H1
theorem inst_exk {X : Cx} {pins : List (Addr × Obj)} {σ : L2.St} {H : Hp} {s : Shared} {C dd a : Addr} {fs : List (Str × V)} (I : Inv X pins σ H s) (ea : H a = some (Exk C dd a)) (ed : H dd = some (.xd fs)) :
    ∃ (oe : Obj) (od : Obj) (mA : Str → Option Value), PySem.W.InstAt s.heap a oe C (some od) ∧ (∀ f, RelO (fs.lookup f) (mA f)) ∧ ∀ n, PySem.W.lookIn n od = some (mA n) := by
  obtain ⟨⟨oe, vs, he, hz, hd⟩, _⟩ := (show ObjOk X.prog X.w H s.heap a (Exk C dd a) from I.hok a _ ea)
  have hx : ObjOk X.prog X.w H s.heap dd (.xd fs) := I.hok dd _ ed
  obtain ⟨mA, hns, hr⟩ := hx
  obtain ⟨od, ho, hl⟩ := lookIn_ns hns
  exact ⟨oe, od, mA, ⟨he, hz.1, by unfold PySem.W.notCls; rw [hd] <;> rfl, by rw [hz.2]; exact ho⟩, hr, hl⟩
theorem pe_xk {X : Cx} {C : Addr} {e : Expr} {te : TE} {pos : Pos} {n : Str} (T : XfC X.K C) (hno : PySem.W.findIn X.K (.ref C) n = some none) (he : PE X e te) (hb : attributeBase e n X.env (eval e X.env) = eval e X.env := by rfl) :
    PE X (.Attribute e n pos) (tXk C n te) := by
  refine ⟨fun pins s σ H Q I h => ?_⟩
  refine attr_of hb (thn (he.run pins s σ H _ I h) fun u s1 hh => ?_)
  obtain ⟨x, H1, I1, rx, a, dd, fs, v, ex, ea, ed, l, q⟩ := hh
  subst ex
  obtain rfl : u = Value.ref a := rx
  obtain ⟨oe, od, mA, J, hr, hl⟩ := inst_exk I1 ea ed
  obtain ⟨u, hu, ru⟩ := RelO.some_of (v := v) (o := mA n) (by rw [← l]; exact hr n)
  exact HandSPX.exc_get I1.kIn J T.ga T.gg T.exC (PySem.W.findObj_own T.hdC hno rfl (by rw [hl, hu])) (handed_of ru) ⟨v, H1, I1.tok _, ru, q⟩
/-- isinstance(kept, c) -/
def rIsK (K : PySem.W.Frag) (C : Addr) : List V → Hp → VK → Prop := fun xs H Q => ∃ (a dd : Addr) (fs : List (Str × V)) (c : V) (cv : Value) (b : Bool), xs = [.ref a, c] ∧ H a = some (Exk C dd a) ∧ H dd = some (.xd fs) ∧ ClsV c cv ∧ PySem.W.kitOne K (.ref C) cv = some b ∧ Q (.bl b) H
theorem call_isK {X : Cx} {D : Addr} (C : ExcC X.K D) (hcl : (PySem.W.clsIn X.K D).isSome = true) : CallR X (.builtin "isinstance") (rIsK X.K D) := by
  intro pins s σ H xs us Q I r h
  obtain ⟨a, dd, fs, c, cv, b, rfl, ea, ed, hcv, e, q⟩ := h
  obtain ⟨u1, u2, rfl, r1, r2⟩ := vals2 r
  cases (show u1 = Value.ref a from r1)
  have ec := hcv.eq r2
  subst ec
  obtain ⟨oe, od, mA, J, hr, hl⟩ := inst_exk I ea ed
  exact PySem.W.kia_one (PySem.W.kitx_exc hcl C.hg C.hk C.hs C.ha C.hn C.ht C.hm) I.kIn J e (fun z => nomatch z) fun tk => ⟨.bl b, H, I.tok tk, rfl, q⟩
section
variable {K : PySem.W.Frag} {X : Xc} {S : Sa} {Q : Sv → Os → Prop} {te : TE} {E : Ea}
def lookF (fds : List (Str × D)) (f : Str) : Option D := (fds.find? fun kv => kv.1 = f).map (·.2)
theorem dxf_look {as : List Addr} {H : Hp} {f : Str} : ∀ {vs : List (Str × V)} {ds : List (Str × D)} {z : D}, DxF K as H vs ds → lookF ds f = some z → ∃ v, vs.lookup f = some v ∧ Dx K as H v z
  | _, _, _, .nil, e => by simp [lookF] at e
  | _, _, z, .cons (k := k) (v := v) (d := d) (ds := ds) (vs := vs) h r, e => by
    by_cases hk : k = f
    · have e2 : some d = some z := by rw [← e]; simp [lookF, List.find?_cons, hk]
      cases e2
      refine ⟨v, ?_, h⟩
      rw [List.lookup_cons, hk]
      simp
    · have e2 : lookF ds f = some z := by rw [← e]; simp [lookF, List.find?_cons, hk]
      obtain ⟨u, h1, h2⟩ := dxf_look r e2
      refine ⟨u, ?_, h2⟩
      rw [List.lookup_cons, show (f == k) = false by simpa using fun z => hk z.symm]
      exact h1
theorem ew_xk {C : Addr} {f : Str} (h : EW K X te S fun x os => ∃ fds d, x = .d (.xo C fds) ∧ lookF fds f = some d ∧ Q (.d d) os) : EW K X (tXk C f te) S Q := fun as H σ Q' R x k =>
  h as H σ _ R x fun v H1 d os1 g1 R1 r1 ⟨fds, z, ed, el, q⟩ => by
    subst ed
    cases r1 with
    | xo n1 n2 h1 h2 hr =>
      obtain ⟨u, e1, e2⟩ := dxf_look hr el
      exact ⟨_, _, _, u, rfl, h1, h2, e1, k u H1 (.d z) os1 g1 R1 e2 q⟩
theorem ew_isK {C : Addr} {n : String} (h : EW K X te S fun x os => ∃ fds r, x = .d (.xo C fds) ∧ PySem.W.kitOne K (.ref C) (.type n) = some r ∧ Q (.d (.bl r)) os) : EW K X (tCB (rIsK K C) (tCons te (tCons (tC (.ty n)) tNil))) S Q := fun as H σ Q' R x k =>
  h as H σ _ R x fun v H1 d os1 g1 R1 r1 ⟨fds, r, ed, er, q⟩ => by
    subst ed
    cases r1 with
    | xo n1 n2 h1 h2 hr => exact ⟨_, _, _, .ty n, .type n, r, rfl, h1, h2, .ty n, er, k (.bl r) H1 (.d (.bl r)) os1 g1 R1 (Dx.bl r) q⟩
theorem bw_isN0 {os : Os} (q : Q (.d (.bl true)) os) : BW K rIsN (.d .non) (.d .non) os Q :=
  bw_pure (fun as H v u Q' R rx ry k => by
    cases rx
    cases ry
    exact ⟨rfl, k _ (.bl true)⟩) q
theorem bw_isN1 {os : Os} {C : Addr} {fds : List (Str × D)} (q : Q (.d (.bl false)) os) : BW K rIsN (.d (.xo C fds)) (.d .non) os Q :=
  bw_pure (fun as H v u Q' R rx ry k => by
    cases rx
    cases ry
    exact ⟨rfl, k _ (.bl false)⟩) q
/-- try: .. except c as n: y = n -/
theorem w_try_keep {c : Value} {i j : Nat} {tb : WX → TS} {xe : Addr → List (Str × D) → Sa → Prop} (hi : i < S.s.length) (h : ∀ wx, W K ⟨wx, xe⟩ (tb wx) { nx := E.nx, rt := E.rt, bk := E.bk, ct := E.ct } S)
    (hx : ∀ C fds S', xe C fds S' → PySem.W.exmOne K (.ref C) c = some true ∧ i < S'.s.length ∧ E.nx ⟨((S'.s.set i (some (.d (.xo C fds)))).set j (some (.d (.xo C fds)))).set i none, S'.os⟩) :
    W K X (fun D σ H => tb (wKeep K c i j D) D σ H) E S := fun as H σ D R x n r b ct => by
  refine h (wKeep K c i j D) as H σ D R ?_ n r b ct
  intro bs H' σ' S' C dd fs fds s R' hdd e rf z
  obtain ⟨h1, h2, h3⟩ := hx C fds S' z
  refine ⟨h1, C, dd, rfl, rfl, by rw [R'.slen]; exact h2, fun a ha => ?_⟩
  have g : Go bs H' (upd H' a (Exk C dd a)) := Go.new ha
  have R2 : Re K bs (upd H' a (Exk C dd a)) σ' S' := R'.go g (R'.o.new ha)
  have hdn : dd ∉ bs := fun hm => by
    obtain ⟨k, hk, ek⟩ := List.mem_iff_getElem.mp hm
    have h1 : bs[k]? = some dd := by rw [List.getElem?_eq_getElem hk, ek]
    have h2 : k < S'.os.length := R'.o.len ▸ hk
    have z := R'.o.own k dd S'.os[k] h1 (List.getElem?_eq_getElem h2)
    cases eo : S'.os[k] with
    | ml xs =>
      rw [eo] at z
      obtain ⟨vs, q, _⟩ := z
      rw [e] at q
      cases q
    | md xs =>
      rw [eo] at z
      obtain ⟨vs, q, _⟩ := z
      rw [e] at q
      cases q
    | mi C fs =>
      rw [eo] at z
      obtain ⟨dx, vs, q, _⟩ := z
      rw [e] at q
      cases q
    | tb P q =>
      rw [eo] at z
      obtain ⟨ps, q, _⟩ := z
      rw [e] at q
      cases q
    | mp p xs =>
      rw [eo] at z
      obtain ⟨vs, q, _⟩ := z
      rw [e] at q
      cases q
    | lp p od vs xs =>
      rw [eo] at z
      obtain ⟨q, _⟩ := z
      rw [e] at q
      cases q
    | mr C fs =>
      rw [eo] at z
      obtain ⟨dx, q, _⟩ := z
      rw [e] at q
      cases q
  have had : dd ≠ a := ne_of_none e ha
  have rx : Dx K bs (upd H' a (Exk C dd a)) (.ref a) (.xo C fds) := .xo (R'.o.notin ha) hdn upd_same (by rw [upd_ne had]; exact e) (DxF.way (Way.of_go g) rf)
  have R3 := (R2.set i (v := .ref a) (d := .d (.xo C fds)) rx).set j (v := .ref a) (d := .d (.xo C fds)) rx
  have R4 : Re K bs (upd H' a (Exk C dd a)) (((σ'.set i (some (.ref a))).set j (some (.ref a))).set i none) ⟨((S'.s.set i (some (.d (.xo C fds)))).set j (some (.d (.xo C fds)))).set i none, S'.os⟩ := by
    refine ⟨R3.o, by simpa using R3.slen, fun k d hd => ?_⟩
    have hd' : ((((S'.s.set i (some (Sv.d (.xo C fds)))).set j (some (Sv.d (.xo C fds)))).set i none)[k]? = some (some d)) := hd
    by_cases hk : i = k
    · subst hk
      rw [List.getElem?_set] at hd'
      split at hd'
      · split at hd' <;> cases hd'
      · exact absurd rfl ‹_›
    · rw [List.getElem?_set_ne hk] at hd'
      obtain ⟨u, e1, e2⟩ := R3.slot k d hd'
      exact ⟨u, by rw [List.getElem?_set_ne hk]; exact e1, e2⟩
  exact n bs _ _ _ (s.trans (Stp.of_go g R2.o)) R4 h3
end
end Br

/-! BrH: the store's lists: made, grown, read. -/
namespace Br
open PySem L2
section
variable {K : PySem.W.Frag} {X : Xc} {S : Sa} {Q : Sv → Os → Prop} {E : Ea} {te to : TE} {ta : TA}
theorem stp_new {as : List Addr} {H : Hp} {os : Os} {p : Addr} (R : Ro K as H os) (hp : H p = none) : Stp as H (as ++ [p]) (upd H p (.lst [])) := stp_add hp
/-- x = [], a list that changes -/
theorem w_newL {i : Nat} (q : E.nx ⟨S.s.set i (some (.o S.os.length)), S.os ++ [.ml []]⟩) : W K X (tAsg (tLst tNil) (gName i)) E S := fun as H σ D R x n r b c => by
  refine ⟨Nat.zero_le _, fun p hp => ?_⟩
  have R2 : Re K (as ++ [p]) (upd H p (.lst [])) σ ⟨S.s, S.os ++ [.ml []]⟩ := ⟨ro_add R.o hp, R.slen, fun j d hd => by
    obtain ⟨u, e, z⟩ := R.slot j d hd
    exact ⟨u, e, z.stp (stp_new R.o hp)⟩⟩
  exact n _ _ _ _ (stp_new R.o hp) (R2.set i (v := .ref p) (d := .o S.os.length) ⟨p, by rw [← R.o.len]; simp, rfl⟩) q
/-- x.append(e) -/
theorem ew_app (h : EW K X to S fun x os1 => ∃ k xs1, x = .o k ∧ os1[k]? = some (.ml xs1) ∧ EW K X te ⟨S.s, os1⟩ fun y os2 => ∃ z xs, y = .d z ∧ os2[k]? = some (.ml xs) ∧ xs.length < sizeLine ∧ Q (.d .non) (os2.set k (.ml (xs ++ [z])))) :
    EW K X (tBM K "list" rAppend to (tCons te tNil)) S Q := fun as H σ Q' R x k =>
  h as H σ _ R x fun v H1 d os1 g1 R1 r1 ⟨j, xs1, ed, eo1, h2⟩ => by
    subst ed
    obtain ⟨a, ea, rfl⟩ := r1
    refine ⟨?_, h2 as H1 σ _ (R.go g1 R1) (x.go g1 R1) fun u H2 e os2 g2 R2 r2 ⟨z, xs, ey, eo, hl, q⟩ => ?_⟩
    · obtain ⟨ws, q1, _⟩ := R1.own j a _ ea eo1
      exact .inl ⟨rfl, ws, .inl (.inl q1)⟩
    · subst ey
      obtain ⟨vs, h1, h3⟩ := R2.own j a _ ea eo
      have hm : a ∈ as := List.mem_of_getElem? ea
      have g3 : Go as H2 (upd H2 a (.lst (vs ++ [u]))) := Go.at hm
      have rz : Dx K as H2 u z := r2
      have R3 : Ro K as (upd H2 a (.lst (vs ++ [u]))) (os2.set j (.ml (xs ++ [z]))) := ro_set R2 ea ⟨_, upd_same, DxA.way (Way.of_go g3) (DxA.app h3 (.cons rz .nil))⟩
      exact ⟨a, vs, u, rfl, rfl, h1, by rw [h3.length]; exact hl, k .non _ (.d .non) _ ((g1.trans g2).trans g3) R3 Dx.non q⟩
/-- a list of the store, as it is read -/
theorem o_list {as : List Addr} {H : Hp} {os : Os} {v : V} {j : Nat} {xs : List D} (R : Ro K as H os) (r : SvR K as H v (.o j)) (e : os[j]? = some (.ml xs)) : ∃ a vs, v = .ref a ∧ SqL K H a vs ∧ DxA K as H vs xs := by
  obtain ⟨a, ea, rfl⟩ := r
  obtain ⟨vs, h1, h2⟩ := R.own j a _ ea e
  exact ⟨a, vs, rfl, .inl (.inl h1), h2⟩
theorem cw_lenO {os : Os} {j : Nat} {xs : List D} (e : os[j]? = some (.ml xs)) (q : Q (.d (.int (xs.length : Int))) os) : CW K (rLen K) [.o j] os Q :=
  cw_pure (fun as H vs Q' R r k => by
    cases r with
    | cons h t =>
      cases t
      obtain ⟨a, ws, rfl, hs, hr⟩ := o_list R h e
      refine ⟨a, ws, rfl, .inl hs, ?_⟩
      rw [hr.length]
      exact k _ (.int _)) q
theorem bw_ixO {os : Os} {j : Nat} {xs : List D} {i : Int} {z : D} (e : os[j]? = some (.ml xs)) (h : L2.atI xs i = some z) (q : Q (.d z) os) : BW K (rIxL K) (.o j) (.d (.int i)) os Q :=
  bw_pure (fun as H v u Q' R rx ry k => by
    cases ry
    obtain ⟨a, ws, rfl, hs, hr⟩ := o_list R rx e
    obtain ⟨u, e1, r⟩ := hr.atI h
    exact ⟨a, ws, i, u, rfl, rfl, hs, e1, k _ r⟩) q
theorem cw_tupO {os : Os} {j : Nat} {xs : List D} (e : os[j]? = some (.ml xs)) (q : Q (.d (.tup xs)) os) : CW K (rTupOf K) [.o j] os Q :=
  cw_new (fun as H vs Q' R r k1 k2 => by
    cases r with
    | cons h t =>
      cases t
      obtain ⟨a, ws, rfl, hs, hr⟩ := o_list R h e
      exact ⟨a, ws, rfl, .inl ⟨hs, fun l hl => k1 l _ hl (dx_newT R hl hr)⟩⟩) q
theorem cw_lstO {os : Os} {j : Nat} {xs : List D} (e : os[j]? = some (.ml xs)) (q : Q (.d (.lst xs)) os) : CW K (rListOf K) [.o j] os Q :=
  cw_new (fun as H vs Q' R r k1 k2 => by
    cases r with
    | cons h t =>
      cases t
      obtain ⟨a, ws, rfl, hs, hr⟩ := o_list R h e
      exact ⟨a, ws, rfl, .inl hs, fun l hl => k1 l _ hl (dx_newL R hl hr)⟩) q
end
end Br

/-! BrW: written constants: tuples, lists, dicts with text keys, looked over at once. -/
namespace Br
open PySem L2
mutual
def dOk (K : PySem.W.Frag) : D → Value → Bool
  | .non, u => decide (u = .none)
  | .bl b, u => decide (u = .bool b)
  | .int i, u => match u with
    | .int j _ => decide (i = j)
    | _ => false
  | .str x, u => match u with
    | .str y _ => decide (x = y)
    | _ => false
  | .tup ds, u => match u with
    | .ref a => match K.lookup a with
      | some o => decide (o.cls = .type "tuple") && match o.data with
        | .seq its _ => decide (its.size ≤ sizeLine) && dsOk K ds its.toList
        | _ => false
      | none => false
    | _ => false
  | .lst ds, u => match u with
    | .ref a => match K.lookup a with
      | some o => decide (o.cls = .type "list") && (decide (o.dict = none) && match o.data with
        | .seq its _ => decide (its.size ≤ sizeLine) && dsOk K ds its.toList
        | _ => false)
      | none => false
    | _ => false
  | .dk _, _ => false
  | .ob _ _, _ => false
  | .xo _ _, _ => false
def dsOk (K : PySem.W.Frag) : List D → List Value → Bool
  | [], us => us.isEmpty
  | d :: ds, us => match us with
    | u :: us => dOk K d u && dsOk K ds us
    | [] => false
end
variable {K : PySem.W.Frag}
mutual
theorem dOk_is : ∀ (d : D) (u : Value), dOk K d u = true → ∃ v, RelV v u ∧ ∀ as H, Dx K as H v d
  | .non, u, h => by
    have h2 : decide (u = .none) = true := h
    have e : u = .none := of_decide_eq_true h2
    exact ⟨.non, e, fun _ _ => .non⟩
  | .bl b, u, h => by
    have h2 : decide (u = .bool b) = true := h
    have e : u = .bool b := of_decide_eq_true h2
    exact ⟨.bl b, e, fun _ _ => .bl b⟩
  | .int i, .int j t, h => by
    have h2 : decide (i = j) = true := h
    have e : i = j := of_decide_eq_true h2
    subst e
    exact ⟨.int i, ⟨t, rfl⟩, fun _ _ => .int i⟩
  | .str x, .str y t, h => by
    have h2 : decide (x = y) = true := h
    have e : x = y := of_decide_eq_true h2
    subst e
    exact ⟨.str x, ⟨t, rfl⟩, fun _ _ => .str x⟩
  | .tup ds, .ref a, h => by
    have h0 : (match K.lookup a with
      | some o => decide (o.cls = .type "tuple") && match o.data with
        | .seq its _ => decide (its.size ≤ sizeLine) && dsOk K ds its.toList
        | _ => false
      | none => false) = true := h
    cases eo : K.lookup a with
    | none => rw [eo] at h0; cases h0
    | some o =>
      rw [eo] at h0
      obtain ⟨h1, h2⟩ := Bool.and_eq_true_iff.mp h0
      have h3 : o.cls = .type "tuple" := of_decide_eq_true h1
      cases ed : o.data with
      | seq its n =>
        rw [ed] at h2
        obtain ⟨h4, h5⟩ := Bool.and_eq_true_iff.mp h2
        obtain ⟨vs, r1, r2⟩ := dsOk_is ds _ h5
        exact ⟨.ref a, rfl, fun as H => .tup (.inr ⟨o, its, n, eo, h3, ed, of_decide_eq_true h4, r1⟩) (r2 as H)⟩
      | _ => rw [ed] at h2; cases h2
  | .lst ds, .ref a, h => by
    have h0 : (match K.lookup a with
      | some o => decide (o.cls = .type "list") && (decide (o.dict = none) && match o.data with
        | .seq its _ => decide (its.size ≤ sizeLine) && dsOk K ds its.toList
        | _ => false)
      | none => false) = true := h
    cases eo : K.lookup a with
    | none => rw [eo] at h0; cases h0
    | some o =>
      rw [eo] at h0
      obtain ⟨h1, h2⟩ := Bool.and_eq_true_iff.mp h0
      obtain ⟨h6, h2⟩ := Bool.and_eq_true_iff.mp h2
      have h3 : o.cls = .type "list" := of_decide_eq_true h1
      cases ed : o.data with
      | seq its n =>
        rw [ed] at h2
        obtain ⟨h4, h5⟩ := Bool.and_eq_true_iff.mp h2
        obtain ⟨vs, r1, r2⟩ := dsOk_is ds _ h5
        exact ⟨.ref a, rfl, fun as H => .lst (.inr ⟨o, its, n, eo, h3, of_decide_eq_true h6, ed, of_decide_eq_true h4, r1⟩) (r2 as H)⟩
      | _ => rw [ed] at h2; cases h2
theorem dsOk_is : ∀ (ds : List D) (us : List Value), dsOk K ds us = true → ∃ vs, Vals vs us ∧ ∀ as H, DxA K as H vs ds
  | [], [], _ => ⟨[], .nil, fun _ _ => .nil⟩
  | [], _ :: _, h => by cases h
  | _ :: _, [], h => by cases h
  | d :: ds, u :: us, h => by
    have h0 : (dOk K d u && dsOk K ds us) = true := h
    obtain ⟨h1, h2⟩ := Bool.and_eq_true_iff.mp h0
    obtain ⟨v, r1, r2⟩ := dOk_is d u h1
    obtain ⟨vs, r3, r4⟩ := dsOk_is ds us h2
    exact ⟨v :: vs, .cons r1 r3, fun as H => .cons (r2 as H) (r4 as H)⟩
end
/-- a written dict with text keys, looked over: just these, in this order -/
def tbOk (K : PySem.W.Frag) (a : Addr) (tb : List (Str × D)) : Bool := tb.all fun kd => match PySem.W.nsIn K a kd.1 with
  | some (some u) => dOk K kd.2 u
  | _ => false
theorem tbOk_at {a : Addr} {tb : List (Str × D)} {k : Str} {d : D} (h : tbOk K a tb = true) (m : (k, d) ∈ tb) : ∃ u v, PySem.W.nsIn K a k = some (some u) ∧ RelV v u ∧ ∀ as H, Dx K as H v d := by
  have z := List.all_eq_true.mp h (k, d) m
  dsimp only at z
  cases e : PySem.W.nsIn K a k with
  | none => rw [e] at z; cases z
  | some o =>
    cases o with
    | none => rw [e] at z; cases z
    | some u =>
      rw [e] at z
      obtain ⟨v, r1, r2⟩ := dOk_is d u z
      exact ⟨u, v, rfl, r1, r2⟩
/-- a written dict, looked over: just these text keys, in this order -/
def keysOk (K : PySem.W.Frag) : List DictEntry → List (Str × D) → Bool
  | [], tb => tb.isEmpty
  | e :: es, tb => match tb with
    | kd :: tb => (match e.key with
      | .str x _ => decide (x = kd.1)
      | _ => false) && (dOk K kd.2 e.val && keysOk K es tb)
    | [] => false
def kdOk (K : PySem.W.Frag) (a : Addr) (tb : List (Str × D)) : Bool := match K.lookup a with
  | some ⟨_, _, .dict es _, _⟩ => keysOk K es.toList tb
  | _ => false
def lookT (tb : List (Str × D)) (z : Str) : Option D := (tb.find? fun kd => decide (kd.1 = z)).map (·.2)
theorem keys_find {z : Str} : ∀ {es : List DictEntry} {tb : List (Str × D)}, keysOk K es tb = true → (∃ d e, lookT tb z = some d ∧ es.find? (·.key.isStr z) = some e ∧ dOk K d e.val = true) ∨ (lookT tb z = none ∧ es.find? (·.key.isStr z) = none)
  | [], [], _ => .inr ⟨rfl, rfl⟩
  | [], _ :: _, h => by cases h
  | _ :: _, [], h => by cases h
  | e :: es, kd :: tb, h => by
    have h0 : ((match e.key with
      | .str x _ => decide (x = kd.1)
      | _ => false) && (dOk K kd.2 e.val && keysOk K es tb)) = true := h
    obtain ⟨h1, h2⟩ := Bool.and_eq_true_iff.mp h0
    obtain ⟨h3, h4⟩ := Bool.and_eq_true_iff.mp h2
    cases ek : e.key with
    | str x t =>
      rw [ek] at h1
      have ex : x = kd.1 := of_decide_eq_true h1
      by_cases hz : kd.1 = z
      · refine .inl ⟨kd.2, e, ?_, ?_, h3⟩
        · unfold lookT
          rw [List.find?_cons_of_pos (by simpa using hz)]
          rfl
        · rw [List.find?_cons_of_pos]
          rw [ek, ex, hz]
          show (z == z) = true
          exact beq_self_eq_true z
      · have ih := keys_find (z := z) h4
        have a1 : lookT (kd :: tb) z = lookT tb z := by
          unfold lookT
          rw [List.find?_cons_of_neg (by simpa using hz)]
        have a2 : (e :: es).find? (·.key.isStr z) = es.find? (·.key.isStr z) := by
          rw [List.find?_cons_of_neg]
          rw [ek, ex]
          show ¬ ((kd.1 == z) = true)
          intro q
          exact hz (eq_of_beq q)
        rw [a1, a2]
        exact ih
    | _ => rw [ek] at h1; cases h1
theorem keys_plain : ∀ {es : List DictEntry} {tb : List (Str × D)}, keysOk K es tb = true → es.any (·.refKey) = false
  | [], _, _ => rfl
  | _ :: _, [], h => by cases h
  | e :: es, kd :: tb, h => by
    have h0 : ((match e.key with
      | .str x _ => decide (x = kd.1)
      | _ => false) && (dOk K kd.2 e.val && keysOk K es tb)) = true := h
    obtain ⟨h1, h2⟩ := Bool.and_eq_true_iff.mp h0
    have ih := keys_plain (Bool.and_eq_true_iff.mp h2).2
    cases ek : e.key with
    | str x t =>
      rw [List.any_cons, ih]
      unfold DictEntry.refKey
      rw [ek]
      rfl
    | _ => rw [ek] at h1; cases h1
/-- what stands at a text -/
theorem kd_at {a : Addr} {tb : List (Str × D)} (h : kdOk K a tb = true) (z : Str) :
    (∃ d u v, lookT tb z = some d ∧ PySem.W.nsIn K a z = some (some u) ∧ RelV v u ∧ ∀ as H, Dx K as H v d) ∨ (lookT tb z = none ∧ PySem.W.nsIn K a z = some none) := by
  unfold kdOk at h
  unfold PySem.W.nsIn
  split at h
  · rename_i c o es n sl e
    rw [e]
    rcases keys_find (z := z) h with ⟨d, x, h1, h2, h3⟩ | ⟨h1, h2⟩
    · obtain ⟨v, r1, r2⟩ := dOk_is d _ h3
      refine .inl ⟨d, x.val, v, h1, ?_, r1, r2⟩
      dsimp only
      rw [h2]
    · refine .inr ⟨h1, ?_⟩
      dsimp only
      rw [h2, keys_plain h]
      rfl
  · cases h
def rKd (K : PySem.W.Frag) (a : Addr) : R2 := fun x y H Q => ∃ (z : Str) (u0 : Value) (v0 : V), x = .ref a ∧ y = .str z ∧ PySem.W.nsIn K a z = some (some u0) ∧ RelV v0 u0 ∧ Q v0 H
def rInKd (K : PySem.W.Frag) (a : Addr) : R2 := fun x y H Q => ∃ (z : Str) (r : Option Value), x = .str z ∧ y = .ref a ∧ PySem.W.nsIn K a z = some r ∧ Q (.bl r.isSome) H
def rNotInKd (K : PySem.W.Frag) (a : Addr) : R2 := fun x y H Q => ∃ (z : Str) (r : Option Value), x = .str z ∧ y = .ref a ∧ PySem.W.nsIn K a z = some r ∧ Q (.bl (!r.isSome)) H
section
variable {X : Xc} {S : Sa} {Q : Sv → Os → Prop} {te : TE} {a : Addr} {tb : List (Str × D)}
/-- T[e] -/
theorem ew_kd (hk : kdOk K a tb = true) (h : EW K X te S fun y os => ∃ z d, y = .d (.str z) ∧ lookT tb z = some d ∧ Q (.d d) os) : EW K X (tOp (rKd K a) (tC (.ref a)) te) S Q := fun as H σ Q' R x k =>
  h as H σ _ R x fun v H1 d os1 g1 R1 r1 ⟨z, e, ed, el, q⟩ => by
    subst ed
    cases r1
    rcases kd_at hk z with ⟨d', u, v, h1, h2, h3, h4⟩ | ⟨h1, _⟩
    · rw [el] at h1
      cases h1
      exact ⟨z, u, v, rfl, rfl, h2, h3, k v H1 (.d _) os1 g1 R1 (h4 as H1) q⟩
    · rw [el] at h1
      cases h1
/-- e in T -/
theorem ew_inKd (hk : kdOk K a tb = true) (h : EW K X te S fun y os => ∃ z, y = .d (.str z) ∧ Q (.d (.bl (lookT tb z).isSome)) os) : EW K X (tOp (rInKd K a) te (tC (.ref a))) S Q := fun as H σ Q' R x k =>
  h as H σ _ R x fun v H1 d os1 g1 R1 r1 ⟨z, ed, q⟩ => by
    subst ed
    cases r1
    rcases kd_at hk z with ⟨d', u, v, h1, h2, h3, h4⟩ | ⟨h1, h2⟩
    · rw [h1] at q
      exact ⟨z, some u, rfl, rfl, h2, k (.bl true) H1 (.d (.bl true)) os1 g1 R1 (Dx.bl true) q⟩
    · rw [h1] at q
      exact ⟨z, none, rfl, rfl, h2, k (.bl false) H1 (.d (.bl false)) os1 g1 R1 (Dx.bl false) q⟩
theorem ew_notInKd (hk : kdOk K a tb = true) (h : EW K X te S fun y os => ∃ z, y = .d (.str z) ∧ Q (.d (.bl (!(lookT tb z).isSome))) os) : EW K X (tOp (rNotInKd K a) te (tC (.ref a))) S Q := fun as H σ Q' R x k =>
  h as H σ _ R x fun v H1 d os1 g1 R1 r1 ⟨z, ed, q⟩ => by
    subst ed
    cases r1
    rcases kd_at hk z with ⟨d', u, v, h1, h2, h3, h4⟩ | ⟨h1, h2⟩
    · rw [h1] at q
      exact ⟨z, some u, rfl, rfl, h2, k (.bl false) H1 (.d (.bl false)) os1 g1 R1 (Dx.bl false) q⟩
    · rw [h1] at q
      exact ⟨z, none, rfl, rfl, h2, k (.bl true) H1 (.d (.bl true)) os1 g1 R1 (Dx.bl true) q⟩
end
section
variable {X : Cx} {a : Addr} {es : Array DictEntry} {n : Nat}
theorem op_kd (D : KDict X.K X.w a es n) : OpR X getItem (rKd X.K a) := op_item_kd D
theorem op_inKd (D : KDict X.K X.w a es n) : OpR X (compareOp .In) (rInKd X.K a) := op_in_kd D
theorem op_notInKd (D : KDict X.K X.w a es n) : OpR X (compareOp .NotIn) (rNotInKd X.K a) := op_notIn_kd D
end
end Br

/-! BrY: all, any, sum of data; tuples put together. -/
namespace Br
open PySem L2
section
variable {K : PySem.W.Frag} {X : Xc} {S : Sa} {os : Os} {Q : Sv → Os → Prop} {te : TE}
theorem cw_all {bs : List Bool} (q : Q (.d (.bl (bs.all id))) os) : CW K (rAll K) [.d (.lst (bs.map D.bl))] os Q :=
  cw_pure (fun as H vs Q' R r k => by
    cases r with
    | cons h t =>
      cases t
      cases h with
      | @lst a ws _ hl hr =>
        have e := DxA.of_bls hr
        subst e
        exact ⟨a, bs, rfl, hl.sq, k _ (.bl _)⟩) q
theorem cw_any {bs : List Bool} (q : Q (.d (.bl (bs.any id))) os) : CW K (rAny K) [.d (.lst (bs.map D.bl))] os Q :=
  cw_pure (fun as H vs Q' R r k => by
    cases r with
    | cons h t =>
      cases t
      cases h with
      | @lst a ws _ hl hr =>
        have e := DxA.of_bls hr
        subst e
        exact ⟨a, bs, rfl, hl.sq, k _ (.bl _)⟩) q
theorem cw_sum {ns : List Int} (q : Q (.d (.int ns.sum)) os) : CW K (rSum K) [.d (.lst (ns.map D.int))] os Q :=
  cw_pure (fun as H vs Q' R r k => by
    cases r with
    | cons h t =>
      cases t
      cases h with
      | @lst a ws _ hl hr =>
        have e := DxA.of_ints hr
        subst e
        exact ⟨a, ns, rfl, hl.sq, k _ (.int _)⟩) q
/-- t + u of tuples -/
theorem bw_catT {xs ys : List D} (hl : xs.length + ys.length ≤ sizeLine) (q : Q (.d (.tup (xs ++ ys))) os) : BW K (rCatA K) (.d (.tup xs)) (.d (.tup ys)) os Q :=
  bw_new (fun as H v u Q' R rx ry k1 k2 => by
    cases rx with
    | @tup a vs _ h1 h2 =>
      cases ry with
      | @tup b us _ h3 h4 =>
        refine ⟨a, b, vs, us, rfl, rfl, h1.sq, h3.sq, by rw [h2.length, h4.length]; exact hl, fun e => ?_, fun e1 e2 => ?_, fun _ _ p hp => k1 p _ hp (dx_newT R hp (h2.app h4))⟩
        · subst e
          have z : xs = [] := by
            have := h2.length
            exact List.length_eq_zero_iff.mp this.symm
          subst z
          exact k2 _ (.tup h3 h4)
        · subst e2
          have z : ys = [] := by
            have := h4.length
            exact List.length_eq_zero_iff.mp this.symm
          subst z
          rw [List.append_nil] at k2
          exact k2 _ (.tup h1 h2)) q
end
end Br

/-! BrZ: zip of a text and a tuple. -/
namespace BrZip
open PySem PySem.Spec PyProof.Rows Builtin Builtin.SmallTypes
abbrev mz1 (h : Heap) (x : Str) (t : Tok) : Heap := h.push { cls := .type (strIterType x), data := .fields #[.str x t, .int 0 0] }
abbrev mz2 (h : Heap) (x : Str) (t : Tok) (b : Addr) : Heap := (mz1 h x t).push { cls := .type "tuple_iterator", data := .fields #[.ref b, .int 0 0] }
abbrev mz3 (h : Heap) (x : Str) (t : Tok) (b : Addr) : Heap := (mz2 h x t b).push { cls := .type "tuple", data := .seq #[.ref h.objs.size, .ref (mz1 h x t).objs.size] }
abbrev mz4 (h : Heap) (x : Str) (t : Tok) (b : Addr) : Heap := (mz3 h x t b).push { cls := .type "tuple", data := .seq #[.none, .none] }
abbrev mz5 (h : Heap) (x : Str) (t : Tok) (b : Addr) : Heap := (mz4 h x t b).push { cls := .type "zip", data := .fields #[.none, .bool false, .bool false, .ref (mz2 h x t b).objs.size, .ref (mz3 h x t b).objs.size] }
theorem meets_new (x : Str) (t : Tok) (b : Addr) (ys : Array Value) :
    Meets (Builtin.«zip.__new__» ⟨[.type "zip", .str x t, .ref b], []⟩) (fun _ R s => s.heap.IsTuple b ys ∧ R (.ok (.ret (.ref (mz4 s.heap x t b).objs.size))) { s with heap := mz5 s.heap x t b }) :=
  .of_wp fun prog w A R s h => by
    obtain ⟨hp, g, d, tk, os⟩ := s
    obtain ⟨hl2, h⟩ := h
    have hsub := sub_zip
    have hL2 : Heap.IsTuple (Shared.heap ⟨mz1 hp x t, g, d, tk, os⟩) b ys := Heap.IsTuple.push hl2 _
    wp_walk using wpAny_pyIter_strU, wpAny_pyIter_tuple hL2
    exact ⟨_, rfl, h⟩
section
variable {prog : Program} {w : World} {A : Around} {E : Value → Shared → Prop} {s : Shared}
theorem call_mz {x : Str} {t : Tok} {b : Addr} {ys : Array Value} {Q : Value → Shared → Prop} (hb : s.heap.IsTuple b ys)
    (h : ∀ h', IsZip h' (s.heap.objs.size + 4) (s.heap.objs.size + 2) (s.heap.objs.size + 3) .none → IsPair h' (s.heap.objs.size + 2) (.ref s.heap.objs.size) (.ref (s.heap.objs.size + 1)) →
      IsPair h' (s.heap.objs.size + 3) .none .none → h'.IsStrIter s.heap.objs.size (strIterType x) x t 0 → h'.IsTupleIter (s.heap.objs.size + 1) b 0 →
      (∀ c o, s.heap.get? c = some o → h'.get? c = some o) → Q (.ref (s.heap.objs.size + 4)) { s with heap := h' }) :
    wpAny (model prog w) A (call (.type "zip") [.str x t, .ref b]) Q E s := by
  refine callType_new F.called_zip (by decide) (F.typeCall_zip_2 _ _) (F.newCall_zip_2 _ _) (fun obj => F.args_object_init_3 obj _ _) F.entry_zip_new (meets_new x t b ys) ⟨hb, ?_⟩
  have n1 : (mz1 s.heap x t).objs.size = s.heap.objs.size + 1 := Heap.size_push ..
  have n2 : (mz2 s.heap x t b).objs.size = s.heap.objs.size + 2 := by rw [Heap.size_push, n1]
  have n3 : (mz3 s.heap x t b).objs.size = s.heap.objs.size + 3 := by rw [Heap.size_push, n2]
  have n4 : (mz4 s.heap x t b).objs.size = s.heap.objs.size + 4 := by rw [Heap.size_push, n3]
  have q5 : (mz5 s.heap x t b).get? (mz4 s.heap x t b).objs.size = some _ := Heap.get?_push_size _ rfl
  have q4 : (mz5 s.heap x t b).get? (mz3 s.heap x t b).objs.size = some _ := Heap.get?_push_of_some _ (Heap.get?_push_size _ rfl)
  have q3 : (mz5 s.heap x t b).get? (mz2 s.heap x t b).objs.size = some _ := Heap.get?_push_of_some _ (Heap.get?_push_of_some _ (Heap.get?_push_size _ rfl))
  have q2 : (mz5 s.heap x t b).get? (mz1 s.heap x t).objs.size = some _ := Heap.get?_push_of_some _ (Heap.get?_push_of_some _ (Heap.get?_push_of_some _ (Heap.get?_push_size _ rfl)))
  have q1 : (mz5 s.heap x t b).get? s.heap.objs.size = some _ := Heap.get?_push_of_some _ (Heap.get?_push_of_some _ (Heap.get?_push_of_some _ (Heap.get?_push_of_some _ (Heap.get?_push_size _ rfl))))
  show _ ∧ _
  rw [n2, n3, n4] at q5
  rw [n1, n2] at q3
  rw [n3] at q4
  rw [n1] at q2
  rw [n4]
  exact ⟨⟨_, q5, rfl⟩, h _ q5 q3 q4 ⟨_, q1, rfl, rfl⟩ ⟨_, q2, rfl, rfl⟩ fun c o e =>
    Heap.get?_push_of_some _ (Heap.get?_push_of_some _ (Heap.get?_push_of_some _ (Heap.get?_push_of_some _ (Heap.get?_push_of_some _ e))))⟩
end
end BrZip
namespace Br
open PySem PySem.Spec PyProof.Rows L2 BrZip
/-- the signs of x beside the tuple at b -/
def Itm (K : PySem.W.Frag) (x : Str) (b : Addr) (m : Nat) : It :=
  ⟨fun i H => i < x.cps.size ∧ ∃ (ys : List V) (y : V), SqT K H b ys ∧ ys.length = m ∧ ys[i]? = some y,
    fun i H v H' => ∃ T c y, v = .ref T ∧ H T = none ∧ x.cps[i]? = some c ∧ H' = upd H T (.tup [.str ⟨#[c]⟩, y]) ∧ ∀ ys, SqT K H b ys → ys[i]? = some y,
    fun i H => (x.cps.size ≤ i ∨ m ≤ i) ∧ ∃ ys : List V, SqT K H b ys ∧ ys.length = m⟩
theorem turn_mz {P : Program} {w : World} {K : PySem.W.Frag} {elts : List Expr} {kk : Nat} {tpos : Pos} {x : Str} {t : Tok} {m : Nat} {b z TI TO i1 i2 : Addr} (S : PySem.ZipSep2 z TI TO i1 i2 [i1] [i2, b]) (hb2 : b ≠ i2) :
    Turn P w K (.Tuple elts kk tpos) (Itm K x b m) [z, TI, TO, i1, i2] z (fun i h => (i ≤ x.cps.size ∧ i ≤ m) ∧ IsZip h z TI TO .none ∧ IsPair h TI (.ref i1) (.ref i2) ∧ (∃ x y, IsPair h TO x y) ∧ h.IsStrIter i1 (strIterType x) x t i ∧ h.IsTupleIter i2 b i) where
  mem := by simp
  obj := fun i h st c hc => by
    obtain ⟨_, hz, hTI, ⟨x, y, hTO⟩, ⟨o1, e1, _, d1⟩, ⟨o2, e2, _, d2⟩⟩ := st
    simp only [List.mem_cons, List.not_mem_nil, or_false] at hc
    rcases hc with q | q | q | q | q <;> subst q
    · exact ⟨_, hz, fun v q => nomatch q⟩
    · exact ⟨_, hTI, fun v q => nomatch q⟩
    · exact ⟨_, hTO, fun v q => nomatch q⟩
    · exact ⟨o1, e1, fun v q => by rw [d1] at q; cases q⟩
    · exact ⟨o2, e2, fun v q => by rw [d2] at q; cases q⟩
  keep := fun i h h' st k => by
    obtain ⟨hi, hz, hTI, ⟨x, y, hTO⟩, ⟨o1, e1, r1⟩, h2⟩ := st
    exact ⟨hi, k z (by simp) _ hz, k TI (by simp) _ hTI, ⟨x, y, k TO (by simp) _ hTO⟩, ⟨o1, k i1 (by simp) _ e1, r1⟩, h2.at fun o q => k i2 (by simp) o q⟩
  item := by
    intro X hP hw hK hc i pins s σ H E I hf st hg
    subst hP hw hK
    obtain ⟨hi, hz, hTI, ⟨x0, y0, hTO⟩, h1, h2⟩ := st
    obtain ⟨hlt, ys, y, hqy, hm, hy⟩ := hg
    obtain ⟨its, rv, p, _⟩ := I.tuple hqy
    obtain ⟨u2, hu2, ru2⟩ := rv.get hy
    have hzl : z < s.heap.objs.size := Heap.lt_size hz
    have D1 := Draws.text (prog := X.prog) (w := X.w) (A := X.A.in1) (I.ok.hd hc) i1 x t
    have D2 := Draws.tuple (prog := X.prog) (w := X.w) (A := X.A.in1) (I.ok.hd hc) i2 b hb2 its.toArray
    have hl2 : i < its.toArray.size := by
      rw [List.size_toArray]
      exact (List.getElem?_eq_some_iff.mp hu2).1
    refine wpAny_pyNext_zipD2_item S D1 D2 hz hTI hTO h1 ⟨h2, p⟩ hlt hl2 fun v1 v2 h' tk y1 y2 hz' hTO' st1 st2 hT hsz hk => ?_
    obtain ⟨c, u1, hcx, rfl⟩ := y1
    have ev : v2 = u2 := by
      have y3 : its[i]? = some v2 := by simpa using y2
      rw [hu2] at y3
      exact (Option.some.inj y3).symm
    subst ev
    refine ⟨_, rfl, wpAny_letOwnedTupleGo_zip (s := { s with heap := h', toks := tk }) hz' fun h'' hz'' sb => ?_⟩
    have hT2 : h''.get? s.heap.objs.size = some { cls := .type "tuple", data := .seq #[.str ⟨#[c]⟩ u1, v2] } := (sb.2 _ (Nat.ne_of_gt hzl)).trans hT
    have new : ObjOk X.prog X.w (upd H s.heap.objs.size (.tup [.str ⟨#[c]⟩, y])) h'' s.heap.objs.size (.tup [.str ⟨#[c]⟩, y]) :=
      ⟨by show 2 ≤ sizeLine; decide, [.str ⟨#[c]⟩ u1, v2], .cons ⟨u1, rfl⟩ (.cons ru2 .nil), ⟨_, hT2, rfl, _, rfl⟩⟩
    have I1 : Inv X pins σ (upd H s.heap.objs.size (.tup [.str ⟨#[c]⟩, y])) { s with heap := h'', toks := tk } :=
      I.turnedNew (t' := tk) (ch := [z, TI, TO, i1, i2]) (fun c o hb q => (sb.2 c (fun q' => hb (by simp [q']))).trans (hk c o (fun q' => hb (by simp [q'])) (fun q' => hb (by simp [q'])) (fun q' => hb (by simp [q'])) (fun q' => hb (by simp [q'])) q)) hf (Nat.le_refl _) new
    have i1z : i1 ≠ z := fun q => S.zf1 (by rw [q]; simp)
    have i2z : i2 ≠ z := fun q => S.zf2 (by rw [q]; simp)
    refine ⟨.ref s.heap.objs.size, _, I1, rfl, ⟨_, c, y, rfl, I.hok.fresh (Nat.le_refl _), hcx, rfl, fun l hl => by rw [I.tuple_inj hl hqy]; exact hy⟩, ⟨⟨hlt, by rw [← hm]; exact (List.getElem?_eq_some_iff.mp hy).1⟩, hz'', ?_, ⟨.str ⟨#[c]⟩ u1, v2, ?_⟩, ?_, ?_⟩, fun c hcm => ?_⟩
    · exact (sb.2 _ S.TIz).trans (hk _ _ S.TIz S.TITO S.TIi1 S.TIi2 hTI)
    · exact (sb.2 _ S.TOz).trans hTO'
    · obtain ⟨o1, e1, r1⟩ := st1
      exact ⟨o1, (sb.2 _ i1z).trans e1, r1⟩
    · exact st2.1.at fun o q => (sb.2 _ i2z).trans q
    · have hlt : c < s.heap.objs.size := by
        simp only [List.mem_cons, List.not_mem_nil, or_false] at hcm
        rcases hcm with q | q | q | q | q
        · rw [q]; exact hzl
        · rw [q]; exact Heap.lt_size hTI
        · rw [q]; exact Heap.lt_size hTO
        · rw [q]; obtain ⟨_, e1, _⟩ := h1; exact Heap.lt_size e1
        · rw [q]; obtain ⟨_, e2, _⟩ := h2; exact Heap.lt_size e2
      rw [upd_ne (Nat.ne_of_lt hlt)]
      exact (hf c hcm).1
  done := by
    intro X hP hw hK hc i pins s σ H E I hf st hg
    subst hP hw hK
    obtain ⟨hi, hz, hTI, ⟨x0, y0, hTO⟩, h1, h2⟩ := st
    obtain ⟨hend, ys, hqy, hm⟩ := hg
    obtain ⟨its, rv, p, _⟩ := I.tuple hqy
    have l2 := rv.length
    have D1 := Draws.text (prog := X.prog) (w := X.w) (A := X.A.in1) (I.ok.hd hc) i1 x t
    have D2 := Draws.tuple (prog := X.prog) (w := X.w) (A := X.A.in1) (I.ok.hd hc) i2 b hb2 its.toArray
    have hle := hi.1
    have he : i = x.cps.size ∨ i = its.toArray.size := by
      have e2 : its.toArray.size = its.length := List.size_toArray ..
      rw [e2]
      rcases hend with z | z
      · exact .inl (Nat.le_antisymm hle z)
      · exact .inr (by omega)
    exact wpAny_pyNext_zipD2_end S D1 D2 hz hTI hTO h1 ⟨h2, p⟩ hle (by rw [List.size_toArray]; omega) he fun h' tk hk => ⟨rfl, I.turnedL (t' := tk) (ch := [z, TI, TO, i1, i2]) (fun c o hb q =>
      hk c o (fun q' => hb (by simp [q'])) (fun q' => hb (by simp [q'])) (fun q' => hb (by simp [q'])) (fun q' => hb (by simp [q'])) q) hf⟩
  self := fun A i s Q E st h => wpAny_pyIter_zip st.2.1 h
def iZipM (K : PySem.W.Frag) (ta : TA) : TI := fun σ H R => ta σ H fun vs H1 => ∃ x b ys, vs = [.str x, .ref b] ∧ SqT K H1 b ys ∧ R (Itm K x b ys.length) H1
theorem pi_zipM {X : Cx} {e e2 : Expr} {ta : TA} {p pos tpos : Pos} {elts : List Expr} {kk : Nat} (hg : Gl X "zip") (hm : X.mg "zip" = none) (ha : PA X [e, e2] ta)
    (hs : starEach [e, e2] X.env = (false, eval e X.env) :: starEach [e2] X.env := by rfl) (hpl : (backTo pos (starEach [e2] X.env)).any (·.1) = false := by rfl) :
    PI X (.Tuple elts kk tpos) (.Call (.Name "zip" p) [e, e2] [] pos) (iZipM X.K ta) := by
  refine ⟨fun pins s σ H R I h => ?_⟩
  refine Call_ (ld_blt I hg hm PyProof.Rows.boot_zip (PyProof.Rows.callWith_type1 (thn (ha.run pos pins s σ H _ I h) fun us s1 ⟨vs, H1, I1, r1, q1⟩ => ?_) hs hpl))
  obtain ⟨x, b, ys, ev, hq, q⟩ := q1
  subst ev
  obtain ⟨u1, u2, rfl, ru1, ru2⟩ := vals2 r1
  obtain ⟨t, rfl⟩ := ru1
  cases (show u2 = Value.ref b from ru2)
  obtain ⟨its, rv, pt, _⟩ := I1.tuple hq
  obtain ⟨ob, hob, _⟩ := id pt
  have hlt : b < s1.heap.objs.size := Heap.lt_size hob
  have fresh : ∀ c, c ∈ [s1.heap.objs.size + 4, s1.heap.objs.size + 2, s1.heap.objs.size + 3, s1.heap.objs.size, s1.heap.objs.size + 1] → FpOk X pins H1 c := fun c hc => by
    have hle : s1.heap.objs.size ≤ c := by
      simp only [List.mem_cons, List.not_mem_nil, or_false] at hc
      rcases hc with z | z | z | z | z <;> (rw [z]; first | exact Nat.le_add_right _ _ | exact Nat.le_refl _)
    exact I1.fpOk hle (I1.hok.fresh hle)
  refine call_mz (show s1.heap.IsTuple b its.toArray from pt) fun h' hz hTI hTO h1 h2 hk => wpAny_pyIter_zip hz ?_
  have I2 : Inv X pins σ H1 { s1 with heap := h' } := I1.kept (t' := s1.toks) hk
  refine ⟨s1.heap.objs.size + 4, _, _, _, H1, rfl, I2, turn_mz (TI := s1.heap.objs.size + 2) (TO := s1.heap.objs.size + 3) (i1 := s1.heap.objs.size) (i2 := s1.heap.objs.size + 1) (t := t) ?_ ?_, ⟨⟨Nat.zero_le _, Nat.zero_le _⟩, hz, hTI, ⟨_, _, hTO⟩, h1, h2⟩, fresh, q⟩
  · have q0 : b ≠ s1.heap.objs.size + 4 := Nat.ne_of_lt (Nat.lt_of_lt_of_le hlt (Nat.le_add_right _ _))
    have q1 : b ≠ s1.heap.objs.size + 3 := Nat.ne_of_lt (Nat.lt_of_lt_of_le hlt (Nat.le_add_right _ _))
    have q2 : b ≠ s1.heap.objs.size := Nat.ne_of_lt hlt
    have aux : ∀ (n k m : Nat), k ≠ m → n + k ≠ n + m := fun n k m h => by omega
    constructor <;> first
      | exact aux _ _ _ (by decide)
      | exact aux _ _ 0 (by decide)
      | (simp; done)
      | (simp only [List.mem_cons, List.not_mem_nil, or_false]; exact aux _ _ 0 (by decide))
      | (simp only [List.mem_cons, List.not_mem_nil, or_false]; rintro (z | z); exact absurd z (aux _ _ _ (by decide)); exact absurd z.symm (by assumption))
      | (simp only [List.mem_cons, List.not_mem_nil, or_false]; rintro (z | z); exact absurd z.symm (aux _ _ 0 (by decide)); exact absurd z.symm (by assumption))
      | (simp only [List.mem_cons, List.not_mem_nil, or_false]; exact aux _ _ 0 (by decide))
  · exact Nat.ne_of_lt (Nat.lt_succ_of_lt hlt)
/-- signs beside data -/
def zipM (z : Str) (ys : List D) : List D := (z.cps.toList.zip ys).map fun p => D.tup [.str ⟨#[p.1]⟩, p.2]
section
variable {K : PySem.W.Frag} {X : Xc} {S : Sa} {Q : List D → Os → Prop} {ta : TA}
theorem iw_zipM (h : AW K X ta S fun xs os => ∃ (z : Str) (ys : List D), xs = [.d (.str z), .d (.tup ys)] ∧ Q (zipM z ys) os) : IW K X (iZipM K ta) S Q := fun as H σ R' R x k =>
  h as H σ _ R x fun vs H1 ds os1 g1 R1 r1 ⟨z, ys, e, q⟩ => by
    subst e
    cases r1 with
    | cons r1 rn =>
      cases rn with
      | cons r2 rn =>
        cases rn
        cases r1
        cases r2 with
        | @tup b ws _ hl hr =>
          refine ⟨z, b, ws, rfl, hl.sq, k _ H1 (zipM z ys) os1 g1 R1 (fun bs H2 os s R2 i => ?_) q⟩
          have hl2 := s.way.t _ _ hl
          have hr2 := hr.way s.way
          have hlen : (zipM z ys).length = min z.cps.size ys.length := by
            unfold zipM
            rw [List.length_map, List.length_zip, Array.length_toList]
          refine ⟨fun d hd => ?_, fun hn => ⟨?_, ws, hl2.sq, rfl⟩⟩
          · have hi := (List.getElem?_eq_some_iff.mp hd).1
            rw [hlen] at hi
            have hi1 : i < z.cps.size := by omega
            have hi2 : i < ys.length := by omega
            obtain ⟨w, e1, e2⟩ := hr2.get (List.getElem?_eq_getElem hi2)
            refine ⟨⟨hi1, ws, w, hl2.sq, rfl, e1⟩, ?_⟩
            rintro y H3 ⟨T, c, y2, rfl, hT, hc, rfl, hy⟩
            have ey := hy ws hl2.sq
            rw [e1] at ey
            cases ey
            refine ⟨Go.new hT, R2.new hT, ?_⟩
            have ed : d = D.tup [.str ⟨#[c]⟩, ys[i]] := by
              unfold zipM at hd
              rw [List.getElem?_map] at hd
              obtain ⟨p, h1, h2⟩ := Option.map_eq_some_iff.mp hd
              rw [List.getElem?_zip_eq_some] at h1
              obtain ⟨h3, h4⟩ := h1
              have h5 : z.cps[i]? = some p.1 := by rw [← Array.getElem?_toList]; exact h3
              rw [hc] at h5
              rw [List.getElem?_eq_getElem hi2] at h4
              rw [← h2, ← Option.some.inj h5, ← Option.some.inj h4]
            rw [ed]
            exact dx_newT R2 hT (.cons (.str _) (.cons e2 .nil))
          · rw [hlen] at hn
            rw [hr.length]
            omega
end
end Br

/-! BrN: a written dict whose keys are None and texts. -/
namespace Br
open PySem PySem.Spec PyProof.Rows L2
def KeysN (P : Params) : List DictEntry → Prop
  | [] => True
  | e :: r => ((e.key = .none ∧ e.hash = reduceHash 0xFCA86420) ∨ ∃ x t, e.key = .str x t ∧ e.hash = PyData.keyHash P x) ∧ KeysN P r
theorem KeysN.all {P : Params} : ∀ {l : List DictEntry}, KeysN P l → ∀ e ∈ l, (e.key = .none ∧ e.hash = reduceHash 0xFCA86420) ∨ ∃ x t, e.key = .str x t ∧ e.hash = PyData.keyHash P x
  | _ :: _, ⟨h, _⟩, _, .head _ => h
  | _ :: _, ⟨_, r⟩, _, .tail _ m => r.all _ m
def keyN : Option Str → Option Key := fun k => k.map .inr
theorem mapN {K : PySem.W.Frag} {h : Heap} {prog : Program} {w : World} {a : Addr} {es : Array DictEntry} {n : Nat} (X : K.In h) (hl : K.lookup a = some ⟨.type "dict", none, .dict es n, #[]⟩) (hk : KeysN w.params es.toList) :
    h.MapOf (noneKind prog w) a (fun k => findBy nkIs es k) :=
  ⟨_, es, n, X _ _ hl, ⟨rfl, rfl, rfl⟩, rfl, fun e he => by
    rcases hk.all e (Array.mem_toList_iff.mpr he) with ⟨e1, e2⟩ | ⟨x, t, e1, e2⟩
    · exact ⟨none, by rw [e1]; rfl, e2⟩
    · exact ⟨some (.inr x), by rw [e1]; exact keyIs_str x t, e2⟩, fun _ => rfl⟩
/-- looked over: just these keys, in this order -/
def keysOkN (K : PySem.W.Frag) : List DictEntry → List (Option Str × D) → Bool
  | [], tb => tb.isEmpty
  | e :: es, tb => match tb with
    | kd :: tb => (match e.key with
      | .none => decide (kd.1 = none)
      | .str x _ => decide (kd.1 = some x)
      | _ => false) && (dOk K kd.2 e.val && keysOkN K es tb)
    | [] => false
def lookN (tb : List (Option Str × D)) (z : Option Str) : Option D := (tb.find? fun kd => decide (kd.1 = z)).map (·.2)
variable {K : PySem.W.Frag}
theorem key_is {e : DictEntry} {k z : Option Str} (h : (match e.key with
      | .none => decide (k = none)
      | .str x _ => decide (k = some x)
      | _ => false) = true) : nkIs (keyN z) e.key = decide (k = z) := by
  cases ek : e.key with
  | none =>
    rw [ek] at h
    have e1 : k = none := of_decide_eq_true h
    subst e1
    cases z with
    | none => rfl
    | some z =>
      rw [decide_eq_false (fun q => nomatch q)]
      rfl
  | str x t =>
    rw [ek] at h
    have e1 : k = some x := of_decide_eq_true h
    subst e1
    cases z with
    | none =>
      rw [decide_eq_false (fun q => nomatch q)]
      rfl
    | some z =>
      show (x == z) = _
      by_cases c : x = z
      · subst c
        simp
      · rw [decide_eq_false (fun q => c (Option.some.inj q))]
        exact beq_eq_false_iff_ne.mpr c
  | _ => rw [ek] at h; cases h
theorem keysN_find {z : Option Str} : ∀ {es : List DictEntry} {tb : List (Option Str × D)} {d : D}, keysOkN K es tb = true → lookN tb z = some d → ∃ e, es.find? (fun e => nkIs (keyN z) e.key) = some e ∧ dOk K d e.val = true
  | [], [], _, _, h => by cases h
  | [], _ :: _, _, h, _ => by cases h
  | _ :: _, [], _, h, _ => by cases h
  | e :: es, kd :: tb, d, h, hl => by
    have h0 : ((match e.key with
      | .none => decide (kd.1 = none)
      | .str x _ => decide (kd.1 = some x)
      | _ => false) && (dOk K kd.2 e.val && keysOkN K es tb)) = true := h
    obtain ⟨h1, h2⟩ := Bool.and_eq_true_iff.mp h0
    obtain ⟨h3, h4⟩ := Bool.and_eq_true_iff.mp h2
    have ki := key_is (z := z) h1
    by_cases hz : kd.1 = z
    · have a1 : lookN (kd :: tb) z = some kd.2 := by
        unfold lookN
        rw [List.find?_cons_of_pos (by simpa using hz)]
        rfl
      rw [a1] at hl
      cases hl
      exact ⟨e, List.find?_cons_of_pos (by rw [ki]; exact decide_eq_true hz), h3⟩
    · have a1 : lookN (kd :: tb) z = lookN tb z := by
        unfold lookN
        rw [List.find?_cons_of_neg (by simpa using hz)]
      rw [a1] at hl
      obtain ⟨e2, q1, q2⟩ := keysN_find h4 hl
      exact ⟨e2, by rw [List.find?_cons_of_neg (by rw [ki, decide_eq_false hz]; exact Bool.false_ne_true)]; exact q1, q2⟩
/-- such a dict at a -/
structure NDict (K : PySem.W.Frag) (w : World) (a : Addr) (tb : List (Option Str × D)) : Prop where
  ex : ∃ es n, K.lookup a = some ⟨.type "dict", none, .dict es n, #[]⟩ ∧ KeysN w.params es.toList ∧ keysOkN K es.toList tb = true
def keyD2 : Option Str → D
  | none => .non
  | some x => .str x
def rNd (K : PySem.W.Frag) (w : World) (a : Addr) (tb : List (Option Str × D)) : R2 := fun x y H Q => ∃ (k : Option Str) (d : D), x = .ref a ∧ (k = none → y = .non) ∧ (∀ z, k = some z → y = .str z) ∧ lookN tb k = some d ∧ ∀ v, (∀ as H', Dx K as H' v d) → Q v H
theorem op_nd {X : Cx} {a : Addr} {tb : List (Option Str × D)} (N : NDict X.K X.w a tb) : OpR X getItem (rNd X.K X.w a tb) := by
  intro pins s σ H x y v u Q I rx ry h
  obtain ⟨es, n, hl, hk, ho⟩ := N.ex
  obtain ⟨k, d, rfl, y0, y1, el, q⟩ := h
  cases (show v = Value.ref a from rx)
  obtain ⟨e, f1, f2⟩ := keysN_find ho el
  obtain ⟨v0, r1, r2⟩ := dOk_is d _ f2
  have hm := mapN (prog := X.prog) (w := X.w) I.kIn hl hk
  have hf : findBy nkIs es (keyN k) = some e.val := by
    obtain ⟨l⟩ := es
    unfold findBy
    rw [List.find?_toArray, f1]
    rfl
  have hkey : (noneKind X.prog X.w).is (keyN k) u = true := by
    cases k with
    | none =>
      have ey := y0 rfl
      subst ey
      cases (show u = Value.none from ry)
      rfl
    | some z =>
      have ey := y1 z rfl
      subst ey
      obtain ⟨t, rfl⟩ := (show ∃ t, u = Value.str z t from ry)
      exact keyIs_str z t
  exact wpAny_getItem_of hkey hm hf ⟨v0, H, I.tok _, r1, q v0 r2⟩
section
variable {X : Xc} {S : Sa} {Q : Sv → Os → Prop} {te : TE} {w : World} {a : Addr} {tb : List (Option Str × D)}
/-- T[e], T with None and texts as keys -/
theorem ew_nd (h : EW K X te S fun y os => ∃ k d, y = .d (keyD2 k) ∧ lookN tb k = some d ∧ Q (.d d) os) : EW K X (tOp (rNd K w a tb) (tC (.ref a)) te) S Q := fun as H σ Q' R x k =>
  h as H σ _ R x fun v H1 d os1 g1 R1 r1 ⟨z, e, ed, el, q⟩ => by
    subst ed
    refine ⟨z, e, rfl, fun e0 => ?_, fun y e0 => ?_, el, fun u hu => k u H1 (.d e) os1 g1 R1 (hu as H1) q⟩
    · subst e0
      cases r1
      rfl
    · subst e0
      cases r1
      rfl
end
end Br

/-! BrG: a law's own def, called with nothing being shown: repr of data. -/
namespace Br
open PySem PySem.Spec PyProof.Rows L2
/-- a def's promise where no repr is under way -/
structure FnG (P : Program) (w : World) (K : PySem.W.Frag) (mg : Str → Option Value) (base : Heap) (k : Nat) (f : Addr) (fd : FuncData) (ps : List Str) (sp : Sp) : Prop where
  len : ∀ vs H Q E, sp vs H Q E → vs.length = ps.length
  run : ∀ (A : Around) (outer : List Env) (s : Shared) (H : Hp) (args : Args) (us : List Value) (vs : List V) (Q : VK) (E : XK), A.guards = some [] → Room k A → Env0 P w K mg base A outer s H → BindsTo s fd args (ps.zip us) → Vals vs us → sp vs H Q E →
    codeAny (model P w) A (.call (.ref f) args) (CR CX0 outer P w H s Q E) s
theorem fn_ofG {P : Program} {w : World} {K : PySem.W.Frag} {mg : Str → Option Value} {base : Heap} {k : Nat} {f : Addr} {name qual : Str} {params : Arguments} {body : List Stmt} {scope : Scope} {dV kV doc pm cdv ct oc : Value} {an od : Option Addr}
    {osl : Array (Option Value)} {N ps : List Str} {sp : Sp} (lk : K.lookup f = some ⟨oc, od, .func (PySem.W.fnOf name qual params body scope dV kV doc pm an cdv ct), osl⟩) (hcd : PySem.W.codeIn K cdv qual = true) (S : FnScope N ps scope)
    (len : ∀ vs H Q E, sp vs H Q E → vs.length = ps.length)
    (hbody : ∀ (A : Around) (outer : List Env) (s : Shared) (H : Hp) (vs : List V) (Q : VK) (E : XK), (A.deeper (envOfC qual scope s.heap.objs.size f cdv)).guards = some [] → Room k (A.deeper (envOfC qual scope s.heap.objs.size f cdv)) → sp vs H Q E →
      ∃ t, PSs (cxOf CX0 P w K mg base N qual scope f cdv A outer s H E) body t ∧ t { nx := fun _ H' => Q .non H', rt := Q } (L2.start N vs) H) :
    FnG P w K mg base (k + 1) f (PySem.W.fnOf name qual params body scope dV kV doc pm an cdv ct) ps sp where
  len := len
  run A outer s H args us vs Q E hg hr e0 hb r hsp := by
    have inK : K.In s.heap := e0.mod.kin.keeps fun p u q => (e0.bs p u q).1
    have free : s.heap.NoLimit := e0.mod.nolimit.keeps fun p u q => (e0.bs p u q).1
    have kinds : ∀ z ∈ ps.zip us, scope.names.lookup z.1 = some .local ∨ (scope.names.lookup z.1 = some .cell ∧ ((cellsFrom (s.heap.objs.size + 1) scope.names []).lookup z.1).isSome = true) := by
      rintro ⟨m, u⟩ hz
      cases S.par m (List.of_mem_zip hz).1 with
      | inl z => exact .inl z
      | inr z => exact .inr ⟨z, PySem.W.cellsFrom_some _ _ _ (.inl z)⟩
    apply codeAny_call_function hr.depth (inK _ _ lk) rfl S.co S.gen rfl (PySem.W.codeRec_of inK hcd)
    apply hb
    apply wpAny_newFunctionEnv_cells S.kind kinds
    intro env henv s1 hin
    cases henv
    refine ⟨free.keeps hin.toInCall.keep, codeAny_func ?_⟩
    have hg2 : (A.deeper (envOfC qual scope s.heap.objs.size f cdv)).guards = some [] := hg
    obtain ⟨t, rules, reading⟩ := hbody A outer s H vs Q E hg2 (hr.deeper _) hsp
    have J : Inv (cxOf CX0 P w K mg base N qual scope f cdv A outer s H E) [] (L2.start N vs) H s1 := inv_start S hr.hd e0 (len _ _ _ _ hsp) r hin
    have run := rules.run [] s1 (L2.start N vs) H _ J reading
    refine wpAny_mono run ?_ fun _ _ z => z
    intro fl s' ends
    cases fl with
    | brk => exact ends.elim fun _ z => z.elim fun _ z => z.2.elim
    | cont => exact ends.elim fun _ z => z.elim fun _ z => z.2.elim
    | ret u =>
      obtain ⟨v, _, H2, J2, rv, q⟩ := ends
      exact ⟨v, H2, J2.os, J2.bare, J2.base, J2.hok, rv, q⟩
    | next =>
      obtain ⟨_, H2, J2, q⟩ := ends
      exact ⟨V.non, H2, J2.os, J2.bare, J2.base, J2.hok, rfl, q⟩
/-- the call of a law's def, behind the top -/
theorem called {P : Program} {w : World} {K : PySem.W.Frag} {mg mb : Str → Option Value} {k : Nat} {fa a : Addr} {fd : FuncData} {x : Str} {sp : Sp} {s : Shared} {vs : List Value} {ns : List Int}
    (inK : K.In s.heap) (gl : s.heap.Ns mainGlobals mg) (bl : s.heap.Ns builtinsNs mb) (blb : ∀ y : Str, y ≠ "__name__" → mb y = bootBuiltins y) (lim : s.heap.NoLimit) (gens : s.gens = #[])
    (at_a : s.heap.get? a = some { cls := .type "list", data := .seq vs.toArray }) (nums : IntsAre vs ns) (short : ns.length ≤ sizeLine) (room : Room k callerA)
    (F : ∀ base : Heap, K.In base → base.Ns mainGlobals mg → (∀ b o, s.heap.get? b = some o → o.cls ≠ .type "list" → base.get? b = some o) → FnG P w K mg base k fa fd [x] sp) (binds : ∀ (s : Shared) (u : Value), BindsTo s fd ⟨[u], []⟩ [(x, u)])
    (promise : ∀ H : Hp, SqL K H a (ns.map V.int) → sp [.ref a] H (fun v _ => v = .bl true) fun _ _ _ => False) :
    codeAny (model P w) callerA (.call (.ref fa) ⟨[.ref a], []⟩) (fun r s' => r = .ok (.ret (.bool true)) ∧ OldK s.heap s'.heap ∧ s'.os = s.os ∧ AllBare s'.gens) s := by
  have lenV := nums.length
  have vals := vals_ints nums
  -- what is tracked: the script, unless it is written
  obtain ⟨H, only, seq, ok, fresh⟩ : ∃ H : Hp, (∀ b, H b = none ∨ (b = a ∧ H b = some (.frz { cls := .type "list", data := .seq vs.toArray } (.lst (ns.map V.int))))) ∧ SqL K H a (ns.map V.int) ∧ HOk P w H s.heap ∧ (H a ≠ none → K.lookup a = none) := by
    cases hk : K.lookup a with
    | some o =>
      have e := inK a o hk
      rw [at_a] at e
      cases e
      exact ⟨fun _ => none, fun _ => .inl rfl, .inr ⟨_, vs.toArray, _, hk, rfl, rfl, rfl, by rw [List.size_toArray, lenV]; exact short, by simpa using vals⟩, fun _ _ z => (nomatch z), fun z => absurd rfl z⟩
    | none =>
      have tracked : ∀ b, (if b = a then some (HO.frz { cls := .type "list", data := .seq vs.toArray } (.lst (ns.map V.int))) else none) = none ∨ (b = a ∧ (if b = a then some (HO.frz { cls := .type "list", data := .seq vs.toArray } (.lst (ns.map V.int))) else none) = some (.frz { cls := .type "list", data := .seq vs.toArray } (.lst (ns.map V.int)))) := fun b => by
        by_cases e : b = a
        · exact .inr ⟨e, if_pos e⟩
        · exact .inl (if_neg e)
      refine ⟨fun b => if b = a then some (.frz { cls := .type "list", data := .seq vs.toArray } (.lst (ns.map V.int))) else none, tracked, .inl (.inr ⟨_, if_pos rfl⟩), fun b u z => ?_, fun _ => rfl⟩
      rcases tracked b with q | ⟨e, q⟩
      · have y := q.symm.trans z
        cases y
      · have y := q.symm.trans z
        cases y
        subst e
        exact ⟨at_a, by rw [List.length_map]; exact short, vs, _, vals, at_a⟩
  have dicts : ∀ {b : Addr} {o : Obj} {es : Array DictEntry} {ep : Nat}, s.heap.get? b = some o → o.data = .dict es ep → H b = none := fun {b o es ep} e d => by
    rcases only b with z | ⟨rfl, _⟩
    · exact z
    · rw [at_a] at e
      cases e
      exact absurd d (by intro z; cases z)
  have low : ∀ {b : Addr} {m : Str → Option Value}, s.heap.Ns b m → (hidT s.heap H).Ns b m := by
    rintro b m ⟨o, es, ep, e, d, r⟩
    exact ⟨o, es, ep, hidT_get e (dicts e d), d, r⟩
  have lowK : K.In (hidT s.heap H) := fun b o e => hidT_get (inK b o e) (by
    rcases only b with z | ⟨rfl, z⟩
    · exact z
    · have y := fresh (by rw [z]; intro q; cases q)
      rw [e] at y
      cases y)
  have others : ∀ b o, s.heap.get? b = some o → o.cls ≠ .type "list" → (hidT s.heap H).get? b = some o := fun b o e n => hidT_get e (by
    rcases only b with z | ⟨rfl, z⟩
    · exact z
    · rw [at_a] at e
      cases e
      exact absurd rfl n)
  have limL : (hidT s.heap H).NoLimit := by
    obtain ⟨mc, h1, h2⟩ := lim
    exact ⟨mc, low h1, h2⟩
  have e0 : Env0 P w K mg (hidT s.heap H) callerA [] s H :=
    ⟨rfl, ⟨lowK, low gl, ⟨mb, low bl, blb⟩, limL⟩, fun b o e => of_hidT e, Nat.le_of_eq (hidT_size _ _), trivial, fun b hb => (by cases hb), ok, .of_eq gens⟩
  have run := (F _ lowK (low gl) others).run callerA [] s H ⟨[.ref a], []⟩ [.ref a] [.ref a] (fun v _ => v = .bl true) (fun _ _ _ => False) rfl room e0 (binds s (.ref a)) (.cons rfl .nil) (promise H seq)
  refine codeAny_mono run fun r s' q => ?_
  cases r with
  | error e => exact q.elim
  | ok fl =>
    cases fl with
    | next => exact q.elim
    | brk => exact q.elim
    | cont => exact q.elim
    | ret u =>
      obtain ⟨v, H2, os, bare, un, ok2, rv, ev⟩ := q
      have ev' : v = .bl true := ev
      subst ev'
      have eu : u = Value.bool true := rv
      subst eu
      refine ⟨rfl, OldK.of_keep fun b o e => ?_, os, bare⟩
      rcases only b with z | ⟨rfl, z⟩
      · exact un.keep b o e z (by intro q; cases q) (by intro q; cases q)
      · have z2 := un.frzs _ _ _ z
        have y1 := (ok _ _ z).1
        have y2 := (ok2 _ _ z2).1
        rw [e] at y1
        cases y1
        exact y2
/-- the goal that the head leaves -/
theorem walkG {l : PySem.W.OpenLaw} {n k : Nat} {q : Program} {loose : List Str} {XP : (Str → Option Value) → Heap → Prop} {YP : World → Heap → Prop} {d : DefRec} {K : Params → PySem.W.Frag} {sp : World → Sp} {x : Str}
    (hn : l.most = some n) (hn2 : n ≤ sizeLine) (hdf : d.params.defaults = []) (room : Room k callerA) (hY : ∀ (w : World) (h : Heap), YP w h → (K w.params).In h)
    (F : ∀ (w : World) (mg : Str → Option Value) (fa : Addr) (h : Heap), (K w.params).In h → h.Ns mainGlobals mg → mg d.name = some (.ref fa) →
      ∃ fd : FuncData, (∀ (s : Shared) (u : Value), BindsTo s fd ⟨[u], []⟩ [(x, u)]) ∧ ∀ base : Heap, (K w.params).In base → base.Ns mainGlobals mg → FnG l.prog w (K w.params) mg base k fa fd [x] (sp w))
    (promise : ∀ (w : World) (H : Hp) (a : Addr) (ns : List Int), ns.length ≤ n → SqL (K w.params) H a (ns.map V.int) → sp w [.ref a] H (fun v _ => v = .bl true) fun _ _ _ => False) :
    PySem.W.WalkO q loose XP YP l.row.toRowW d [] (fun f vs => PySem.call f vs) := by
  refine Att.attach_call hn hdf ?_
  intro w s₀ s₁ mg mb fa o pm cd doc a vs ns G Y _ _ _ named obj nums len gens
  have inK := hY w _ Y
  obtain ⟨fd, binds, hF⟩ := F w mg fa _ inK G.T.g named
  exact called inK G.T.g G.T.b G.T.builtins G.T.nolimit gens obj nums (Nat.le_trans len hn2) room (fun base kb nb _ => hF base kb nb) binds fun H seq => promise w H a ns len seq
/-! ### repr -/
def rRepr (K : PySem.W.Frag) : List V → Hp → VK → Prop := fun xs H Q => ∃ (a : Addr) (p : PyData), xs = [.ref a] ∧ Dp K H (.ref a) p ∧ p.showable = true ∧ p.hasDict = false ∧ p.depth ≤ 10 ∧ p.shown.length ≤ sizeLine ∧ Q (.str p.shown) H
theorem call_repr {X : Cx} (hg : X.A.guards = some []) (hu : X.A.units + 64 < cLine) : CallR X (.builtin "repr") (rRepr X.K) := by
  intro pins s σ H xs us Q I r h
  obtain ⟨a, p, rfl, hd, h1, h2, h3, h4, q⟩ := h
  obtain ⟨u, rfl, rx⟩ := vals1 r
  obtain ⟨as, rd⟩ := Dp.reads I p _ _ hd rx
  cases (show u = Value.ref a from rx)
  refine repr_of_reads' rd h1 (fun z => by rw [h2] at z; cases z) hg (by omega) (fun _ _ e => e) (fun h' t tk keep => ?_) h4
  exact ⟨.str p.shown, H, I.kept (t' := tk) keep, ⟨t, rfl⟩, q⟩
section
variable {K : PySem.W.Frag} {os : Os} {Q : Sv → Os → Prop}
theorem cw_reprL {xs : List D} {ps : List PyData} (e : D.pys xs = some ps) (h1 : (PyData.list ps).showable = true) (h2 : (PyData.list ps).hasDict = false) (h3 : (PyData.list ps).depth ≤ 10) (h4 : (PyData.list ps).shown.length ≤ sizeLine) (q : Q (.d (.str (PyData.list ps).shown)) os) : CW K (rRepr K) [.d (.lst xs)] os Q :=
  cw_pure (fun as H vs Q' R r k => by
    cases r with
    | cons h t =>
      cases t
      have dp := Dx.dp (p := .list ps) h (by show (D.pys xs).map PyData.list = _; rw [e]; rfl)
      cases h with
      | @lst a vs _ hl hr => exact ⟨a, _, rfl, dp, h1, h2, h3, h4, k _ (.str _)⟩) q
theorem cw_reprU {xs : List D} {ps : List PyData} (e : D.pys xs = some ps) (h1 : (PyData.tuple ps).showable = true) (h2 : (PyData.tuple ps).hasDict = false) (h3 : (PyData.tuple ps).depth ≤ 10) (h4 : (PyData.tuple ps).shown.length ≤ sizeLine) (q : Q (.d (.str (PyData.tuple ps).shown)) os) : CW K (rRepr K) [.d (.tup xs)] os Q :=
  cw_pure (fun as H vs Q' R r k => by
    cases r with
    | cons h t =>
      cases t
      have dp := Dx.dp (p := .tuple ps) h (by show (D.pys xs).map PyData.tuple = _; rw [e]; rfl)
      cases h with
      | @tup a vs _ hl hr => exact ⟨a, _, rfl, dp, h1, h2, h3, h4, k _ (.str _)⟩) q
end
end Br

/-! BrF: a byte in two signs; a tuple's slices. -/
namespace PySem.W
open Lean Elab Tactic Meta PySem PySem.Calls PyProof.Rows
open Builtin Builtin.Str Builtin.Int Builtin.Float
def br_two (n : Nat) : PySem.Str := ⟨#[("0123456789abcdef" : PySem.Str).cps.getD (n / 16) 0, ("0123456789abcdef" : PySem.Str).cps.getD (n % 16) 0]⟩
theorem br_fmt02 {a : Int} {t : Tok} {n : Nat} (ha : a = (n : Int)) (hn : n < 256) : ∀ u, Meets («int.__format__» ⟨[.int a t, .str ⟨#[48, 50, 120]⟩ u], []⟩) (fun _ R s => ∀ t' k, R (.ok (.ret (.str (br_two n) t'))) { s with toks := k }) := by
  intro _
  apply KPc.meets_of
  intro _ _ _ _ _ _ _
  unfold Builtin.«int.__format__»
  refine wpAny_bind (wpAny_of_eq (a := (_, _)) rfl ?_)
  refine wpAny_bind (wpAny_of_eq (a := _) rfl ?_)
  kxf_if
  refine wpAny_bind (wpAny_typeNameOf (T := "str") (typeIs_str _ _ _) (by decide) fun _ => ?_)
  refine wpAny_bind (wpAny_of_eq (a := some _) rfl ?_)
  kxf_if
  kxf_if
  refine wpAny_bind (wpAny_typeNameOfCut_int ?_)
  (repeat kxf_if)
  subst ha
  refine KXf.ret_text (T := br_two n) ?_ ?_ (by assumption)
  · rename_i h _
    clear h
    revert hn
    revert n
    decide +kernel
  · rename_i h _
    clear h
    refine Nat.le_trans (m := 100) ?_ (by rw [sizeLine_eq]; decide)
    revert hn
    revert n
    decide +kernel
end PySem.W

namespace Br
open PySem PySem.Spec PyProof.Rows L2
/-- f'{x:02x}' of a byte -/
def tFmt2 (te : TE) : TE := fun σ H Q => te σ H fun x H1 => ∃ n : Nat, x = .int (n : Int) ∧ n < 256 ∧ Q (.str (PySem.W.br_two n)) H1
theorem pe_fmt02x {X : Cx} {e : Expr} {te : TE} {pos p1 p2 : Pos} {k : Nat} (he : PE X e te) : PE X (.FormattedValue e (-1) (some (.JoinedStr [.Constant (.str "02x") k p1] p2)) pos) (tFmt2 te) := by
  refine ⟨fun pins s σ H Q I h => ?_⟩
  have hs : PE X (.JoinedStr [.Constant (.str "02x") k p1] p2) (tC (.str "02x")) := pe_joined1 pe_str
  refine wpAny_FormattedValue_spec (thn (he.run pins s σ H _ I h) fun v s1 ⟨x, H1, I1, r1, n, ex, hn, q⟩ => ?_)
  subst ex
  obtain ⟨t, rfl⟩ := r1
  refine thn (hs.run pins s1 σ H1 (fun y H2 => y = .str "02x" ∧ H2 = H1) I1 ⟨rfl, rfl⟩) fun r s2 ⟨y, H2, I2, r2, ey, e2⟩ => ?_
  subst ey e2
  obtain ⟨t2, rfl⟩ := r2
  refine ⟨_, t2, rfl, PySem.W.KXf.field_int (spec' := ⟨#[48, 50, 120]⟩) (by decide +kernel) (by decide) (by rw [sizeLine_eq]; decide) (PySem.W.br_fmt02 rfl hn) fun t' k => ?_⟩
  exact ⟨.str _, _, I2.tok _, ⟨t', rfl⟩, q⟩
section
variable {K : PySem.W.Frag} {X : Xc} {S : Sa} {Q : Sv → Os → Prop} {te : TE}
theorem ew_fmt2 (h : EW K X te S fun x os => ∃ n : Nat, x = .d (.int (n : Int)) ∧ n < 256 ∧ Q (.d (.str (PySem.W.br_two n))) os) : EW K X (tFmt2 te) S Q := fun as H σ Q' R x k =>
  h as H σ _ R x fun v H1 d os1 g1 R1 r1 ⟨n, ed, hn, q⟩ => by
    subst ed
    cases r1
    exact ⟨n, rfl, hn, k _ H1 (.d (.str _)) os1 g1 R1 (Dx.str _) q⟩
theorem cutD_all {xs : List D} {lo hi : Option Int} (h : HT.sIx xs.length 0 lo = 0 ∧ HT.sIx xs.length xs.length hi = xs.length) : cutD xs lo hi = xs := by
  unfold cutD
  rw [h.1, h.2]
  simp
theorem sw_T {xs : List D} {lo hi : Option Int} {os : Os} (q : Q (.d (.tup (cutD xs lo hi))) os) : SW K (rSlA K) (.d (.tup xs)) lo hi os Q := fun as H v Q' R r k => by
  cases r with
  | @tup a vs _ hl hr =>
    refine ⟨a, vs, rfl, hl.sq, fun h => ?_, fun h p hp => k _ _ (.d (.tup _)) os (Go.new hp) (R.new hp) (dx_newT R hp (cut_dx hr lo hi)) q⟩
    rw [hr.length] at h
    rw [cutD_all h] at q
    exact k _ H (.d (.tup xs)) os (Go.refl _ _) R (.tup hl hr) q
end
/-! within a comprehension, where the context's own K isn't to be named -/
def tJn (K : PySem.W.Frag) (to te : TE) : TE := tM1 (fun x xs H Q => ∃ a p, ∃ ys : List Str, x = .str a ∧ xs = [.ref p] ∧ (SqL K H p (ys.map V.str) ∨ SqT K H p (ys.map V.str)) ∧ (ys.map (·.length)).sum + ys.length * a.length ≤ 16777216 ∧ Q (.str (Txt.join a ys)) H) to te
theorem pe_joinK {X : Cx} {K : PySem.W.Frag} (hK : X.K = K) {o e : Expr} {to te : TE} {apos pos : Pos} (ho : PE X o to) (he : PE X e te) (hs : starEach [e] X.env = [(false, eval e X.env)] := by rfl) (hbase : attributeBase o "join" X.env (eval o X.env) = eval o X.env := by rfl) (hline : (apos.endLine == pos.line) = true := by rfl) :
    PE X (.Call (.Attribute o "join" apos) [e] [] pos) (tJn K to te) := by
  subst hK
  exact pe_join ho he hs hbase hline
theorem pi_tupK {X : Cx} {K : PySem.W.Frag} (hK : X.K = K) {tg l : Expr} {tl : TE} (hl : PE X l tl) : PI X tg l (iTup K tl) := by
  subst hK
  exact pi_tup hl
section
variable {K : PySem.W.Frag} {X : Xc} {S : Sa} {Q : Sv → Os → Prop} {te to : TE}
theorem ew_joinK (h : EW K X to S fun x os => ∃ a : Str, x = .d (.str a) ∧ EW K X te ⟨S.s, os⟩ fun y os2 => ∃ ys : List Str, y = .d (.lst (ys.map D.str)) ∧ (ys.map (·.length)).sum + ys.length * a.length ≤ 16777216 ∧ Q (.d (.str (Txt.join a ys))) os2) : EW K X (tJn K to te) S Q := ew_join h
end
end Br

/-! BrP: more of the interpreter's own: lists put together, compared with empty ones, truths reckoned with, dict.update, t[::-1], repr of any data. -/
namespace Br
open PySem PySem.Spec PyProof.Rows L2
section
variable {X : Cx}
/-! ### list + list -/
def rCatL (K : PySem.W.Frag) : R2 := fun x y H Q => ∃ l b xs zs, x = .ref l ∧ y = .ref b ∧ SqL K H l xs ∧ SqL K H b zs ∧ xs.length + zs.length ≤ sizeLine ∧ ∀ p, H p = none → Q (.ref p) (upd H p (.lst (xs ++ zs)))
theorem isl_of {h : Heap} {l : Addr} {its : Array Value} (p : h.IsList l its) : ∃ o n, h.get? l = some o ∧ o.cls = .type "list" ∧ o.data = .seq its n := by
  obtain ⟨o, e, c, n, d⟩ := p
  exact ⟨o, n, e, c, d⟩
theorem op_catL : OpR X (binaryOp .Add) (rCatL X.K) := by
  intro pins s σ H x y v u Q I rx ry h
  obtain ⟨l, b, xs, zs, rfl, rfl, hl, hb, hz, q⟩ := h
  cases rx
  cases ry
  obtain ⟨its, r, p1, z1⟩ := I.list hl
  obtain ⟨its2, r2, p2, z2⟩ := I.list hb
  have l1 := r.length
  have l2 := r2.length
  obtain ⟨⟨cls, dd, data, sl⟩, ho, hc, n, hd⟩ := id p1.isList
  obtain ⟨⟨cls2, dd2, data2, sl2⟩, ho2, hc2, n2, hd2⟩ := id p2.isList
  simp only at hc hd hc2 hd2
  subst hc hd hc2 hd2
  have e : its.toArray ++ its2.toArray = (its ++ its2).toArray := by simp
  refine concat_meets ⟨_, ho, rfl⟩ ⟨_, ho2, rfl⟩ noFill_list_add seq_list_add PySem.F.slot_list_add PySem.F.entry_list_add (PySem.F.args_list_add_2 _ _) (list_addW l b its.toArray its2.toArray n n2 dd dd2 sl sl2 (by rw [List.size_toArray, List.size_toArray]; omega)) ⟨ho, ho2, ?_⟩
  rw [e]
  exact ⟨.ref _, _, I.lnew (t' := s.toks) (r.append r2) (by rw [List.length_append]; omega), rfl, q _ I.fresh⟩
/-! ### [..] == [], (..) != () -/
def rEqNilL (K : PySem.W.Frag) : R2 := fun x y H Q => ∃ l b xs, x = .ref l ∧ y = .ref b ∧ SqL K H l xs ∧ SqL K H b [] ∧ Q (.bl xs.isEmpty) H
theorem op_eqNilL (hu : X.A.units + 64 < cLine) : OpR X (compareOp .Eq) (rEqNilL X.K) := by
  intro pins s σ H x y v u Q I rx ry h
  obtain ⟨l, b, xs, rfl, rfl, hl, hb, q⟩ := h
  cases rx
  cases ry
  obtain ⟨its, r, p1, z1⟩ := I.list hl
  obtain ⟨its2, r2, p2, z2⟩ := I.list hb
  have e2 : its2 = [] := by cases r2; rfl
  subst e2
  cases xs with
  | nil =>
    have e1 : its = [] := by cases r; rfl
    subst e1
    exact PySem.EqBoolInt.of_rc (SeqAt.RcAt.lists (e := fun _ => true) p1.isList p2.isList rfl (by omega) fun j h1 h2 => absurd h1 (by simp)) ⟨.bl true, H, I, rfl, q⟩
  | cons x xs =>
    have hl1 := r.length
    exact PySem.EqBoolInt.of_rc (SeqAt.RcAt.lists_lengths p1.isList p2.isList (by rw [List.size_toArray, ← hl1]; rfl) (by omega)) ⟨.bl false, H, I, rfl, q⟩
def rNeNilT (K : PySem.W.Frag) : R2 := fun x y H Q => ∃ l b xs, x = .ref l ∧ y = .ref b ∧ SqT K H l xs ∧ SqT K H b [] ∧ Q (.bl (!xs.isEmpty)) H
theorem op_neNilT (hu : X.A.units + 64 < cLine) : OpR X (compareOp .NotEq) (rNeNilT X.K) := by
  intro pins s σ H x y v u Q I rx ry h
  obtain ⟨l, b, xs, rfl, rfl, hl, hb, q⟩ := h
  cases rx
  cases ry
  obtain ⟨its, r, p1, z1⟩ := I.tuple hl
  obtain ⟨its2, r2, p2, z2⟩ := I.tuple hb
  have e2 : its2 = [] := by cases r2; rfl
  subst e2
  have hl1 := r.length
  refine PySem.EqBoolInt.of_rcne (k := !xs.isEmpty) ?_ ⟨.bl _, H, I, rfl, q⟩
  have z := SeqAt.RcNeAt.tuples (A := X.A) (e := fun _ => true) p1 p2 (by omega) fun j h1 h2 => absurd h2 (by simp)
  have e : (!((List.range (min its.toArray.size ([] : List Value).toArray.size)).all (fun _ => true) && its.toArray.size == ([] : List Value).toArray.size)) = !xs.isEmpty := by
    rw [List.size_toArray, ← hl1]
    cases xs <;> simp
  rw [e] at z
  exact z
/-! ### truths among numbers -/
def b2I (b : Bool) : Int := if b = true then 1 else 0
theorem op_add_bi : OpR X (binaryOp .Add) (fun x y H Q => ∃ b j, x = .bl b ∧ y = .int j ∧ Q (.int (b2I b + j)) H) := by
  intro pins s σ H x y v u Q I rx ry h
  obtain ⟨b, j, rfl, rfl, q⟩ := h
  cases rx
  obtain ⟨t, rfl⟩ := ry
  exact PySem.IntBool.add_bool_int ⟨.int _, H, I.tok _, ⟨_, rfl⟩, q⟩
theorem op_sub_bi : OpR X (binaryOp .Sub) (fun x y H Q => ∃ b j, x = .bl b ∧ y = .int j ∧ Q (.int (b2I b - j)) H) := by
  intro pins s σ H x y v u Q I rx ry h
  obtain ⟨b, j, rfl, rfl, q⟩ := h
  cases rx
  obtain ⟨t, rfl⟩ := ry
  exact PySem.IntBool.sub_bool_int ⟨.int _, H, I.tok _, ⟨_, rfl⟩, q⟩
theorem op_sub_ib : OpR X (binaryOp .Sub) (fun x y H Q => ∃ i b, x = .int i ∧ y = .bl b ∧ Q (.int (i - b2I b)) H) := by
  intro pins s σ H x y v u Q I rx ry h
  obtain ⟨i, b, rfl, rfl, q⟩ := h
  obtain ⟨t, rfl⟩ := rx
  cases ry
  exact PySem.IntBool.sub_int_bool ⟨.int _, H, I.tok _, ⟨_, rfl⟩, q⟩
theorem op_eq_bi : OpR X (compareOp .Eq) (fun x y H Q => ∃ b j, x = .bl b ∧ y = .int j ∧ Q (.bl (b2I b == j)) H) := by
  intro pins s σ H x y v u Q I rx ry h
  obtain ⟨b, j, rfl, rfl, q⟩ := h
  cases rx
  obtain ⟨t, rfl⟩ := ry
  exact PySem.EqBoolInt.eq_bool_int ⟨.bl _, H, I, rfl, q⟩
theorem call_str_bool : CallR X (.type "str") (fun xs H Q => ∃ b : Bool, xs = [.bl b] ∧ Q (.str (if b then "True" else "False")) H) := by
  intro pins s σ H xs us Q I r h
  obtain ⟨b, rfl, q⟩ := h
  obtain ⟨u, rfl, rx⟩ := vals1 r
  cases rx
  exact PySem.P.str_of_bool ⟨.str _, H, I.tok _, ⟨_, rfl⟩, q⟩
/-! ### dict.update -/
def rUpd : V → List V → Hp → VK → Prop := fun x vs H Q => ∃ (a b : Addr) (kvs more : List (Key × V)), x = .ref a ∧ vs = [.ref b] ∧ a ≠ b ∧ H a = some (.dK kvs) ∧ Rd H b (.dK more) ∧ kvs.length + more.length ≤ sizeLine ∧ Q .non (upd H a (.dK (mergeK kvs more)))
theorem mt_update : MtR X "dict.update" rUpd := by
  intro pins s σ H x vs v us Q I rx rv h
  obtain ⟨a, b, kvs, more, rfl, rfl, hne, e, eb, hl, q⟩ := h
  obtain rfl : v = Value.ref a := rx
  obtain ⟨u, rfl, ru⟩ := vals1 rv
  cases (show u = Value.ref b from ru)
  obtain ⟨z, hd, vs, rel, dd⟩ := dk_of I.hok e
  obtain ⟨z2, hd2, ws, rel2, dd2⟩ := dk_rd I.hok eb
  refine call_meetsIn PySem.F.slot_dict_update dd.typeIs PySem.F.entry_dict_update (PySem.F.args_dict_update_2 _ _) (meets_dict_update (mixKind X.prog X.w) a b hne hd2) ⟨vs, ws, dd, dd2, by rw [← rel.length, ← rel2.length]; exact hl, fun h' dd' _ hs => ?_⟩
  have he : ∃ q, h'.get? a = some q := let ⟨q, _, _, hq, _⟩ := dd'; ⟨q, hq⟩
  have hlen : (mergeK kvs more).length ≤ sizeLine := Nat.le_trans (length_mergeK more kvs) hl
  exact ⟨.non, _, d_write (t' := s.toks) I (by rw [e]; exact True.intro) hs he (dk_new hlen hd (KV.merge rel2 rel) dd'), rfl, q⟩
/-! ### T[e], T a written dict -/
theorem pe_opD {o i : Expr} {v : V} {ty : TE} {r : R2} {pos : Pos} (hr : OpR X getItem r) (hty : ∀ (pins : List (Addr × Obj)) (σ : L2.St) (H : Hp) (s : Shared) (u : Value), Inv X pins σ H s → RelV v u → s.TypeIs u "dict") (ho : PE X o (tC v)) (hi : PE X i ty) (hs : NoSl i) : PE X (.Subscript o i pos) (tOp r (tC v) ty) := by
  refine ⟨fun pins s σ H Q I h => ?_⟩
  refine subD_of PySem.F.slot_dict_getitem.lookup hs (thn (ho.run pins s σ H (fun x H1 => x = v ∧ H1 = H) I ⟨rfl, rfl⟩) fun u s1 ⟨x, H1, I1, rx, e1, e2⟩ => ?_)
  subst e1
  subst e2
  exact thn (hi.run pins s1 σ H1 _ I1 h) fun iv s2 ⟨y, H2, I2, ry, q2⟩ => ⟨hty pins σ H2 s2 u I2 rx, hr pins s2 σ H2 x y u iv Q I2 rx ry q2⟩
theorem ty_kd {d : Addr} {es : Array DictEntry} {n : Nat} (D : KDict X.K X.w d es n) : ∀ (pins : List (Addr × Obj)) (σ : L2.St) (H : Hp) (s : Shared) (u : Value), Inv X pins σ H s → RelV (.ref d) u → s.TypeIs u "dict" := fun pins σ H s u I r => by
  cases (show u = Value.ref d from r)
  exact kd_type D I
theorem ty_nd {d : Addr} {tb : List (Option Str × D)} (N : NDict X.K X.w d tb) : ∀ (pins : List (Addr × Obj)) (σ : L2.St) (H : Hp) (s : Shared) (u : Value), Inv X pins σ H s → RelV (.ref d) u → s.TypeIs u "dict" := fun pins σ H s u I r => by
  cases (show u = Value.ref d from r)
  obtain ⟨es, n, hl, hk, ho⟩ := N.ex
  exact (mapN (prog := X.prog) (w := X.w) I.kIn hl hk).typeIs
/-! ### zip, K told -/
theorem pi_zipMK {K : PySem.W.Frag} (hK : X.K = K) {e e2 : Expr} {ta : TA} {p pos tpos : Pos} {elts : List Expr} {kk : Nat} (h : PI X (.Tuple elts kk tpos) (.Call (.Name "zip" p) [e, e2] [] pos) (iZipM X.K ta)) : PI X (.Tuple elts kk tpos) (.Call (.Name "zip" p) [e, e2] [] pos) (iZipM K ta) := hK ▸ h
end
/-! ### t[::-1] of a tuple -/
section
variable {prog : Program} {w : World} {A : Around} {E : Value → Shared → Prop} {s : Shared}
theorem places_rev (n : Nat) : Builtin.Slice.slicePlaces ((n : Int) - 1) (-1) (-1) = n := by
  unfold Builtin.Slice.slicePlaces
  by_cases h : n = 0
  · subst h
    decide
  · have h1 : ¬ ((-1 : Int) > 0) := by decide
    have h2 : (n : Int) - 1 > -1 := by omega
    rw [if_neg h1, if_pos h2]
    have h3 : ((n : Int) - 1 - -1 - 1) / (- -1) + 1 = (n : Int) := by
      have : (- -1 : Int) = 1 := by decide
      rw [this, Int.ediv_one]
      omega
    rw [h3]
    rfl
theorem sliceApplied_rev {sl : Addr} {vs : Value} {n : Nat} {Q : Int × Int × Nat → Shared → Prop} (hs : s.heap.IsSliceOf sl .none .none vs) (ps : IsPart vs (some (-1)))
    (h : Q ((n : Int) - 1, -1, n) s) : wpAny (model prog w) A (Builtin.Slice.sliceApplied (.ref sl) (pure (n : Int))) Q E s := by
  obtain ⟨os, hos, hcs, hds⟩ := id hs
  unfold Builtin.Slice.sliceApplied Builtin.Slice.sliceFields
  refine wpAny_bind (wpAny_bind (wpAny_field hos hds (x := .none) rfl (wpAny_bind (wpAny_field hos hds (x := .none) rfl (wpAny_bind (wpAny_field hos hds (x := vs) rfl (wpAny_pure ?_)))))))
  refine wpAny_bind (HT.slicePart_ ps ?_)
  show wpAny _ _ (if ((-1 : Int) == 0) = true then _ else _) _ _ s
  rw [if_neg (by decide)]
  refine wpAny_bind (HT.slicePart_ .none (wpAny_bind (HT.slicePart_ .none (wpAny_bind (wpAny_pure ?_)))))
  show wpAny _ _ (match Builtin.Slice.sliceAdjust none none (-1) (n : Int) with | (lo, hi) => pure (lo, (-1 : Int), Builtin.Slice.slicePlaces lo hi (-1))) _ _ s
  show wpAny _ _ (pure ((n : Int) - 1, (-1 : Int), Builtin.Slice.slicePlaces ((n : Int) - 1) (-1) (-1))) _ _ s
  rw [places_rev]
  exact wpAny_pure h
theorem range_all {α : Type} (l : List α) : (List.range l.length).filterMap (l[·]?) = l := by
  induction l with
  | nil => rfl
  | cons x l ih =>
    rw [List.length_cons, List.range_succ_eq_map, List.filterMap_cons]
    simp only [List.getElem?_cons_zero]
    rw [List.filterMap_map]
    congr 1
theorem fm_congr {α β : Type} {f g : α → Option β} : ∀ {l : List α}, (∀ a ∈ l, f a = g a) → l.filterMap f = l.filterMap g
  | [], _ => rfl
  | a :: l, h => by
    rw [List.filterMap_cons, List.filterMap_cons, h a List.mem_cons_self, fm_congr fun b hb => h b (List.mem_cons_of_mem _ hb)]
theorem pick_rev (xs : Array Value) : ((List.range xs.size).filterMap fun (m : Nat) => xs[(((xs.size : Int) - 1) + (m : Int) * -1).toNat]?).toArray = xs.toList.reverse.toArray := by
  congr 1
  have h : ∀ m ∈ List.range xs.size, xs[(((xs.size : Int) - 1) + (m : Int) * -1).toNat]? = xs.toList.reverse[m]? := fun m hm => by
    have hm' : m < xs.size := List.mem_range.mp hm
    rw [List.getElem?_reverse (by simpa using hm'), Array.getElem?_toList]
    congr 1
    rw [Array.length_toList]
    omega
  rw [fm_congr h]
  have e : xs.size = xs.toList.reverse.length := by simp
  rw [e]
  exact range_all _
theorem getItem_tuple_rev {t sl : Addr} {items : Array Value} {vs : Value} {Q : Value → Shared → Prop} (ht : IsTup s.heap t items) (hs : s.heap.IsSliceOf sl .none .none vs) (ps : IsPart vs (some (-1)))
    (h : Q (.ref s.heap.objs.size) { s with heap := s.heap.push { cls := .type "tuple", data := .seq items.toList.reverse.toArray } })
    (hsz : items.size ≤ sizeLine) : wpAny (model prog w) A (getItem (.ref t) (.ref sl)) Q E s := by
  have htake : sizeOk (.seq items.toList.reverse.toArray) := by
    show items.toList.reverse.toArray.size ≤ sizeLine
    rw [List.size_toArray, List.length_reverse, Array.length_toList]
    exact hsz
  obtain ⟨os, hos, hcs, hds⟩ := id hs
  have hTs : s.TypeIs (.ref sl) "slice" := ⟨os, hos, hcs⟩
  unfold getItem
  try with_reducible refine wpAny_holding ?_
  first | refine wpAny_bind (wpAny_pure ?_) | skip
  refine wpAny_bind (wpAny_sequenceKey ht.typeIs (by decide) ?_)
  refine wpAny_bind (wpAny_callSpecial?_slot (name := Str.ofString "__getitem__") ht.typeIs PyProof.Rows.slot_tuple_getitem
    (wpAny_call_entry PyProof.Rows.slot_tuple_getitem ht.typeIs entry_tuple_getitem ?_ (args_tuple_getitem _ _)))
  show wpAny _ _ (Builtin.Tuple.tupleItemsOf (.ref t) >>= _) _ _ s
  refine wpAny_bind (tupleItemsOf_ ht ?_)
  refine wpAny_bind (wpAny_typeOf hTs ?_)
  rw [if_pos (by decide)]
  refine wpAny_bind (sliceApplied_rev hs ps ?_)
  have hno : ¬ ((((items.size : Int) - 1) == 0 && (-1 : Int) == 1 && items.size == items.size) = true) := by
    intro q
    rw [Bool.and_eq_true, Bool.and_eq_true] at q
    exact absurd q.1.2 (by decide)
  show wpAny _ _ (if (((items.size : Int) - 1) == 0 && (-1 : Int) == 1 && items.size == items.size) = true then _ else _) _ _ s
  rw [if_neg hno, pick_rev]
  first
    | exact wpAny_bind (m := Builtin.Tuple.tupleExact _) (wpAny_newObj_type (wpAny_pure ⟨_, rfl, wpAny_pure h⟩) htake)
    | exact wpAny_bind (m := Builtin.Tuple.tupleExact _) (wpAny_newObj_type (wpAny_bind (wpAny_pure (wpAny_pure ⟨_, rfl, wpAny_pure h⟩))) htake)
    | exact wpAny_bind (wpAny_bind (m := Builtin.Tuple.tupleExact _) (wpAny_newObj_type (wpAny_pure (wpAny_pure ⟨_, rfl, wpAny_pure h⟩)) htake))
    | exact wpAny_bind (wpAny_bind (m := Builtin.Tuple.tupleExact _) (wpAny_newObj_type (wpAny_pure ⟨_, rfl, wpAny_pure h⟩) htake))
end
def tRevT (K : PySem.W.Frag) (te : TE) : TE := fun σ H Q => te σ H fun x H1 => ∃ a xs, x = .ref a ∧ SqT K H1 a xs ∧ ∀ p, H1 p = none → Q (.ref p) (upd H1 p (.tup xs.reverse))
theorem pe_revT {X : Cx} {e : Expr} {te : TE} {k : Nat} {p1 p2 p3 pos : Pos} (he : PE X e te) : PE X (.Subscript e (.Slice none none (some (.UnaryOp .USub (.Constant (.int 1) k p1) p2)) p3) pos) (tRevT X.K te) := by
  refine ⟨fun pins s σ H Q I h => ?_⟩
  refine Subscript_ (thn (he.run pins s σ H _ I h) fun v s1 ⟨x, H1, I1, r1, q1⟩ => ?_)
  obtain ⟨a, xs, ex, hx, q⟩ := q1
  subst ex
  cases r1
  have hst : PO X (some (.UnaryOp .USub (.Constant (.int 1) k p1) p2)) (tPart (tUn (rU fun i => .int (-i)) (tC (.int 1)))) := po_some (pe_un un_neg pe_int)
  refine wpAny_Slice (thn (po_none.run pins s1 σ H1 (fun o H2 => o = none ∧ H2 = H1) I1 ⟨rfl, rfl⟩) fun vl s2 ⟨l, H2, I2, pl, el, e2⟩ => ?_)
  subst el e2
  refine thn (po_none.run pins s2 σ H2 (fun o H3 => o = none ∧ H3 = H2) I2 ⟨rfl, rfl⟩) fun vu s3 ⟨u, H3, I3, pu, eu, e3⟩ => ?_
  subst eu e3
  refine thn (hst.run pins s3 σ H3 (fun o H4 => o = some (-1) ∧ H4 = H3) I3 ⟨1, rfl, -1, rfl, rfl, rfl⟩) fun vs s4 ⟨o, H4, I4, ps, eo, e4⟩ => ?_
  subst eo e4
  cases pl
  cases pu
  have I5 : Inv X pins σ H4 { s4 with heap := s4.heap.push { cls := .type "slice", data := .fields #[.none, .none, vs] } } := I4.kept (t' := s4.toks) fun b ob q => Heap.get?_push_of_some _ q
  obtain ⟨its, r, ht, hz⟩ := I5.tuple hx
  have hlen := r.length
  show wpAny (model X.prog X.w) X.A (subscriptTail e (.Slice none none (some (.UnaryOp .USub (.Constant (.int 1) k p1) p2)) p3) (.ref a) (.ref s4.heap.objs.size)) (EP X pins σ Q) X.xe { s4 with heap := s4.heap.push { cls := .type "slice", data := .fields #[.none, .none, vs] } }
  refine tail_any (ops := [.ref a, .ref s4.heap.objs.size]) ht.typeIs (PyProof.Rows.slot_tuple_getitem.lookup) ?_ (by with_unfolding_all rfl)
  refine getItem_tuple_rev ht (Heap.IsSliceOf.new _ _ _ vs) ps ?_ (by rw [List.size_toArray]; omega)
  refine ⟨.ref _, _, I5.laid (t' := s4.toks) (o := .tup xs.reverse) (fun b ob q => Heap.get?_push_of_some _ q) (Nat.le_refl _) ?_, rfl, q _ (I5.hok.fresh (Nat.le_refl _))⟩
  exact ⟨by rw [List.length_reverse]; exact hz, _, r.reverse, IsTup.new _ _⟩
/-! ### a text turned about: its signs are its own -/
def tRevS2 (te : TE) : TE := fun σ H Q => te σ H fun x H1 => ∃ z : Str, x = .str z ∧ z.length ≤ sizeLine ∧ ∀ y : Str, y.length ≤ z.length → (∀ c ∈ y.cps.toList, c ∈ z.cps.toList) → Q (.str y) H1
theorem pe_revs2 {X : Cx} {e : Expr} {te : TE} {k : Nat} {p1 p2 p3 pos : Pos} (he : PE X e te) : PE X (.Subscript e (.Slice none none (some (.UnaryOp .USub (.Constant (.int 1) k p1) p2)) p3) pos) (tRevS2 te) := by
  refine ⟨fun pins s σ H Q I h => ?_⟩
  refine Subscript_ (thn (he.run pins s σ H _ I h) fun v s1 ⟨x, H1, I1, r1, q1⟩ => ?_)
  obtain ⟨z, ex, hz, q⟩ := q1
  subst ex
  obtain ⟨t, rfl⟩ := r1
  have hst : PO X (some (.UnaryOp .USub (.Constant (.int 1) k p1) p2)) (tPart (tUn (rU fun i => .int (-i)) (tC (.int 1)))) := po_some (pe_un un_neg pe_int)
  refine wpAny_Slice (thn (po_none.run pins s1 σ H1 (fun o H2 => o = none ∧ H2 = H1) I1 ⟨rfl, rfl⟩) fun vl s2 ⟨l, H2, I2, pl, el, e2⟩ => ?_)
  subst el e2
  refine thn (po_none.run pins s2 σ H2 (fun o H3 => o = none ∧ H3 = H2) I2 ⟨rfl, rfl⟩) fun vu s3 ⟨u, H3, I3, pu, eu, e3⟩ => ?_
  subst eu e3
  refine thn (hst.run pins s3 σ H3 (fun o H4 => o = some (-1) ∧ H4 = H3) I3 ⟨1, rfl, -1, rfl, rfl, rfl⟩) fun vs s4 ⟨o, H4, I4, ps, eo, e4⟩ => ?_
  subst eo e4
  obtain ⟨l, rfl, el⟩ := IsPart.raw pl
  obtain ⟨u, rfl, eu⟩ := IsPart.raw pu
  obtain ⟨st, rfl, es⟩ := IsPart.raw ps
  have I5 : Inv X pins σ H4 { s4 with heap := s4.heap.push { cls := .type "slice", data := .fields #[partValue l, partValue u, partValue st] } } := I4.kept (t' := s4.toks) fun b ob q => Heap.get?_push_of_some _ q
  show wpAny (model X.prog X.w) X.A (subscriptTail e (.Slice none none (some (.UnaryOp .USub (.Constant (.int 1) k p1) p2)) p3) (.str z t) (.ref s4.heap.objs.size)) (EP X pins σ Q) X.xe { s4 with heap := s4.heap.push { cls := .type "slice", data := .fields #[partValue l, partValue u, partValue st] } }
  refine tail_any (ops := [.ref s4.heap.objs.size, .str z t]) (typeIs_str _ _ _) PySem.F.slot_str_getitem.lookup ?_ (by with_unfolding_all rfl)
  refine wpAny_getItem_str_slice (l := l) (u := u) (st := st) (Heap.IsSliceOf.new _ _ _ _) (by rw [es]; rfl) ?_
  cases l with
  | some l => cases el
  | none =>
    cases u with
    | some u => cases eu
    | none =>
      cases st with
      | none => cases es
      | some st =>
        obtain ⟨n, tk⟩ := st
        have en : n = -1 := by
          have e : some n = some (-1) := es
          injection e
        subst en
        have hlen := step_rev_len z tk
        have hn : ¬ (((((some ((-1 : Int), tk)).map (·.1)).getD 1 == 1) && ((slicePicked z none none (some ((-1 : Int), tk))).length == z.length)) = true) := by
          have : ((((some ((-1 : Int), tk)).map (·.1)).getD 1 == 1)) = false := rfl
          rw [this]
          simp
        have e1 : Txt.sliceBy z none none (-1, tk) = ⟨((slicePicked z none none (some (-1, tk))).filterMap (z.cps[·]?)).toArray⟩ := by
          unfold Txt.sliceBy
          rw [if_neg hn]
        have e2 : sliceMade z t none none (some (-1, tk)) = Made.str (Txt.sliceBy z none none (-1, tk)) := by
          rw [e1]
          unfold sliceMade
          rw [if_neg hn]
        rw [e2]
        refine ⟨by rw [hlen]; exact hz, .str _, _, I5.tok _, ⟨_, rfl⟩, q _ (Nat.le_of_eq hlen) fun c hc => ?_⟩
        rw [e1] at hc
        obtain ⟨i, _, h2⟩ := List.mem_filterMap.mp (by simpa using hc)
        exact Array.mem_toList_iff.mpr (Array.mem_of_getElem? h2)
/-! ### repr of any data, {} within it too -/
mutual
def D.pyE : D → Option PyData
  | .non => some .none
  | .bl b => some (.bool b)
  | .int i => some (.int i)
  | .str x => some (.str x)
  | .lst xs => (D.pysE xs).map .list
  | .tup xs => (D.pysE xs).map .tuple
  | .dk kvs => match kvs with
    | [] => some (.dict [])
    | _ :: _ => none
  | .ob _ _ => none
  | .xo _ _ => none
def D.pysE : List D → Option (List PyData)
  | [] => some []
  | x :: r => (D.pyE x).bind fun p => (D.pysE r).map fun ps => p :: ps
end
section
variable {X : Cx} {pins : List (Addr × Obj)} {σ : L2.St} {H : Hp} {s : Shared} {as : List Addr}
/-- the module table is written, and no list -/
def SysOk (K : PySem.W.Frag) : Prop := ∃ o, K.lookup sysModules = some o ∧ o.cls ≠ .type "list"
/-- the same of a heap -/
def SysOn (h : Heap) : Prop := ∃ o, h.get? sysModules = some o ∧ o.cls ≠ .type "list"
theorem SysOk.on {K : PySem.W.Frag} {h : Heap} (hS : SysOk K) (k : K.In h) : SysOn h := let ⟨o, e, n⟩ := hS; ⟨o, k _ _ e, n⟩
theorem sys_ne {a : Addr} {o : Obj} (hS : SysOn X.base) (I : Inv X pins σ H s) (h : s.heap.get? a = some o) (c : o.cls = .type "list") : sysModules ≠ a := fun e => by
  obtain ⟨u, h1, h2⟩ := hS
  have z := I.bk _ _ h1
  rw [e, h] at z
  cases z
  exact h2 c
mutual
theorem Dx.reads (hS : SysOn X.base) (I : Inv X pins σ H s) : ∀ (d : D) (v : V) (u : Value) (p : PyData), Dx X.K as H v d → RelV v u → d.pyE = some p → ∃ bs, Reads s.heap u p bs ∧ sysModules ∉ bs
  | .non, _, _, p, h, r, e => by
    cases h
    cases r
    cases (show some PyData.none = some p from e)
    exact ⟨_, Reads.none, fun z => nomatch z⟩
  | .bl b, _, _, p, h, r, e => by
    cases h
    cases r
    cases (show some (PyData.bool b) = some p from e)
    exact ⟨_, Reads.bool b, fun z => nomatch z⟩
  | .int i, _, _, p, h, r, e => by
    cases h
    obtain ⟨t, rfl⟩ := r
    cases (show some (PyData.int i) = some p from e)
    exact ⟨_, Reads.int i t, fun z => nomatch z⟩
  | .str x, _, _, p, h, r, e => by
    cases h
    obtain ⟨t, rfl⟩ := r
    cases (show some (PyData.str x) = some p from e)
    exact ⟨_, Reads.str x t, fun z => nomatch z⟩
  | .lst ds, _, _, p, h, r, e => by
    cases h with
    | lst hs ha =>
      cases r
      obtain ⟨ps, e1, rfl⟩ := Option.map_eq_some_iff.mp (show (D.pysE ds).map PyData.list = some p from e)
      obtain ⟨its, rv, ⟨o, n, ho, hc, _, hd⟩, _⟩ := I.list hs.sq
      obtain ⟨bs, hr, hn⟩ := Dx.readsAll hS I ds _ its ps ha rv e1
      refine ⟨_, Reads.list ho hc hd hr, fun z => ?_⟩
      rcases List.mem_cons.mp z with z | z
      · exact sys_ne hS I ho hc z
      · exact hn z
  | .tup ds, _, _, p, h, r, e => by
    cases h with
    | tup hs ha =>
      cases r
      obtain ⟨ps, e1, rfl⟩ := Option.map_eq_some_iff.mp (show (D.pysE ds).map PyData.tuple = some p from e)
      obtain ⟨its, rv, ⟨o, ho, hc, n, hd⟩, _⟩ := I.tuple hs.sq
      obtain ⟨bs, hr, hn⟩ := Dx.readsAll hS I ds _ its ps ha rv e1
      exact ⟨_, Reads.tuple ho hc hd hr, hn⟩
  | .dk [], _, _, p, h, r, e => by
    cases (show some (PyData.dict []) = some p from e)
    cases h with
    | @dk a _ _ na hrd hp =>
      cases hp
      cases r
      obtain ⟨z, lo, vs, rel, o, es, ep, h1, h2, h3, h4, h5, h6⟩ := dk_rd I.hok hrd
      cases rel
      have h0 : es.toList = [] := by
        cases q : es.toList with
        | nil => rfl
        | cons a l => rw [q] at h5; cases h5
      have he : es = #[] := Array.toList_inj.mp h0
      subst he
      refine ⟨_, Reads.dict (kvs := []) h1 h2.1 h3 .nil .nil, fun z => ?_⟩
      have e : sysModules = a := by simpa using z
      rw [← e] at lo
      exact absurd lo (by decide)
  | .dk (_ :: _), _, _, p, _, _, e => by cases (show (none : Option PyData) = some p from e)
  | .ob _ _, _, _, p, _, _, e => by cases (show (none : Option PyData) = some p from e)
  | .xo _ _, _, _, p, _, _, e => by cases (show (none : Option PyData) = some p from e)
theorem Dx.readsAll (hS : SysOn X.base) (I : Inv X pins σ H s) : ∀ (ds : List D) (vs : List V) (us : List Value) (ps : List PyData), DxA X.K as H vs ds → Vals vs us → D.pysE ds = some ps → ∃ bs, ReadsAll s.heap us ps bs ∧ sysModules ∉ bs
  | [], _, _, ps, h, r, e => by
    cases h
    cases r
    cases (show some [] = some ps from e)
    exact ⟨_, ReadsAll.nil, fun z => nomatch z⟩
  | d :: ds, _, _, ps, h, r, e => by
    cases h with
    | cons h1 h2 =>
      cases r with
      | cons r1 r2 =>
        obtain ⟨p, e1, e2⟩ := Option.bind_eq_some_iff.mp (show ((D.pyE d).bind fun p => (D.pysE ds).map fun ps => p :: ps) = some ps from e)
        obtain ⟨qs, e3, rfl⟩ := Option.map_eq_some_iff.mp e2
        obtain ⟨as1, q1, n1⟩ := Dx.reads hS I d _ _ p h1 r1 e1
        obtain ⟨bs1, q2, n2⟩ := Dx.readsAll hS I ds _ _ qs h2 r2 e3
        exact ⟨_, ReadsAll.cons q1 q2, fun z => (List.mem_append.mp z).elim n1 n2⟩
end
end
def rReprA (K : PySem.W.Frag) : List V → Hp → VK → Prop := fun xs H Q => ∃ (as : List Addr) (v : V) (d : D) (p : PyData), xs = [v] ∧ Dx K as H v d ∧ d.pyE = some p ∧ p.showable = true ∧ p.depth ≤ 60 ∧ p.shown.length ≤ sizeLine ∧ Q (.str p.shown) H
theorem call_reprA {X : Cx} (hS : SysOn X.base) (hg : X.A.guards = some []) (hu : X.A.units + 64 < cLine) : CallR X (.builtin "repr") (rReprA X.K) := by
  intro pins s σ H xs us Q I r h
  obtain ⟨as, v, d, p, rfl, hd, e, h1, h3, h4, q⟩ := h
  obtain ⟨u, rfl, rx⟩ := vals1 r
  obtain ⟨bs, rd, nin⟩ := Dx.reads hS I d v u p hd rx e
  cases d with
  | non =>
    cases hd
    cases rx
    cases (show some PyData.none = some p from e)
    exact PySem.P.repr_of_none ⟨.str _, H, I.tok _, ⟨_, rfl⟩, q⟩
  | bl b =>
    cases hd
    cases rx
    cases (show some (PyData.bool b) = some p from e)
    exact PySem.P.repr_of_bool ⟨.str _, H, I.tok _, ⟨_, rfl⟩, q⟩
  | int i =>
    cases hd
    obtain ⟨t, rfl⟩ := rx
    cases (show some (PyData.int i) = some p from e)
    exact PySem.P.repr_of_int (of_decide_eq_true h1) ⟨.str _, H, I.tok _, ⟨_, rfl⟩, q⟩
  | str x =>
    cases hd
    obtain ⟨t, rfl⟩ := rx
    cases (show some (PyData.str x) = some p from e)
    exact PySem.P.repr_of_str ⟨.str _, H, I.tok _, ⟨_, rfl⟩, q⟩ h4
  | lst ds =>
    cases hd
    cases rx
    exact repr_of_reads' rd h1 (fun _ => nin) hg (by omega) (fun _ _ e => e) (fun h' t tk keep => ⟨.str p.shown, H, I.kept (t' := tk) keep, ⟨t, rfl⟩, q⟩) h4
  | tup ds =>
    cases hd
    cases rx
    exact repr_of_reads' rd h1 (fun _ => nin) hg (by omega) (fun _ _ e => e) (fun h' t tk keep => ⟨.str p.shown, H, I.kept (t' := tk) keep, ⟨t, rfl⟩, q⟩) h4
  | dk kvs =>
    cases hd
    cases rx
    exact repr_of_reads' rd h1 (fun _ => nin) hg (by omega) (fun _ _ e => e) (fun h' t tk keep => ⟨.str p.shown, H, I.kept (t' := tk) keep, ⟨t, rfl⟩, q⟩) h4
  | ob C fs => cases (show (none : Option PyData) = some p from e)
  | xo C fs => cases (show (none : Option PyData) = some p from e)
end Br

/-! BrQ: more rules over data. -/
namespace Br
open PySem PySem.Spec PyProof.Rows L2
section
variable {K : PySem.W.Frag} {X : Xc} {S : Sa} {os : Os} {Q : Sv → Os → Prop} {ta tb tc te to : TE}
/-- a < b < c -/
theorem ew_chain {r r' : R2} (h : EW K X ta S fun x os1 => EW K X tb ⟨S.s, os1⟩ fun y os2 => BW K r x y os2 fun z os3 => ∃ b, z = .d (.bl b) ∧ if b = true then EW K X tc ⟨S.s, os3⟩ fun u os4 => BW K r' y u os4 Q else Q (.d (.bl false)) os3) : EW K X (tChain r r' ta tb tc) S Q := fun as H σ Q' R x k =>
  h as H σ _ R x fun v H1 d os1 g1 R1 r1 q1 => q1 as H1 σ _ (R.go g1 R1) (x.go g1 R1) fun u H2 e os2 g2 R2 r2 q2 => q2 as H2 v u _ R2 (r1.go g2) r2 fun z H3 f os3 g3 R3 r3 ⟨b, eb, q3⟩ => by
    subst eb
    cases r3
    refine ⟨b, rfl, ?_⟩
    have g := (g1.trans g2).trans g3
    cases b with
    | true =>
      show tc σ H3 _
      exact (show EW K X tc ⟨S.s, os3⟩ (fun u os4 => BW K r' e u os4 Q) from q3) as H3 σ _ (R.go g R3) (x.go g R3) fun w H4 e4 os4 g4 R4 r4 q4 => q4 as H4 u w Q' R4 ((r2.go g3).go g4) r4 fun z H5 d5 os5 g5 R5 r5 q5 => k z H5 d5 os5 ((g.trans g4).trans g5) R5 r5 q5
    | false =>
      show Q' (.bl false) H3
      exact k _ H3 (.d (.bl false)) os3 g R3 (Dx.bl false) q3
theorem bw_catL {xs ys : List D} (hl : xs.length + ys.length ≤ sizeLine) (q : Q (.d (.lst (xs ++ ys))) os) : BW K (rCatL K) (.d (.lst xs)) (.d (.lst ys)) os Q :=
  bw_new (fun as H v u Q' R rx ry k1 k2 => by
    cases rx with
    | lst h1 h2 =>
      cases ry with
      | lst h3 h4 => exact ⟨_, _, _, _, rfl, rfl, h1.sq, h3.sq, by rw [h2.length, h4.length]; exact hl, fun p hp => k1 p _ hp (dx_newL R hp (h2.app h4))⟩) q
theorem bw_eqNilL {xs : List D} (q : Q (.d (.bl xs.isEmpty)) os) : BW K (rEqNilL K) (.d (.lst xs)) (.d (.lst [])) os Q :=
  bw_pure (fun as H v u Q' R rx ry k => by
    cases rx with
    | @lst a ws _ h1 h2 =>
      cases ry with
      | lst h3 h4 =>
        cases h4
        refine ⟨_, _, _, rfl, rfl, h1.sq, h3.sq, ?_⟩
        have e : ws.isEmpty = xs.isEmpty := by cases h2 <;> rfl
        rw [e]
        exact k _ (.bl _)) q
theorem bw_neNilT {xs : List D} (q : Q (.d (.bl (!xs.isEmpty))) os) : BW K (rNeNilT K) (.d (.tup xs)) (.d (.tup [])) os Q :=
  bw_pure (fun as H v u Q' R rx ry k => by
    cases rx with
    | @tup a ws _ h1 h2 =>
      cases ry with
      | tup h3 h4 =>
        cases h4
        refine ⟨_, _, _, rfl, rfl, h1.sq, h3.sq, ?_⟩
        have e : ws.isEmpty = xs.isEmpty := by cases h2 <;> rfl
        rw [e]
        exact k _ (.bl _)) q
theorem bw_addBI {b : Bool} {j : Int} (q : Q (.d (.int (b2I b + j))) os) : BW K (fun x y H Q => ∃ b j, x = .bl b ∧ y = .int j ∧ Q (.int (b2I b + j)) H) (.d (.bl b)) (.d (.int j)) os Q :=
  bw_pure (fun as H v u Q' R rx ry k => by
    cases rx
    cases ry
    exact ⟨b, j, rfl, rfl, k _ (.int _)⟩) q
theorem bw_subBI {b : Bool} {j : Int} (q : Q (.d (.int (b2I b - j))) os) : BW K (fun x y H Q => ∃ b j, x = .bl b ∧ y = .int j ∧ Q (.int (b2I b - j)) H) (.d (.bl b)) (.d (.int j)) os Q :=
  bw_pure (fun as H v u Q' R rx ry k => by
    cases rx
    cases ry
    exact ⟨b, j, rfl, rfl, k _ (.int _)⟩) q
theorem bw_subIB {b : Bool} {i : Int} (q : Q (.d (.int (i - b2I b))) os) : BW K (fun x y H Q => ∃ i b, x = .int i ∧ y = .bl b ∧ Q (.int (i - b2I b)) H) (.d (.int i)) (.d (.bl b)) os Q :=
  bw_pure (fun as H v u Q' R rx ry k => by
    cases rx
    cases ry
    exact ⟨i, b, rfl, rfl, k _ (.int _)⟩) q
theorem bw_eqBI {b : Bool} {j : Int} (q : Q (.d (.bl (b2I b == j))) os) : BW K (fun x y H Q => ∃ b j, x = .bl b ∧ y = .int j ∧ Q (.bl (b2I b == j)) H) (.d (.bl b)) (.d (.int j)) os Q :=
  bw_pure (fun as H v u Q' R rx ry k => by
    cases rx
    cases ry
    exact ⟨b, j, rfl, rfl, k _ (.bl _)⟩) q
theorem cw_strB {b : Bool} (q : Q (.d (.str (if b then "True" else "False"))) os) : CW K (fun xs H Q => ∃ b : Bool, xs = [.bl b] ∧ Q (.str (if b then "True" else "False")) H) [.d (.bl b)] os Q :=
  cw_pure (fun as H vs Q' R r k => by
    cases r with
    | cons h t =>
      cases t
      cases h
      exact ⟨b, rfl, k _ (.str _)⟩) q
theorem cw_strI {i : Int} (hi : i.natAbs.log2 < 1920) (q : Q (.d (.str (toString i))) os) : CW K (fun xs H Q => ∃ i, xs = [.int i] ∧ i.natAbs.log2 < 1920 ∧ Q (.str (toString i)) H) [.d (.int i)] os Q :=
  cw_pure (fun as H vs Q' R r k => by
    cases r with
    | cons h t =>
      cases t
      cases h
      exact ⟨i, rfl, hi, k _ (.str _)⟩) q
theorem bw_isB {a b : Bool} (q : Q (.d (.bl (decide (a = b)))) os) : BW K rIsB (.d (.bl a)) (.d (.bl b)) os Q :=
  bw_pure (fun as H v u Q' R rx ry k => by
    cases rx
    cases ry
    exact ⟨a, b, rfl, rfl, k _ (.bl _)⟩) q
theorem bw_notB {a b : Bool} (q : Q (.d (.bl (!decide (a = b)))) os) : BW K rNotB (.d (.bl a)) (.d (.bl b)) os Q :=
  bw_pure (fun as H v u Q' R rx ry k => by
    cases rx
    cases ry
    exact ⟨a, b, rfl, rfl, k _ (.bl _)⟩) q
theorem bw_eqB {a b : Bool} (q : Q (.d (.bl (decide (a = b)))) os) : BW K rEq (.d (.bl a)) (.d (.bl b)) os Q :=
  bw_pure (fun as H v u Q' R rx ry k => by
    cases rx
    cases ry
    have e : decide (V.bl a = V.bl b) = decide (a = b) := by simp
    exact ⟨rfl, by rw [e]; exact k _ (.bl _)⟩) q
/-- a text among written texts -/
theorem inV_strs {z : Str} : ∀ {ns : List Str}, inV (.str z) (ns.map V.str) = decide (z ∈ ns)
  | [] => rfl
  | n :: ns => by
    have ih := inV_strs (z := z) (ns := ns)
    unfold inV at ih ⊢
    rw [List.map_cons, List.any_cons, ih]
    have e : eqV (.str n) (.str z) = decide (z = n) := by
      show decide (n = z) = decide (z = n)
      by_cases h : n = z
      · simp [h]
      · rw [decide_eq_false h, decide_eq_false fun q : z = n => h q.symm]
    rw [e]
    by_cases h : z = n <;> simp [h]
theorem bw_inT {z : Str} {ns : List Str} (q : Q (.d (.bl (decide (z ∈ ns)))) os) : BW K (rIn K false) (.d (.str z)) (.d (.tup (ns.map D.str))) os Q :=
  bw_pure (fun as H v u Q' R rx ry k => by
    cases rx
    cases ry with
    | tup h1 h2 =>
      have ev := DxA.of_strs h2
      subst ev
      refine ⟨_, _, rfl, .inr h1.sq, rfl, by rw [List.all_map]; exact List.all_eq_true.mpr fun _ _ => rfl, ?_⟩
      show Q' (.bl (inV (.str z) (ns.map V.str))) H
      rw [inV_strs]
      exact k _ (.bl _)) q
/-- t.upper() -/
theorem ew_upper (h : EW K X to S fun x os => ∃ z : Str, x = .d (.str z) ∧ z.length ≤ 5592405 ∧ Q (.d (.str (Txt.upper z))) os) : EW K X (tM0 (fun x xs H Q => ∃ a, x = .str a ∧ xs = [] ∧ a.length ≤ 5592405 ∧ Q (.str (Txt.upper a)) H) to) S Q := fun as H σ Q' R x k =>
  h as H σ _ R x fun v H1 d os1 g1 R1 r1 ⟨z, ed, hz, q⟩ => by
    subst ed
    cases r1
    exact ⟨⟨z, rfl⟩, z, rfl, rfl, hz, k _ H1 (.d (.str _)) os1 g1 R1 (Dx.str _) q⟩
end

/-! ### dicts that stay -/
section
variable {K : PySem.W.Frag} {X : Xc} {S : Sa} {os : Os} {Q : Sv → Os → Prop} {ta tb td ty te to : TE} {E : Ea}
theorem DxP.isSome {as : List Addr} {H : Hp} {k : Key} : ∀ {vs : List (Key × V)} {ds : List (Key × D)}, DxP K as H vs ds → (valV vs k).isSome = (lookD ds k).isSome
  | _, _, .nil => rfl
  | _, _, .cons (k := k2) (v := v) (d := d) (vs := vs) (ds := ds) h r => by
    have ih := DxP.isSome (k := k) r
    unfold valV lookD at ih ⊢
    by_cases e : k2 = k
    · simp [List.find?_cons, e]
    · simpa [List.find?_cons, e] using ih
theorem DxP.keys {as : List Addr} {H : Hp} : ∀ {vs : List (Key × V)} {ds : List (Key × D)}, DxP K as H vs ds → vs.map (·.1) = ds.map (·.1)
  | _, _, .nil => rfl
  | _, _, .cons h r => by rw [List.map_cons, List.map_cons, DxP.keys r]
theorem DxA.strs {as : List Addr} {H : Hp} : ∀ (ns : List Str), DxA K as H (ns.map V.str) (ns.map D.str)
  | [] => .nil
  | n :: r => .cons (.str n) (DxA.strs r)
theorem ew_dgetD (h : EW K X td S fun x os1 => EW K X ty ⟨S.s, os1⟩ fun y os2 => ∃ kds key z, x = .d (.dk kds) ∧ y = .d (keyD key) ∧ lookD kds key = some z ∧ Q (.d z) os2) : EW K X (tDGet td ty) S Q := fun as H σ Q' R x k =>
  h as H σ _ R x fun v H1 d os1 g1 R1 r1 q1 => q1 as H1 σ _ (R.go g1 R1) (x.go g1 R1) fun u H2 e os2 g2 R2 r2 ⟨kds, key, z, ex, ey, el, q2⟩ => by
    subst ex
    subst ey
    have r1' : Dx K as H2 v (.dk kds) := r1.go g2
    cases r1' with
    | dk na hrd hp =>
      obtain ⟨w, h3, h4⟩ := hp.look el
      have hk := key_v (show Dx K as H2 u (keyD key) from r2)
      subst hk
      exact ⟨_, w, rfl, .inl ⟨_, key, hrd, rfl, h3.symm⟩, k w H2 (.d z) os2 (g1.trans g2) R2 h4 q2⟩
theorem ew_notInD (h : EW K X ty S fun y os1 => EW K X td ⟨S.s, os1⟩ fun x os2 => ∃ kds key, x = .d (.dk kds) ∧ y = .d (keyD key) ∧ Q (.d (.bl (!(lookD kds key).isSome))) os2) : EW K X (tDNotIn ty td) S Q := fun as H σ Q' R x k =>
  h as H σ _ R x fun u H1 d os1 g1 R1 r1 q1 => q1 as H1 σ _ (R.go g1 R1) (x.go g1 R1) fun v H2 e os2 g2 R2 r2 ⟨kds, key, ex, ey, q2⟩ => by
    subst ex
    subst ey
    have r1' : Dx K as H2 u (keyD key) := r1.go g2
    have hk := key_v r1'
    subst hk
    cases (show Dx K as H2 v (.dk kds) from r2) with
    | dk na hrd hp =>
      refine ⟨_, _, rfl, .inl ⟨_, key, hrd, rfl, rfl⟩, ?_⟩
      rw [hp.isSome]
      exact k _ H2 (.d (.bl _)) os2 (g1.trans g2) R2 (Dx.bl _) q2
theorem cw_sortedD {kds : List (Key × D)} {ks : List Str} (hk : kds.map (·.1) = ks.map Sum.inr) (h64 : ks.length < 64) (q : ∀ ys : List Str, ys.Perm ks → Q (.d (.lst (ys.map D.str))) os) :
    CW K (fun xs H Q => ∃ (a : Addr) (kvs : List (Key × V)) (ks : List Str), xs = [.ref a] ∧ Rd H a (.dK kvs) ∧ kvs.map (·.1) = ks.map Sum.inr ∧ ks.length < 64 ∧ ∀ ys p, ys.Perm ks → sortedS ys = true → H p = none → Q (.ref p) (upd H p (.lst (ys.map V.str)))) [.d (.dk kds)] os Q := fun as H vs Q' R r k => by
  cases r with
  | cons h t =>
    cases t
    cases (show Dx K as H _ (.dk kds) from h) with
    | dk na hrd hp => exact ⟨_, _, ks, rfl, hrd, hp.keys.trans hk, h64, fun ys p hperm _ hp0 => k (.ref p) _ (.d (.lst (ys.map D.str))) os (Go.new hp0) (R.new hp0) (dx_newL R hp0 (DxA.strs ys)) (q ys hperm)⟩
theorem disp_in {as : List Addr} {H2 : Hp} {p : Addr} {os4 : Os} {kvs : List (Key × V)} {kds : List (Key × D)} (R2 : Ro K (as ++ [p]) H2 (os4 ++ [.md []])) (rk : DxP K (as ++ [p]) H2 kvs kds) :
    H2 p = some (.dK []) ∧ Ro K (as ++ [p]) (upd H2 p (.dK (mergeK [] kvs))) (os4 ++ [.md (mergeD [] kds)]) := by
  have hlen : as.length = os4.length := by
    have := R2.len
    simpa using this
  have hpos : (as ++ [p])[as.length]? = some p := by simp
  obtain ⟨ws, e1, e2⟩ := R2.own as.length p (.md []) hpos (by rw [hlen]; simp)
  cases e2
  have g3 : Go (as ++ [p]) H2 (upd H2 p (.dK (mergeK [] kvs))) := Go.at (by simp)
  have z := ro_set (ob := .md (mergeD [] kds)) R2 hpos ⟨mergeK [] kvs, upd_same, DxP.way (Way.of_go g3) (merge_dx rk .nil)⟩
  rw [hlen, List.set_append_right _ _ (Nat.le_refl _)] at z
  exact ⟨e1, by simpa using z⟩
theorem re_disp {as : List Addr} {H : Hp} {σ : L2.St} {p : Addr} (R : Re K as H σ S) (hp : H p = none) : Re K (as ++ [p]) (upd H p (.dK [])) σ ⟨S.s, S.os ++ [.md []]⟩ :=
  ⟨ro_addD R.o hp, R.slen, fun j d hd => by
    obtain ⟨u, e, z⟩ := R.slot j d hd
    exact ⟨u, e, z.stp (stp_add hp)⟩⟩
/-- {k: v, ..}, data -/
theorem ew_disp {trs : List (TE × TE)} (h : DW K X0 trs ⟨S.s, S.os ++ [.md []]⟩ fun ds os3 => ∃ os4 kds, os3 = os4 ++ [.md []] ∧ ds = kds.map (fun kv => (keyD kv.1, kv.2)) ∧ kds.length ≤ 15 ∧ Q (.d (.dk (mergeD [] kds))) os4) : EW K X (tDisp trs) S Q := fun as H σ Q' R x k p hp => by
  refine h _ _ σ _ (re_disp R hp) XH.x0 fun ps H2 ds os3 g2 R2 r2 ⟨os4, kds, e3, ed, hl, q⟩ => ?_
  subst e3
  subst ed
  obtain ⟨kvs, ek, rk⟩ := pr_keys r2
  obtain ⟨e1, R3⟩ := disp_in R2 rk
  obtain ⟨Rf, ⟨ws, e5, e6⟩, nin⟩ := ro_drop R3
  have sN : Stp as H (as ++ [p]) (upd H2 p (.dK (mergeK [] kvs))) := ((stp_add hp).trans (Stp.of_go g2 R2)).trans (Stp.of_go (Go.at (by simp)) R3)
  exact ⟨e1, kvs, ek, by rw [rk.length]; exact hl, k (.ref p) _ (.d (.dk (mergeD [] kds))) os4 sN.go Rf (Dx.dk nin (.inl e5) e6) q⟩
/-- x = {k: v, ..}, a dict that changes -/
theorem w_asgDisp {trs : List (TE × TE)} {i : Nat} (h : DW K X0 trs ⟨S.s, S.os ++ [.md []]⟩ fun ds os3 => ∃ os4 kds, os3 = os4 ++ [.md []] ∧ ds = kds.map (fun kv => (keyD kv.1, kv.2)) ∧ kds.length ≤ 15 ∧ E.nx ⟨S.s.set i (some (.o S.os.length)), os4 ++ [.md (mergeD [] kds)]⟩) :
    W K X (tAsg (tDisp trs) (gName i)) E S := fun as H σ D R x n r b c p hp => by
  refine h _ _ σ _ (re_disp R hp) XH.x0 fun ps H2 ds os3 g2 R2 r2 ⟨os4, kds, e3, ed, hl, q⟩ => ?_
  subst e3
  subst ed
  obtain ⟨kvs, ek, rk⟩ := pr_keys r2
  obtain ⟨e1, R3⟩ := disp_in R2 rk
  have sN : Stp as H (as ++ [p]) (upd H2 p (.dK (mergeK [] kvs))) := ((stp_add hp).trans (Stp.of_go g2 R2)).trans (Stp.of_go (Go.at (by simp)) R3)
  have RR : Re K (as ++ [p]) (upd H2 p (.dK (mergeK [] kvs))) σ ⟨S.s, os4 ++ [.md (mergeD [] kds)]⟩ := ⟨R3, R.slen, fun j d hd => by
    obtain ⟨u, e, z⟩ := R.slot j d hd
    exact ⟨u, e, z.stp sN⟩⟩
  exact ⟨e1, kvs, ek, by rw [rk.length]; exact hl, n _ _ _ _ sN (RR.set i (v := .ref p) (d := .o S.os.length) ⟨p, by rw [← R.o.len]; simp, rfl⟩) q⟩
/-- d.update(e) -/
theorem ew_upd (h : EW K X to S fun x os1 => ∃ j k1, x = .o j ∧ os1[j]? = some (.md k1) ∧ EW K X te ⟨S.s, os1⟩ fun y os2 => ∃ k2 more, y = .d (.dk more) ∧ os2[j]? = some (.md k2) ∧ k2.length + more.length ≤ sizeLine ∧ Q (.d .non) (os2.set j (.md (mergeD k2 more)))) :
    EW K X (tBM K "dict" rUpd to (tCons te tNil)) S Q := fun as H σ Q' R x k =>
  h as H σ _ R x fun v H1 d os1 g1 R1 r1 ⟨j, k1, ed, eo1, h2⟩ => by
    subst ed
    obtain ⟨a, ea, rfl⟩ := r1
    refine ⟨?_, h2 as H1 σ _ (R.go g1 R1) (x.go g1 R1) fun u H2 e os2 g2 R2 r2 ⟨k2, more, ey, eo, hl, q⟩ => ?_⟩
    · obtain ⟨ws, q1, _⟩ := R1.own j a _ ea eo1
      exact .inr (.inr (.inl ⟨rfl, .inl ⟨ws, q1⟩⟩))
    · subst ey
      obtain ⟨ws, h1, h3⟩ := R2.own j a _ ea eo
      have hm : a ∈ as := List.mem_of_getElem? ea
      cases (show Dx K as H2 u (.dk more) from r2) with
      | @dk b kvs _ na hrd hp =>
        have g3 : Go as H2 (upd H2 a (.dK (mergeK ws kvs))) := Go.at hm
        have R3 : Ro K as (upd H2 a (.dK (mergeK ws kvs))) (os2.set j (.md (mergeD k2 more))) := ro_set R2 ea ⟨_, upd_same, DxP.way (Way.of_go g3) (merge_dx hp h3)⟩
        exact ⟨a, b, ws, kvs, rfl, rfl, fun z => na (z ▸ hm), h1, hrd, by rw [h3.length, hp.length]; exact hl, k .non _ (.d .non) _ ((g1.trans g2).trans g3) R3 Dx.non q⟩
/-- a new list of the store -/
theorem ro_addL {as : List Addr} {H : Hp} {p : Addr} {vs : List V} {xs : List D} (R : Ro K as H os) (hp : H p = none) (r : DxA K as H vs xs) : Ro K (as ++ [p]) (upd H p (.lst vs)) (os ++ [.ml xs]) := by
  have R0 := ro_add R hp
  have hpos : (as ++ [p])[as.length]? = some p := by simp
  have w1 : Way K as (as ++ [p]) H H := Way.of_add hp
  have w2 : Way K (as ++ [p]) (as ++ [p]) H (upd H p (.lst vs)) := Way.of_go (Go.at (by simp))
  have z := ro_set (o := .lst vs) (ob := .ml xs) R0 hpos ⟨vs, by rw [upd_upd]; exact upd_same, by rw [upd_upd]; exact (r.way w1).way w2⟩
  rw [upd_upd, R.len, List.set_append_right _ _ (Nat.le_refl _)] at z
  simpa using z
/-- x = xs + ys, a list that changes -/
theorem w_asgCat {i : Nat} (h : EW K X ta S fun x os1 => EW K X tb ⟨S.s, os1⟩ fun y os2 => ∃ xs ys, x = .d (.lst xs) ∧ y = .d (.lst ys) ∧ xs.length + ys.length ≤ sizeLine ∧ E.nx ⟨S.s.set i (some (.o os2.length)), os2 ++ [.ml (xs ++ ys)]⟩) :
    W K X (tAsg (tOp (rCatL K) ta tb) (gName i)) E S := fun as H σ D R x n r b c =>
  h as H σ _ R (x.h R) fun v H1 d os1 g1 R1 r1 q1 => q1 as H1 σ _ (R.go g1 R1) ((x.h R).go g1 R1) fun u H2 e os2 g2 R2 r2 ⟨xs, ys, ex, ey, hl, q⟩ => by
    subst ex
    subst ey
    have r1' : Dx K as H2 v (.lst xs) := r1.go g2
    cases r1' with
    | @lst a1 us _ h1 h2 =>
      cases (show Dx K as H2 u (.lst ys) from r2) with
      | @lst a2 ws _ h3 h4 =>
        refine ⟨_, _, _, _, rfl, rfl, h1.sq, h3.sq, by rw [h2.length, h4.length]; exact hl, fun p hp => ?_⟩
        have R3 := ro_addL R2 hp (h2.app h4)
        have s3 : Stp as H2 (as ++ [p]) (upd H2 p (.lst (us ++ ws))) := stp_add hp
        have sN := (Stp.of_go (g1.trans g2) R2).trans s3
        have RR : Re K (as ++ [p]) _ σ ⟨S.s, os2 ++ [.ml (xs ++ ys)]⟩ := ⟨R3, R.slen, fun j d hd => by
          obtain ⟨u, e, z⟩ := R.slot j d hd
          exact ⟨u, e, z.stp sN⟩⟩
        exact n _ _ _ _ sN (RR.set i (v := .ref p) (d := .o os2.length) ⟨p, by rw [← R2.len]; simp, rfl⟩) q
/-- a return that hands out a dict of the store -/
def RetM (n : Nat) (QA : D → Os → Prop) : Sv → Os → Prop := fun x os' => match x with
  | .d d => QA d (os'.take n)
  | .o k => n ≤ k ∧ ∃ kvs, os'[k]? = some (.md kvs) ∧ QA (.dk kvs) (os'.take n)
  | .fn _ _ => False
theorem retM_back {as bs : List Addr} {H H' : Hp} {os' : Os} {QA : D → Os → Prop} {v : V} {x : Sv} {Q : VK} (s : Stp as H bs H') (n : as.length = os.length) (R : Ro K bs H' os') (r : SvR K bs H' v x) (q : RetM os.length QA x os')
    (k : ∀ v H' d os', Go as H H' → Ro K as H' os' → Dx K as H' v d → QA d os' → Q v H') : Q v H' := by
  cases x with
  | d d => exact k v H' d _ s.go (R.back s n) (Dx.way (Way.of_sub s.sub) r) q
  | o j =>
    obtain ⟨hj, xs, e, q⟩ := q
    obtain ⟨a, ea, rfl⟩ := r
    obtain ⟨vs, h1, h2⟩ := R.own j a _ ea e
    obtain ⟨nw, eb, hf⟩ := s.pre
    have ha : a ∉ as := fun z => by
      obtain ⟨i, hi, ei⟩ := List.mem_iff_getElem.mp z
      have h3 : bs[i]? = some a := by rw [eb, List.getElem?_append_left hi, List.getElem?_eq_getElem hi, ei]
      have h4 : i = j := by
        obtain ⟨l1, m1⟩ := List.getElem?_eq_some_iff.mp h3
        obtain ⟨l2, m2⟩ := List.getElem?_eq_some_iff.mp ea
        exact (List.getElem_inj R.nd).mp (m1.trans m2.symm)
      omega
    exact k _ H' _ _ s.go (R.back s n) (.dk ha (.inl h1) (h2.way (Way.of_sub s.sub))) q
  | fn f r => exact q.elim
theorem readM_of {N : List Str} {f : FD} {t : TS} {vs : List V} {H : Hp} {Q : VK} {E : XK} (h : spD K f vs H Q E)
    (w : ∀ ds os QA EA, f ds os QA EA → W K ⟨fun cls d _ H => E cls d H, fun C fds S => EA C fds (S.os.take os.length)⟩ t { nx := fun S => RetM os.length QA (.d .non) S.os, rt := RetM os.length QA } ⟨startS N ds, os⟩) : t { nx := fun _ H' => Q .non H', rt := Q } (L2.start N vs) H := by
  obtain ⟨as, os, ds, QA, EA, R, r, hf, kq, ke⟩ := h
  refine w ds os QA EA hf as H _ _ (re_start R r) (fun bs H' σ' S' C dd fs fds s R' n e r' z => ?_) (fun bs H' σ' S' s R' q => ?_) (fun bs H' v d os' s R' r' q => ?_) (fun _ _ _ _ _ _ q => q.elim) fun _ _ _ _ _ _ q => q.elim
  · exact ke C dd H' fs fds _ s.go (R'.o.back s R.len) n e (DxF.way (Way.of_sub s.sub) r') z
  · exact retM_back s R.len R'.o (v := .non) (x := .d .non) Dx.non q kq
  · exact retM_back s R.len R' r' q kq
end
end Br

/-! BrL: lists that grow by tuples, enumerate of tuples and lists from any count, calls by names alone, (x,) * a truth. -/
namespace BrEn
open PySem PySem.Spec PyProof.Rows Builtin Builtin.SmallTypes
open AutoSeq1 (wpAny_loadPart')
theorem meets_extT (l b : Addr) (xs ys : Array Value) (n m : Nat) (dd : Option Addr) (sl : Array (Option Value)) (h0 : ¬(!xs.isEmpty && Builtin.List.listTooLong (xs.size + ys.size)) = true) (h1 : xs.size ≤ sizeLine) (h2 : xs.size + ys.size ≤ sizeLine + 1) :
    Meets (Builtin.«list.extend» ⟨[.ref l, .ref b], []⟩) (fun _ R s => s.heap.get? l = some { cls := .type "list", dict := none, data := .seq xs n, slots := #[] } ∧
      s.heap.get? b = some { cls := .type "tuple", dict := dd, data := .seq ys m, slots := sl } ∧ R (.ok (.ret Value.none)) { s with heap := s.heap.update l (Obj.mapSeq fun x => x ++ ys), toks := s.toks }) :=
  .of_wp fun prog w A R s h => by
    obtain ⟨hp, g, d, tk, os⟩ := s
    obtain ⟨hl, hb, h⟩ := h
    have k1 := AutoSeq1.idx_int
    have k2 := AutoSeq1.sub_tuple_tuple
    have k3 := AutoSeq1.sub_list_list
    have k4 := AutoSeq1.sub_tuple_list
    have k5 := AutoSeq1.sub_list_tuple
    have hz' : (xs ++ ys).size ≤ sizeLine + 1 := by rw [Array.size_append]; exact h2
    wp_walk using (wpAny_updateSeq hl rfl (hz := h1) (_hz' := hz')), wpAny_loadPart' hl, wpAny_loadPart' hb
    exact ⟨_, rfl, h⟩
theorem meets_enT (t : Addr) (ys : Array Value) :
    Meets (Builtin.«enumerate.__new__» ⟨[.type "enumerate", .ref t], []⟩) (fun _ R s => s.heap.IsTuple t ys ∧
      R (.ok (.ret (.ref (s.heap.push { cls := .type "tuple_iterator", data := .fields #[.ref t, .int 0 0] }).objs.size)))
        { s with heap := (s.heap.push { cls := .type "tuple_iterator", data := .fields #[.ref t, .int 0 0] }).push { cls := .type "enumerate", data := .fields #[.none, .bool false, .ref s.heap.objs.size, rawInt 0, .none, .none] } }) :=
  .of_wp fun prog w A R s h => by
    obtain ⟨hp, g, d, tk, os⟩ := s
    obtain ⟨hl, h⟩ := h
    have hsub := sub_enumerate
    have hL : Heap.IsTuple (Shared.heap ⟨hp, g, d, tk, os⟩) t ys := hl
    wp_walk
    refine wpAny_stack_any fun st => wpAny_pure ?_
    split
    · rename_i c _ _ _ _ _
      cases (c == Value.type "enumerate")
      · wp_walk using wpAny_pyIter_tuple hL
        exact ⟨_, rfl, h⟩
      · wp_walk using wpAny_pyIter_tuple hL
        exact ⟨_, rfl, h⟩
    · wp_walk using wpAny_pyIter_tuple hL
      exact ⟨_, rfl, h⟩
section
variable {prog : Program} {w : World} {A : Around} {E : Value → Shared → Prop} {s : Shared}
theorem call_enT {t : Addr} {ys : Array Value} {Q : Value → Shared → Prop} (hL : s.heap.IsTuple t ys)
    (h : ∀ h', IsEnum h' (s.heap.objs.size + 1) s.heap.objs.size 0 .none → h'.IsTupleIter s.heap.objs.size t 0 →
      (∀ b o, s.heap.get? b = some o → h'.get? b = some o) → Q (.ref (s.heap.objs.size + 1)) { s with heap := h' }) :
    wpAny (model prog w) A (call (.type "enumerate") [.ref t]) Q E s := by
  refine callType_new F.called_enumerate (by decide) (F.typeCall_enumerate_1 _) (F.newCall_enumerate_1 _) (fun obj => F.args_object_init_2 obj _) F.entry_enumerate_new (meets_enT t ys) ⟨hL, ?_⟩
  have hz : (s.heap.push { cls := .type "tuple_iterator", data := .fields #[.ref t, .int 0 0] }).objs.size = s.heap.objs.size + 1 := Heap.size_push ..
  show _ ∧ _
  rw [hz]
  have he := Heap.get?_push_size (s.heap.push { cls := .type "tuple_iterator", data := .fields #[.ref t, .int 0 0] }) (o := { cls := .type "enumerate", data := .fields #[.none, .bool false, .ref s.heap.objs.size, rawInt 0, .none, .none] }) rfl
  rw [hz] at he
  have hi : ((s.heap.push { cls := .type "tuple_iterator", data := .fields #[.ref t, .int 0 0] }).push { cls := .type "enumerate", data := .fields #[.none, .bool false, .ref s.heap.objs.size, rawInt 0, .none, .none] }).get? s.heap.objs.size = some { cls := .type "tuple_iterator", data := .fields #[.ref t, .int 0 0] } :=
    Heap.get?_push_of_some _ (Heap.get?_push_size _ rfl)
  exact ⟨⟨_, he, rfl⟩, h _ he ⟨_, hi, rfl, rfl⟩ fun b o x => Heap.get?_push_of_some _ (Heap.get?_push_of_some _ x)⟩
end
end BrEn
namespace Br
open PySem PySem.Spec PyProof.Rows L2 BrEn
section
variable {X : Cx}
/-- l.extend(t), t a tuple -/
def rExt (K : PySem.W.Frag) : V → List V → Hp → VK → Prop := fun x vs H Q => ∃ l b xs zs, x = .ref l ∧ vs = [.ref b] ∧ H l = some (.lst xs) ∧ SqT K H b zs ∧ xs.length + zs.length ≤ sizeLine ∧ Q .non (upd H l (.lst (xs ++ zs)))
theorem mt_extT : MtR X "list.extend" (rExt X.K) := by
  intro pins s σ H x vs v us Q I rx rv h
  obtain ⟨l, b, xs, zs, rfl, rfl, hH, hB, hz, q⟩ := h
  cases rx
  obtain ⟨u, rfl, ru⟩ := vals1 rv
  cases (show u = Value.ref b from ru)
  obtain ⟨z, its, n, r, hl, e⟩ := I.lstM hH
  obtain ⟨its2, r2, ⟨⟨cls, dd, data, sl⟩, ho, hc, m, hd⟩, hs⟩ := I.tuple hB
  simp only at hc hd
  subst hc hd
  have l1 := r.length
  have l2 := r2.length
  have hsz : its.toArray.size + its2.toArray.size ≤ sizeLine := by rw [List.size_toArray, List.size_toArray]; omega
  have hlong : ¬ (!its.toArray.isEmpty && Builtin.List.listTooLong (its.toArray.size + its2.toArray.size)) = true := by
    rw [notLongL hsz, Bool.and_false]
    exact Bool.false_ne_true
  refine call_meets PySem.F.slot_list_extend ⟨_, e, rfl⟩ PySem.F.entry_list_extend (PySem.F.args_list_extend_2 _ _)
    (meets_extT l b its.toArray its2.toArray n m dd sl hlong (by omega) (by omega)) ⟨e, ho, ?_⟩
  refine ⟨.non, _, I.lset (its' := its ++ its2) hH e (by simp) (r.append r2) ?_, rfl, q⟩
  rw [List.length_append]
  omega
/-- (x,) * 0, (x,) * 1 -/
def rMulB (K : PySem.W.Frag) : R2 := fun x y H Q => ∃ a xs b, x = .ref a ∧ y = .int (if b = true then 1 else 0) ∧ SqT K H a xs ∧ ∀ p, H p = none → Q (.ref p) (upd H p (.tup (if b = true then xs else [])))
end
end Br

/-! BrM: enumerate over tuples and lists. -/
namespace Br
open PySem PySem.Spec PyProof.Rows L2 BrEn
/-- the tuple at a, each item in a new pair with its number from k on -/
def ItE (K : PySem.W.Frag) (a : Addr) (k : Int) (m : Nat) : It :=
  ⟨fun i H => ∃ (xs : List V) (x : V), SqT K H a xs ∧ xs.length = m ∧ xs[i]? = some x, fun i H v H' => ∃ T x, v = .ref T ∧ H T = none ∧ H' = upd H T (.tup [.int (k + (i : Nat)), x]) ∧ ∀ xs, SqT K H a xs → xs[i]? = some x,
    fun i H => m ≤ i ∧ ∃ xs : List V, SqT K H a xs ∧ xs.length = m⟩
theorem turn_en {P : Program} {w : World} {K : PySem.W.Frag} {elts : List Expr} {kk m : Nat} {tpos : Pos} {a e it : Addr} {k : Int} (hne : e ≠ it) (hea : e ≠ a) (hia : a ≠ it) :
    Turn P w K (.Tuple elts kk tpos) (ItE K a k m) [e, it] e (fun i h => i ≤ m ∧ (∃ old, IsEnum h e it (k + ((i : Nat) : Int)) old) ∧ h.IsTupleIter it a i) where
  mem := by simp
  obj := fun i h st b hb => by
    obtain ⟨_, ⟨old, he⟩, ⟨o, ho, hc, hd⟩⟩ := st
    simp only [List.mem_cons, List.not_mem_nil, or_false] at hb
    rcases hb with z | z
    · rw [z]; exact ⟨_, he, fun v q => nomatch q⟩
    · rw [z]; exact ⟨o, ho, fun v q => by rw [hd] at q; cases q⟩
  keep := fun i h h' st kp => by
    obtain ⟨hm, ⟨old, he⟩, hi⟩ := st
    exact ⟨hm, ⟨old, kp e (by simp) _ he⟩, hi.at fun o q => kp it (by simp) o q⟩
  item := by
    intro X hP hw hK hc i pins s σ H E I hf st hg
    subst hP hw hK
    obtain ⟨hm, ⟨old, he⟩, hit⟩ := st
    obtain ⟨xs, x, hq, hl, hx⟩ := hg
    obtain ⟨its, rv, p, hz⟩ := I.tuple hq
    obtain ⟨u, hu, ru⟩ := rv.get hx
    have hel : e < s.heap.objs.size := Heap.lt_size he
    have hil : it < s.heap.objs.size := by obtain ⟨_, q, _⟩ := hit; exact Heap.lt_size q
    have D := Draws.tuple (prog := X.prog) (w := X.w) (A := X.A.in1) (I.ok.hd hc) it a hia its.toArray
    have hlt : i < its.toArray.size := by
      rw [List.size_toArray]
      exact (List.getElem?_eq_some_iff.mp hu).1
    have hef : e ∉ [it, a] := fun z => by
      simp only [List.mem_cons, List.not_mem_nil, or_false] at z
      rcases z with z | z
      · exact hne z
      · exact hea z
    refine wpAny_pyNext_enum_itemC D he ⟨hit, p⟩ hlt hne hef fun x2 h' tk y2 ho hs hT hsz hk => ?_
    have ev : x2 = u := by
      have y3 : its[i]? = some x2 := by simpa using y2
      rw [hu] at y3
      exact (Option.some.inj y3).symm
    subst ev
    refine ⟨_, rfl, wpAny_letOwnedTupleGo_enum (s := { s with heap := h', toks := tk + 1 }) ho fun h'' he' sb => ?_⟩
    have hT2 : h''.get? s.heap.objs.size = some { cls := .type "tuple", data := .seq #[.int (k + (i : Nat)) tk, x2] } := (sb.2 _ (Nat.ne_of_gt hel)).trans hT
    have new : ObjOk X.prog X.w (upd H s.heap.objs.size (.tup [.int (k + (i : Nat)), x])) h'' s.heap.objs.size (.tup [.int (k + (i : Nat)), x]) :=
      ⟨by show 2 ≤ sizeLine; decide, [.int (k + (i : Nat)) tk, x2], .cons ⟨_, rfl⟩ (.cons ru .nil), ⟨_, hT2, rfl, _, rfl⟩⟩
    have I1 : Inv X pins σ (upd H s.heap.objs.size (.tup [.int (k + (i : Nat)), x])) { s with heap := h'', toks := tk + 1 } :=
      I.turnedNew (t' := tk + 1) (ch := [e, it]) (fun b ob hb q => (sb.2 b (fun z => hb (by simp [z]))).trans (hk b ob (fun z => hb (by simp [z])) (fun z => hb (by simp [z])) q)) hf (Nat.le_refl _) new
    refine ⟨.ref s.heap.objs.size, _, I1, rfl, ⟨_, x, rfl, I.hok.fresh (Nat.le_refl _), rfl, fun ys hy => by rw [I.tuple_inj hy hq]; exact hx⟩, ⟨?_, ⟨x2, ?_⟩, hs.1.at fun o q => (sb.2 it (Ne.symm hne)).trans q⟩, fun b hb => ?_⟩
    · rw [← hl]
      exact (List.getElem?_eq_some_iff.mp hx).1
    · have e1 : k + ((i + 1 : Nat) : Int) = k + ((i : Nat) : Int) + 1 := by omega
      rw [e1]
      exact he'
    · have hb' : b < s.heap.objs.size := by
        simp only [List.mem_cons, List.not_mem_nil, or_false] at hb
        rcases hb with z | z
        · rw [z]; exact hel
        · rw [z]; exact hil
      rw [upd_ne (Nat.ne_of_lt hb')]
      exact (hf b hb).1
  done := by
    intro X hP hw hK hc i pins s σ H E I hf st hg
    subst hP hw hK
    obtain ⟨hm, ⟨old, he⟩, hit⟩ := st
    obtain ⟨hend, xs, hq, hl⟩ := hg
    obtain ⟨its, rv, p, hz⟩ := I.tuple hq
    have l2 := rv.length
    have D := Draws.tuple (prog := X.prog) (w := X.w) (A := X.A.in1) (I.ok.hd hc) it a hia its.toArray
    have ei : i = its.toArray.size := by rw [List.size_toArray]; omega
    subst ei
    obtain ⟨f0, f1, f2, f3, f4, f5⟩ := hf it (by simp)
    exact wpAny_pyNext_enum_endD D he ⟨hit, p⟩ fun h' eb => ⟨rfl, I.turned (t' := s.toks) (fun b o hb q => eb b o hb q) f0 f1 f3 f4 f5⟩
  self := fun A i s Q E st h => by
    obtain ⟨_, ⟨_, he⟩, _⟩ := st
    exact wpAny_pyIter_enum he h
/-- enumerate(a tuple or a list) -/
def iEn (K : PySem.W.Frag) (ta : TA) : TI := fun σ H R => ta σ H fun vs H1 => ∃ a xs, vs = [.ref a] ∧ ((SqL K H1 a xs ∧ R (Ite K a) H1) ∨ (SqT K H1 a xs ∧ R (ItE K a 0 xs.length) H1))
section
variable {X : Cx} {pins : List (Addr × Obj)} {σ : L2.St} {H : Hp} {s : Shared}
theorem pi_enA {e : Expr} {ta : TA} {p pos tpos : Pos} {elts : List Expr} {kk : Nat} (hg : Gl X "enumerate") (hm : X.mg "enumerate" = none) (ha : PA X [e] ta) (hs : starEach [e] X.env = [(false, eval e X.env)] := by rfl) :
    PI X (.Tuple elts kk tpos) (.Call (.Name "enumerate" p) [e] [] pos) (iEn X.K ta) := by
  refine ⟨fun pins s σ H R I h => ?_⟩
  refine Call_ (ld_blt I hg hm boot_enumerate (PyProof.Rows.callWith_type1 (thn (ha.run pos pins s σ H _ I h) fun us s1 ⟨vs, H1, I1, r1, q1⟩ => ?_) hs rfl))
  obtain ⟨a, xs, ex, hq⟩ := q1
  subst ex
  obtain ⟨u, rfl, ru⟩ := vals1 r1
  cases (show u = Value.ref a from ru)
  have fresh : ∀ b ∈ [s1.heap.objs.size + 1, s1.heap.objs.size], FpOk X pins H1 b := fun b hb => by
    have hle : s1.heap.objs.size ≤ b := by
      simp only [List.mem_cons, List.not_mem_nil, or_false] at hb
      rcases hb with z | z
      · rw [z]; exact Nat.le_add_right _ _
      · rw [z]; exact Nat.le_refl _
    exact I1.fpOk hle (I1.hok.fresh hle)
  rcases hq with ⟨hq, q⟩ | ⟨hq, q⟩
  · obtain ⟨its, rv, p', hz⟩ := I1.list hq
    refine call_enumerate_list p'.isList fun h' he hit hsz hk => wpAny_pyIter_enum he ?_
    have I2 : Inv X pins σ H1 { s1 with heap := h' } := I1.kept (t' := s1.toks) hk
    exact ⟨s1.heap.objs.size + 1, [s1.heap.objs.size + 1, s1.heap.objs.size], _, _, H1, rfl, I2, turn_enum a (s1.heap.objs.size + 1) s1.heap.objs.size, ⟨⟨.none, he⟩, hit, Nat.succ_ne_self _⟩, fresh, q⟩
  · obtain ⟨its, rv, p', hz⟩ := I1.tuple hq
    have hal : a < s1.heap.objs.size := by
      obtain ⟨o, ho, _⟩ := id p'
      exact Heap.lt_size ho
    refine call_enT (show s1.heap.IsTuple a its.toArray from p') fun h' he hit hk => wpAny_pyIter_enum he ?_
    have I2 : Inv X pins σ H1 { s1 with heap := h' } := I1.kept (t' := s1.toks) hk
    refine ⟨s1.heap.objs.size + 1, [s1.heap.objs.size + 1, s1.heap.objs.size], _, _, H1, rfl, I2, turn_en (Nat.succ_ne_self _) (Nat.ne_of_gt (Nat.lt_succ_of_lt hal)) (Nat.ne_of_lt hal), ⟨Nat.zero_le _, ⟨.none, he⟩, hit⟩, fresh, q⟩
end
end Br

/-! BrM2: (x, ..) * 0 and * 1; enumerate with start=; calls by names alone. -/
namespace BrEn
open PySem PySem.Spec PyProof.Rows Builtin Builtin.SmallTypes
open AutoSeq1 (wpAny_loadPart')
theorem meets_mul1 (l : Addr) (xs : Array Value) (n : Nat) (dd : Option Addr) (sl : Array (Option Value)) (u : Tok) :
    Meets (Builtin.«tuple.__mul__» ⟨[.ref l, .int 1 u], []⟩) (fun _ R s => s.heap.get? l = some { cls := .type "tuple", dict := dd, data := .seq xs n, slots := sl } ∧ R (.ok (.ret (Value.ref l))) s) :=
  .of_wp fun prog w A R s h => by
    obtain ⟨hp, g, d, tk, os⟩ := s
    obtain ⟨hl, h⟩ := h
    have k1 := AutoSeq1.idx_int
    have k2 := AutoSeq1.sub_tuple_tuple
    wp_walk using wpAny_loadPart' hl
    exact ⟨_, rfl, h⟩
theorem meets_mul0 (l : Addr) (xs : Array Value) (n : Nat) (dd : Option Addr) (sl : Array (Option Value)) (u : Tok) (hx : xs.isEmpty = false) :
    Meets (Builtin.«tuple.__mul__» ⟨[.ref l, .int 0 u], []⟩) (fun _ R s => s.heap.get? l = some { cls := .type "tuple", dict := dd, data := .seq xs n, slots := sl } ∧
      R (.ok (.ret (Value.ref s.heap.objs.size))) { s with heap := s.heap.push { cls := Value.type "tuple", data := Data.seq #[] }, toks := s.toks }) :=
  .of_wp fun prog w A R s h => by
    obtain ⟨hp, g, d, tk, os⟩ := s
    obtain ⟨hl, h⟩ := h
    have k1 := AutoSeq1.idx_int
    have k2 := AutoSeq1.sub_tuple_tuple
    wp_walk using wpAny_loadPart' hl
    exact ⟨_, rfl, h⟩
end BrEn
namespace Br
open PySem PySem.Spec PyProof.Rows L2 BrEn
/-- (x, ..) * 0, * 1 -/
def rMul01 (K : PySem.W.Frag) : R2 := fun x y H Q => ∃ (a : Addr) (xs : List V) (b : Bool), x = .ref a ∧ y = .int (if b = true then 1 else 0) ∧ SqT K H a xs ∧ xs ≠ [] ∧ (b = true → Q (.ref a) H) ∧ (b = false → ∀ p, H p = none → Q (.ref p) (upd H p (.tup [])))
section
variable {X : Cx}
theorem op_mul01 : OpR X (binaryOp .Mult) (rMul01 X.K) := by
  intro pins s σ H x y v u Q I rx ry h
  obtain ⟨l, xs, b, rfl, rfl, hT, hne, q1, q0⟩ := h
  cases (show v = Value.ref l from rx)
  obtain ⟨t, rfl⟩ := ry
  obtain ⟨its, r, ⟨⟨cls, dd, data, sl⟩, ho, hc, n, hd⟩, hs⟩ := I.tuple hT
  simp only at hc hd
  subst hc hd
  have hi : its.toArray.isEmpty = false := by
    cases r with
    | nil => exact absurd rfl hne
    | cons _ _ => rfl
  cases b with
  | true =>
    exact wpAny_binaryOp_repeat_ref (T := "tuple") (U := "int") (by decide) ⟨_, ho, rfl⟩ (fun s' => typeIs_int s' 1 t) noFill_tuple_mul F.fills_int_mul F.slot_int_rmul repeat_tuple F.slot_int_index.lookup
      (call_meets F.slot_int_rmul (typeIs_int s 1 t) F.entry_int_rmul (F.args_int_rmul_2 _ _) (int_rmul_tuple 1 t l its.toArray n dd sl)
        ⟨ho, rfl, ⟨_, ho, rfl⟩, call_meets F.slot_tuple_mul ⟨_, ho, rfl⟩ F.entry_tuple_mul (F.args_tuple_mul_2 _ _) (meets_mul1 l its.toArray n dd sl t) ⟨ho, .ref l, H, I, rfl, q1 rfl⟩⟩)
  | false =>
    refine wpAny_binaryOp_repeat_ref (T := "tuple") (U := "int") (by decide) ⟨_, ho, rfl⟩ (fun s' => typeIs_int s' 0 t) noFill_tuple_mul F.fills_int_mul F.slot_int_rmul repeat_tuple F.slot_int_index.lookup
      (call_meets F.slot_int_rmul (typeIs_int s 0 t) F.entry_int_rmul (F.args_int_rmul_2 _ _) (int_rmul_tuple 0 t l its.toArray n dd sl)
        ⟨ho, rfl, ⟨_, ho, rfl⟩, call_meets F.slot_tuple_mul ⟨_, ho, rfl⟩ F.entry_tuple_mul (F.args_tuple_mul_2 _ _) (meets_mul0 l its.toArray n dd sl t hi) ⟨ho, ?_⟩⟩)
    refine ⟨.ref s.heap.objs.size, _, I.laid (t' := s.toks) (o := .tup []) (fun b ob z => Heap.get?_push_of_some _ z) (Nat.le_refl _) ?_, rfl, q0 rfl _ (I.hok.fresh (Nat.le_refl _))⟩
    exact ⟨Nat.zero_le _, [], .nil, IsTup.new _ _⟩
/-! ### a call by names alone -/
section
variable {CX : CXT} {k : Nat} {f : Addr} {fd : FuncData} {ps ks : List Str} {sp : Sp} {E : XK} {x : Str} {p pos : Pos} {kws : List Keyword} {tk : TA} {g : List Value → List Value → List Value} {gV : List V → List V → List V}
/-- f(k = v, ..) -/
theorem pe_callN0 (F : FnOk X.prog X.w X.K X.mg X.base CX k f fd ps sp) (hr : Room k X.A) (hg : Gl X x) (hm : X.mg x = some (.ref f)) (hk : PySem.W.keepIn X.K (.ref f) = true) (hb : KBn X.K fd ps 0 ks g gV) (hx : Passes CX X E) (hkw : PK X kws tk)
    (hall : (backToKw pos (keywordEach kws X.env)).all (·.1.isSome) = true := by rfl) (hks : (backToKw pos (keywordEach kws X.env)).filterMap (·.1) = ks := by rfl) (hdb : (x == ("__debug__" : Str)) = false := by decide)
    (hpl : ((backTo pos (starEach [] X.env)).any (·.1) || (backToKw pos (keywordEach kws X.env)).any (·.1.isNone)) = false := by rfl) :
    PE X (.Call (.Name x p) [] kws pos) (tCallN 0 ks.length sp gV E tNil tk) := by
  refine ⟨fun pins s σ H Q I h => wpAny_Call_Name_kw (ld_glob I hg hm ?_ hdb)⟩
  refine PySem.W.callWith_KW0 (h₀ := X.base) I.ok.mod.kin hk hall ?_ hpl
  refine thn (hkw.run pos pins s σ H _ I h) fun ws s2 ⟨zs, H2, I2, rz, l1, l2, q2⟩ => ⟨I2.kIn, ?_⟩
  rw [hks]
  exact run_fnN (us := []) (vs := []) F hr hb hx I2 .nil rz rfl l2 q2
end
/-! ### enumerate(t, start=k) -/
/-- enumerate(a tuple, start=k) -/
def iEnS (K : PySem.W.Frag) (ta tk : TA) : TI := fun σ H R => ta σ H fun vs H1 => tk σ H1 fun zs H2 => ∃ a xs, ∃ k : Int, vs = [.ref a] ∧ zs = [.int k] ∧ (-(2 ^ 63) ≤ k ∧ k < 2 ^ 63) ∧ SqT K H2 a xs ∧ R (ItE K a k xs.length) H2
section
variable {M : Model} {A : Around} {E : Value → Shared → Prop} {s : Shared}
theorem callWith_tyK {pos : Pos} {T : String} {first : List Value} {args : List (Bool × Sem Value)} {kws : List (Option Str × Sem Value)} {Q : Value → Shared → Prop} (h1 : args.any (·.1) = false) (h2 : kws.any (·.1.isNone) = false)
    (h : wpAny M A (evalArgs (.type T) true args kws) (fun a s₁ => wpAny M A (call (.type T) (first ++ a.pos) a.kw) Q E s₁) E s) : wpAny M A (callWith pos (.type T) first args kws) Q E s := by
  unfold callWith
  refine wpAny_bind (wpAny_holding (wpAny_mono h (fun a s₁ h₁ => wpAny_bind (wpAny_standAt ?_)) fun _ _ z => z))
  simp only [h1, h2, Bool.or_false]
  refine wpAny_bind (wpAny_pure ?_)
  exact wpAny_bind (wpAny_mono h₁ (fun r s₂ z => wpAny_bind (wpAny_holding (wpAny_point (wpAny_pure z)))) fun _ _ z => z)
end
theorem pi_enS {e ek : Expr} {ta tk : TA} {p pos tpos kp : Pos} {elts : List Expr} {kk : Nat} (hg : Gl X "enumerate") (hm : X.mg "enumerate" = none) (ha : PA X [e] ta) (hkw : PK X [⟨some "start", ek, kp⟩] tk)
    (hall : (backToKw pos (keywordEach [⟨some "start", ek, kp⟩] X.env)).all (·.1.isSome) = true := by rfl) (hno : (backToKw pos (keywordEach [⟨some "start", ek, kp⟩] X.env)).any (·.1.isNone) = false := by rfl)
    (hks : (backToKw pos (keywordEach [⟨some "start", ek, kp⟩] X.env)).filterMap (·.1) = ([("start" : Str)] : List Str) := by rfl)
    (hs : starEach [e] X.env = (false, eval e X.env) :: starEach [] X.env := by rfl) (hpl : (backTo pos (starEach [e] X.env)).any (·.1) = false := by rfl) :
    PI X (.Tuple elts kk tpos) (.Call (.Name "enumerate" p) [e] [⟨some "start", ek, kp⟩] pos) (iEnS X.K ta tk) := by
  refine ⟨fun pins s σ H R I h => ?_⟩
  refine wpAny_Call_Name_kw (ld_blt I hg hm boot_enumerate (callWith_tyK hpl hno (evalArgs_kw2 hall (thn (ha.run pos pins s σ H _ I h) fun us s1 ⟨vs, H1, I1, r1, q1⟩ => ?_) hs)))
  refine thn (hkw.run pos pins s1 σ H1 _ I1 q1) fun ws s2 ⟨zs, H2, I2, rz, a, xs, k, e1, e2, hb, hq, q⟩ => ?_
  subst e1
  subst e2
  obtain ⟨u, rfl, ru⟩ := vals1 r1
  obtain ⟨z, rfl, rv⟩ := vals1 rz
  cases (show u = Value.ref a from ru)
  obtain ⟨t, rfl⟩ := rv
  rw [hks]
  obtain ⟨its, rr, p', hz⟩ := I2.tuple hq
  have hal : a < s2.heap.objs.size := by
    obtain ⟨o, ho, _⟩ := id p'
    exact Heap.lt_size ho
  refine enum_begins_start (begins_tuple a its.toArray) (show s2.heap.IsTuple a its.toArray from p') hb.1 hb.2 fun h' he hit hsz hk => wpAny_pyIter_enum he ?_
  have I3 : Inv X pins σ H2 { s2 with heap := h' } := I2.kept (t' := s2.toks) hk
  refine ⟨s2.heap.objs.size + 1, [s2.heap.objs.size + 1, s2.heap.objs.size], _, _, H2, rfl, I3, turn_en (Nat.succ_ne_self _) (Nat.ne_of_gt (Nat.lt_succ_of_lt hal)) (Nat.ne_of_lt hal), ⟨Nat.zero_le _, ⟨.none, ?_⟩, ⟨_, hit, rfl, rfl⟩⟩, fun b hm2 => ?_, q⟩
  · rw [show k + ((0 : Nat) : Int) = k by omega]
    exact he
  · have hle : s2.heap.objs.size ≤ b := by
      simp only [List.mem_cons, List.not_mem_nil, or_false] at hm2
      rcases hm2 with z | z
      · rw [z]; exact Nat.le_add_right _ _
      · rw [z]; exact Nat.le_refl _
    exact I2.fpOk hle (I2.hok.fresh hle)
end
end Br

/-! BrI: instances of the text's own classes: made, filled, read, told apart by their own ==. -/
namespace Br
open PySem PySem.Spec PyProof.Rows L2
/-! ### fields -/
def putFD (f : Str) (v : D) : List (Str × D) → List (Str × D)
  | [] => [(f, v)]
  | (g, x) :: r => if g = f then (g, v) :: r else (g, x) :: putFD f v r
section
variable {K : PySem.W.Frag} {as : List Addr} {H : Hp} {X : Xc} {S : Sa} {os : Os} {Q : Sv → Os → Prop} {te ta tv : TE} {E : Ea}
theorem DxF.put {f : Str} {u : V} {z : D} (h : Dx K as H u z) : ∀ {vs : List (Str × V)} {ds : List (Str × D)}, DxF K as H vs ds → DxF K as H (putF f u vs) (putFD f z ds)
  | _, _, .nil => .cons h .nil
  | _, _, .cons (k := k) h2 r => by
    unfold putF putFD
    by_cases e : k = f
    · rw [if_pos e, if_pos e]
      exact .cons h r
    · rw [if_neg e, if_neg e]
      exact .cons h2 (DxF.put h r)
theorem DxF.length : ∀ {vs : List (Str × V)} {ds : List (Str × D)}, DxF K as H vs ds → vs.length = ds.length
  | _, _, .nil => rfl
  | _, _, .cons _ r => by rw [List.length_cons, List.length_cons, DxF.length r]
/-- e.f -/
theorem ew_fld {f : Str} (h : EW K X te S fun x os => ∃ C fds d, x = .d (.ob C fds) ∧ Cls K C ∧ NoAttr K C f ∧ lookF fds f = some d ∧ Q (.d d) os) : EW K X (tFld K te f) S Q := fun as H σ Q' R x k =>
  h as H σ _ R x fun v H1 d os1 g1 R1 r1 ⟨C, fds, z, ed, c, n, el, q⟩ => by
    subst ed
    cases r1 with
    | ob n1 n2 h1 h2 hr =>
      obtain ⟨u, e1, e2⟩ := dxf_look hr el
      exact ⟨_, C, _, _, u, rfl, h1, c, n, e1, k u H1 (.d z) os1 g1 R1 e2 q⟩
theorem ew_fldO {f : Str} (h : EW K X te S fun x os => ∃ j C fds d, x = .o j ∧ os[j]? = some (.mi C fds) ∧ Cls K C ∧ NoAttr K C f ∧ lookF fds f = some d ∧ Q (.d d) os) : EW K X (tFld K te f) S Q := fun as H σ Q' R x k =>
  h as H σ _ R x fun v H1 d os1 g1 R1 r1 ⟨j, C, fds, z, ed, eo, c, n, el, q⟩ => by
    subst ed
    obtain ⟨a, ea, rfl⟩ := r1
    obtain ⟨dx, vs, h1, h2, h3, h4⟩ := R1.own j a _ ea eo
    obtain ⟨u, e1, e2⟩ := dxf_look h4 el
    exact ⟨a, C, dx, vs, u, rfl, h1, c, n, e1, k u H1 (.d z) os1 g1 R1 e2 q⟩
/-- self.f = e -/
theorem w_fld {f : Str} (h : EW K X tv S fun y os1 => EW K X ta ⟨S.s, os1⟩ fun x os2 => ∃ j C fds d, y = .d d ∧ x = .o j ∧ os2[j]? = some (.mi C fds) ∧ Cls K C ∧ NoAttr K C f ∧ fds.length < 1000 ∧ E.nx ⟨S.s, os2.set j (.mi C (putFD f d fds))⟩) :
    W K X (sFld K ta tv f) E S := fun as H σ D R x n r b c =>
  h as H σ _ R (x.h R) fun v H1 d os1 g1 R1 r1 q1 => q1 as H1 σ _ (R.go g1 R1) ((x.h R).go g1 R1) fun u H2 e os2 g2 R2 r2 ⟨j, C, fds, z, ed, ee, eo, hc, hn, hl, q⟩ => by
    subst ed
    subst ee
    obtain ⟨a, ea, rfl⟩ := r2
    obtain ⟨dx, vs, h1, h2, h3, h4⟩ := R2.own j a _ ea eo
    have hm : a ∈ as := List.mem_of_getElem? ea
    have rz : Dx K as H2 v z := (r1.go g2 : SvR K as H2 v (.d z))
    have g3 : Go as H2 (upd H2 a (.ins C dx (putF f v vs))) := Go.at hm
    have hd : dx ≠ a := fun z => h2 (z ▸ hm)
    have R3 : Ro K as (upd H2 a (.ins C dx (putF f v vs))) (os2.set j (.mi C (putFD f z fds))) := ro_set R2 ea ⟨dx, _, upd_same, h2, by rw [upd_ne hd]; exact h3, DxF.way (Way.of_go g3) (h4.put rz)⟩
    have g4 : Go as H (upd H2 a (.ins C dx (putF f v vs))) := (g1.trans g2).trans g3
    exact ⟨a, C, dx, vs, rfl, h1, hc, hn, by rw [h4.length]; exact hl, n as _ σ _ (Stp.of_go g4 R3) (R.go g4 R3) q⟩
/-- a new instance of the store -/
theorem ro_addI {C x dx : Addr} (R : Ro K as H os) (hx : H x = none) (hd : H dx = none) (hne : dx ≠ x) : Ro K (as ++ [x]) (upd (upd H dx (.own x)) x (.ins C dx [])) (os ++ [.mi C []]) := by
  have R1 : Ro K as (upd H dx (.own x)) os := R.new hd
  have hx1 : upd H dx (.own x) x = none := by rw [upd_ne (Ne.symm hne)]; exact hx
  have R0 := ro_add R1 hx1
  have hpos : (as ++ [x])[as.length]? = some x := by simp
  have hdn : dx ∉ as ++ [x] := fun z => by
    rcases List.mem_append.mp z with z | z
    · exact R.notin hd z
    · exact hne (List.mem_singleton.mp z)
  have z := ro_set (o := .ins C dx []) (ob := .mi C []) R0 hpos ⟨dx, [], upd_same, hdn, by rw [upd_ne hne, upd_ne hne]; exact upd_same, .nil⟩
  rw [upd_upd, R1.len, List.set_append_right _ _ (Nat.le_refl _)] at z
  simpa using z
/-- C(..): its __init__ by a promise over data -/
theorem ew_make {C : Addr} {f : FD} {dvs : List V} {dds : List Sv} {E : XK} {t : TA} (hd : ∀ as H, SvA K as H dvs dds)
    (h : AW K X t S fun ds os => f (.o os.length :: (ds ++ dds)) (os ++ [.mi C []]) (fun d os' => d = .non ∧ ∃ os2 fds, os' = os2 ++ [.mi C fds] ∧ Q (.d (.ob C fds)) os2) fun _ _ _ => False) : EW K X (tMake C (spD K f) dvs E t) S Q := fun as H σ Q' R x k =>
  h as H σ _ R x fun vs H1 ds os1 g1 R1 r1 q1 x0 dx hx hdx hne => by
    have R2 := ro_addI (C := C) R1 hx hdx hne
    have g2 : Go as H1 (upd (upd H1 dx (.own x0)) x0 (.ins C dx [])) := (Go.new hdx).trans (Go.new (by rw [upd_ne (Ne.symm hne)]; exact hx))
    have s2 : Stp as H1 (as ++ [x0]) (upd (upd H1 dx (.own x0)) x0 (.ins C dx [])) := ⟨⟨[x0], rfl, fun a ha => by rw [List.mem_singleton.mp ha]; exact hx⟩, g2, fun a ha => by
      by_cases e1 : a = x0
      · rw [e1]; exact hx
      · rw [upd_ne e1] at ha
        by_cases e2 : a = dx
        · rw [e2]; exact hdx
        · rw [upd_ne e2] at ha
          exact ha⟩
    have rs : ∀ {us : List V} {es : List Sv}, SvA K as H1 us es → SvA K (as ++ [x0]) (upd (upd H1 dx (.own x0)) x0 (.ins C dx [])) us es := fun {us es} r => by
      induction r with
      | nil => exact .nil
      | cons h _ ih => exact .cons (h.stp s2) ih
    have happ : ∀ {us ws : List V} {es fs : List Sv} {as' : List Addr} {H' : Hp}, SvA K as' H' us es → SvA K as' H' ws fs → SvA K as' H' (us ++ ws) (es ++ fs) := fun {us ws es fs as' H'} a b => by
      induction a with
      | nil => exact b
      | cons h _ ih => exact .cons h ih
    refine ⟨as ++ [x0], os1 ++ [.mi C []], .o os1.length :: (ds ++ dds), _, _, R2, .cons ⟨x0, by rw [← R1.len]; simp, rfl⟩ (happ (rs r1) (hd _ _)), q1, fun v H' d os' g3 R3 r3 ⟨ed, os2, fds, eo, q⟩ => ?_, fun _ _ _ _ _ _ _ _ _ _ _ z => z.elim⟩
    subst ed
    subst eo
    cases r3
    obtain ⟨Rf, ⟨dx', vs', h1, h2, h3, h4⟩, nin⟩ := ro_drop R3
    have g5 : Go as H1 H' := fun a o e n => g3 a o (g2 a o e n) fun z => by
      rcases List.mem_append.mp z with z | z
      · exact n z
      · rw [List.mem_singleton.mp z, hx] at e
        cases e
    exact ⟨rfl, k (.ref x0) H' (.d (.ob C fds)) os2 (g1.trans g5) Rf (Dx.ob nin h2 h1 h3 h4) q⟩
end
/-! ### != by the own == -/
def strKeysB (es : Array DictEntry) : Bool := es.toList.all fun e => match e.key with
  | .str _ _ => true
  | _ => false
theorem strKeys_of {es : Array DictEntry} (h : strKeysB es = true) : StrKeys es := fun e he => by
  have z := List.all_eq_true.mp h e (Array.mem_toList_iff.mpr he)
  obtain ⟨hs, k, v⟩ := e
  cases k <;> first | exact ⟨_, _, rfl⟩ | cases z
/-- the class at C, without a base, with an own == and no own != -/
structure EqC (K : PySem.W.Frag) (C f : Addr) : Prop where
  cls : ∃ nm q N bs hdct sn sub ab col dd k0 k1 k2 k3 k5 newId, K.lookup C = some (excClassObj nm q C N bs [.type "object"] hdct sn sub ab col dd k0 k1 k2 k3 k5 newId) ∧
    (∃ oc od es ep sl, K.lookup N = some ⟨oc, od, .dict es ep, sl⟩ ∧ strKeysB es = true) ∧ PySem.W.nsIn K N "__eq__" = some (some (.ref f)) ∧ PySem.W.nsIn K N "__ne__" = some none
def rNeIns (K : PySem.W.Frag) (C : Addr) (sp : Sp) : R2 := fun x y H Q => ∃ a b dx dy fs gs, x = .ref a ∧ y = .ref b ∧ H a = some (.ins C dx fs) ∧ H b = some (.ins C dy gs) ∧
  sp [.ref a, .ref b] H (fun v H' => ∃ r, v = .bl r ∧ Q (.bl (!r)) H') fun _ _ _ => False
theorem ns_find {K : PySem.W.Frag} {N : Addr} {n : Str} {r : Option Value} {oc : Value} {od : Option Addr} {es : Array DictEntry} {ep : Nat} {sl : Array (Option Value)} (hl : K.lookup N = some ⟨oc, od, .dict es ep, sl⟩) (h : PySem.W.nsIn K N n = some r) : nsFind es n = r := by
  unfold PySem.W.nsIn at h
  rw [hl] at h
  dsimp only at h
  unfold nsFind findBy
  rw [← Array.find?_toList]
  split at h
  · rename_i en he
    cases h
    rw [he]
    rfl
  · rename_i he
    split at h
    · cases h
    · cases h
      rw [he]
      rfl
section
variable {X : Cx} {C f : Addr} {fd : FuncData} {k : Nat} {sp : Sp}
theorem op_neIns (T : EqC X.K C f) (tf : PySem.W.typeIn X.K (.ref f) = some (.type "function")) (G : FnOk X.prog X.w X.K X.mg X.base CX0 k f fd ["self", "other"] sp) (hb : Binds X.K fd ["self", "other"] []) (hr : Room (k + 1) X.A) : OpR X (compareOp .NotEq) (rNeIns X.K C sp) := by
  intro pins s σ H x y v u Q I rx ry h
  obtain ⟨a, b, dx, dy, fs, gs, rfl, rfl, ha, hb', hs⟩ := h
  cases (show v = Value.ref a from rx)
  cases (show u = Value.ref b from ry)
  obtain ⟨mA, J, _⟩ := ins_get I.hok ha
  obtain ⟨mB, J', _⟩ := ins_get I.hok hb'
  obtain ⟨oa, Ja, _⟩ := J.look
  obtain ⟨ob, Jb, _⟩ := J'.look
  obtain ⟨nm, q, N, bs, hdct, sn, sub, ab, col, dd, k0, k1, k2, k3, k5, newId, hC, ⟨oc, od, es, ep, sl, hN, hk⟩, hq, hne⟩ := T.cls
  obtain ⟨of, hof, hft⟩ := Option.map_eq_some_iff.mp (show (X.K.lookup f).map (·.cls) = some (.type "function") from tf)
  have hn : s.heap.Ns N (nsFind es) := ⟨_, es, ep, I.kIn _ _ hN, rfl, strKeys_of hk, fun _ => rfl⟩
  obtain ⟨hp, g, d, tk, os⟩ := s
  obtain ⟨ea, ca, _, _⟩ := Ja
  obtain ⟨eb, cb, _, _⟩ := Jb
  have XX : hp.OwnEqNoNe a C f "object" [.type "object"] := by
    refine ⟨_, of, nm, q, N, bs, hdct, sn, sub, ab, col, dd, k0, k1, k2, k3, k5, newId, nsFind es, _, ea, ca, I.kIn _ _ hC, hn, ns_find hN hq, I.kIn _ _ hof, hft, F.cmp_object.mro, F.cmp_object.eq.lookup, ns_find hN hne⟩
  have hu : X.A.units + 1 < cLine := by
    have := hr.un
    omega
  have e0 : Env0 X.prog X.w X.K X.mg X.base X.A.in1 X.stack ⟨hp, g, d, tk, os⟩ H := by
    have e := I.env0
    exact ⟨e.frames, e.mod, e.bs, e.bsz, e.funs, e.frf, e.hok, e.bare⟩
  have r2 : Vals [V.ref a, V.ref b] [Value.ref a, Value.ref b] := .cons rfl (.cons rfl .nil)
  refine compareOp_ne_ownEq F.cmp_object XX eb cb hu (wpAny_call (codeAny_mono (G.run X.A.in1 X.stack ⟨hp, g, d, tk, os⟩ H ⟨[.ref a, .ref b], []⟩ [.ref a, .ref b] [.ref a, .ref b] _ _ hr.in1 e0 (by
    have z := hb ⟨hp, g, d, tk, os⟩ [.ref a, .ref b] I.kIn rfl
    simpa using z) r2 hs) fun r s' hq2 => ?_))
  cases r with
  | error e => exact hq2.elim
  | ok fl =>
    cases fl with
    | ret w =>
      obtain ⟨z, H', I', rz, c, ez, q2⟩ := I.after hq2
      subst ez
      cases rz
      exact ⟨c, rfl, .bl (!c), H', I', rfl, q2⟩
    | next => exact False.elim hq2
    | brk => exact False.elim hq2
    | cont => exact False.elim hq2
end
end Br

/-! BrJ: wishes over data for BrL to BrI. -/
namespace Br
open PySem PySem.Spec PyProof.Rows L2
section
variable {K : PySem.W.Frag} {as : List Addr} {H : Hp} {X : Xc} {S : Sa} {os : Os} {Q : Sv → Os → Prop} {te ta tb to : TE} {tl tk : TA} {E : Ea}
theorem ew_revT (h : EW K X te S fun x os => ∃ xs, x = .d (.tup xs) ∧ Q (.d (.tup xs.reverse)) os) : EW K X (tRevT K te) S Q := fun as H σ Q' R x k =>
  h as H σ _ R x fun v H1 d os1 g1 R1 r1 ⟨xs, e, q⟩ => by
    subst e
    cases r1 with
    | tup hl hr => exact ⟨_, _, rfl, hl.sq, fun p hp => k (.ref p) _ (.d (.tup xs.reverse)) os1 (g1.trans (Go.new hp)) (R1.new hp) (dx_newT R1 hp hr.rev) q⟩
/-- l.extend(t) -/
theorem ew_ext (h : EW K X to S fun x os1 => ∃ k xs1, x = .o k ∧ os1[k]? = some (.ml xs1) ∧ EW K X te ⟨S.s, os1⟩ fun y os2 => ∃ ys xs, y = .d (.tup ys) ∧ os2[k]? = some (.ml xs) ∧ xs.length + ys.length ≤ sizeLine ∧ Q (.d .non) (os2.set k (.ml (xs ++ ys)))) :
    EW K X (tBM K "list" (rExt K) to (tCons te tNil)) S Q := fun as H σ Q' R x k =>
  h as H σ _ R x fun v H1 d os1 g1 R1 r1 ⟨j, xs1, ed, eo1, h2⟩ => by
    subst ed
    obtain ⟨a, ea, rfl⟩ := r1
    refine ⟨?_, h2 as H1 σ _ (R.go g1 R1) (x.go g1 R1) fun u H2 e os2 g2 R2 r2 ⟨ys, xs, ey, eo, hl, q⟩ => ?_⟩
    · obtain ⟨ws, q1, _⟩ := R1.own j a _ ea eo1
      exact .inl ⟨rfl, ws, .inl (.inl q1)⟩
    · subst ey
      obtain ⟨vs, h1, h3⟩ := R2.own j a _ ea eo
      have hm : a ∈ as := List.mem_of_getElem? ea
      cases (show Dx K as H2 u (.tup ys) from r2) with
      | @tup b ws _ hq hr =>
        have g3 : Go as H2 (upd H2 a (.lst (vs ++ ws))) := Go.at hm
        have R3 : Ro K as (upd H2 a (.lst (vs ++ ws))) (os2.set j (.ml (xs ++ ys))) := ro_set R2 ea ⟨_, upd_same, DxA.way (Way.of_go g3) (DxA.app h3 hr)⟩
        exact ⟨a, b, vs, ws, rfl, rfl, h1, hq.sq, by rw [h3.length, hr.length]; exact hl, k .non _ (.d .non) _ ((g1.trans g2).trans g3) R3 Dx.non q⟩
/-- l.pop() -/
theorem ew_pop0 (h : EW K X to S fun x os1 => ∃ k xs z, x = .o k ∧ os1[k]? = some (.ml (xs ++ [z])) ∧ Q (.d z) (os1.set k (.ml xs))) : EW K X (tBM0 K "list" rPop to) S Q := fun as H σ Q' R x k =>
  h as H σ _ R x fun v H1 d os1 g1 R1 r1 ⟨j, xs, z, ed, eo, q⟩ => by
    subst ed
    obtain ⟨a, ea, rfl⟩ := r1
    obtain ⟨vs, h1, h3⟩ := R1.own j a _ ea eo
    have hm : a ∈ as := List.mem_of_getElem? ea
    have hlen := h3.length
    rw [List.length_append] at hlen
    have hlast : (xs ++ [z])[xs.length]? = some z := by simp
    obtain ⟨u, e1, e2⟩ := h3.get hlast
    have hl1 : vs.length = xs.length + 1 := by simpa using hlen
    have hdrop : vs.dropLast = vs.take xs.length := by rw [List.dropLast_eq_take, hl1]; rfl
    have hds : DxA K as H1 vs.dropLast xs := by
      have t := h3.take xs.length
      rw [List.take_left' rfl] at t
      rw [hdrop]
      exact t
    have g3 : Go as H1 (upd H1 a (.lst vs.dropLast)) := Go.at hm
    have R3 : Ro K as (upd H1 a (.lst vs.dropLast)) (os1.set j (.ml xs)) := ro_set R1 ea ⟨_, upd_same, DxA.way (Way.of_go g3) hds⟩
    refine ⟨.inl ⟨rfl, vs, .inl (.inl h1)⟩, a, vs, u, rfl, rfl, h1, ?_, k u _ (.d z) _ (g1.trans g3) R3 (e2.way (Way.of_go g3)) q⟩
    rw [hl1]
    exact e1
/-- (x, ..) * 0, * 1 -/
theorem bw_mul01 {xs : List D} {b : Bool} (hne : xs ≠ []) (q : Q (.d (.tup (if b = true then xs else []))) os) : BW K (rMul01 K) (.d (.tup xs)) (.d (.int (if b = true then 1 else 0))) os Q := fun as H v u Q' R rx ry k => by
  cases ry
  cases (show Dx K as H v (.tup xs) from rx) with
  | @tup a ws _ hl hr =>
    refine ⟨a, ws, b, rfl, rfl, hl.sq, fun z => hne ?_, fun hb => ?_, fun hb p hp => ?_⟩
    · subst z
      cases hr
      rfl
    · subst hb
      exact k (.ref a) H (.d (.tup xs)) os (Go.refl _ _) R (Dx.tup hl hr) q
    · subst hb
      exact k (.ref p) _ (.d (.tup [])) os (Go.new hp) (R.new hp) (dx_newT R hp .nil) q
/-- != by the own == -/
theorem bw_neIns {C : Addr} {f : FD} {fs gs : List (Str × D)} (h : f [.d (.ob C fs), .d (.ob C gs)] os (fun d os' => ∃ r, d = .bl r ∧ Q (.d (.bl (!r))) os') fun _ _ _ => False) : BW K (rNeIns K C (spD K f)) (.d (.ob C fs)) (.d (.ob C gs)) os Q := fun as H v u Q' R rx ry k => by
  have rx' : Dx K as H v (.ob C fs) := rx
  have ry' : Dx K as H u (.ob C gs) := ry
  cases rx' with
  | ob n1 n2 h1 h2 hr =>
    cases ry' with
    | ob m1 m2 h3 h4 hs =>
      refine ⟨_, _, _, _, _, _, rfl, rfl, h1, h3, as, os, _, _, _, R, .cons (show SvR K as H _ (.d _) from Dx.ob n1 n2 h1 h2 hr) (.cons (show SvR K as H _ (.d _) from Dx.ob m1 m2 h3 h4 hs) .nil), h, fun w H' d os' g R' r' ⟨c, ec, q⟩ => ?_, fun _ _ _ _ _ _ _ _ _ _ _ z => z.elim⟩
      subst ec
      cases r'
      exact ⟨c, rfl, k _ H' (.d (.bl (!c))) os' g R' (Dx.bl _) q⟩
/-- numbered from k on -/
def enumD (k : Int) (ds : List D) : List D := (List.range ds.length).map fun i => .tup [.int (k + (i : Nat)), (ds[i]?).getD .non]
theorem enumD_len {k : Int} {ds : List D} : (enumD k ds).length = ds.length := by unfold enumD; simp
theorem enumD_get {k : Int} {ds : List D} {i : Nat} {d : D} (h : (enumD k ds)[i]? = some d) : ∃ x, ds[i]? = some x ∧ d = .tup [.int (k + (i : Nat)), x] := by
  unfold enumD at h
  rw [List.getElem?_map] at h
  obtain ⟨j, h1, h2⟩ := Option.map_eq_some_iff.mp h
  obtain ⟨h3, h4⟩ := List.getElem?_eq_some_iff.mp h1
  rw [List.getElem_range] at h4
  rw [List.length_range] at h3
  subst h4
  exact ⟨ds[i], List.getElem?_eq_getElem h3, by rw [← h2, List.getElem?_eq_getElem h3]; rfl⟩
theorem itE_d {a : Addr} {k : Int} {ws : List V} {ds : List D} (hl : QT K as H a ws) (hr : DxA K as H ws ds) : ItD K (ItE K a k ws.length) as H (enumD k ds) := fun bs H2 os s R2 i => by
  have hl2 := s.way.t _ _ hl
  have hr2 := hr.way s.way
  refine ⟨fun d hd => ?_, fun hn => ⟨by rw [hr.length]; rw [enumD_len] at hn; exact hn, ws, hl2.sq, rfl⟩⟩
  obtain ⟨x, hx, rfl⟩ := enumD_get hd
  obtain ⟨u, e1, e2⟩ := hr2.get hx
  refine ⟨⟨ws, u, hl2.sq, rfl, e1⟩, ?_⟩
  rintro y H3 ⟨T, x2, rfl, hT, rfl, hy⟩
  have ey := hy ws hl2.sq
  rw [e1] at ey
  cases ey
  exact ⟨Go.new hT, R2.new hT, dx_newT R2 hT (.cons (.int _) (.cons e2 .nil))⟩
theorem ite_d {a : Addr} {ws : List V} {ds : List D} (hl : QL K as H a ws) (hr : DxA K as H ws ds) : ItD K (Ite K a) as H (enumD 0 ds) := fun bs H2 os s R2 i => by
  have hl2 := s.way.l _ _ hl
  have hr2 := hr.way s.way
  refine ⟨fun d hd => ?_, fun hn => ⟨ws, hl2.sq, by rw [hr.length]; rw [enumD_len] at hn; exact hn⟩⟩
  obtain ⟨x, hx, rfl⟩ := enumD_get hd
  obtain ⟨u, e1, e2⟩ := hr2.get hx
  refine ⟨⟨ws, u, hl2.sq, e1⟩, ?_⟩
  rintro y H3 ⟨T, x2, rfl, hT, rfl, hy⟩
  have ey := hy ws hl2.sq
  rw [e1] at ey
  cases ey
  refine ⟨Go.new hT, R2.new hT, ?_⟩
  rw [Int.zero_add]
  exact dx_newT R2 hT (.cons (.int _) (.cons e2 .nil))
theorem iw_en {Q : List D → Os → Prop} (h : AW K X tl S fun xs os => ∃ ds, (xs = [.d (.tup ds)] ∨ xs = [.d (.lst ds)]) ∧ Q (enumD 0 ds) os) : IW K X (iEn K tl) S Q := fun as H σ R' R x k =>
  h as H σ _ R x fun vs H1 xs os1 g1 R1 r1 ⟨ds, e, q⟩ => by
    rcases e with rfl | rfl
    · cases r1 with
      | cons r1 rn =>
        cases rn
        cases (show Dx K as H1 _ (.tup ds) from r1) with
        | @tup a ws _ hl hr => exact ⟨a, ws, rfl, .inr ⟨hl.sq, k _ H1 _ os1 g1 R1 (itE_d hl hr) q⟩⟩
    · cases r1 with
      | cons r1 rn =>
        cases rn
        cases (show Dx K as H1 _ (.lst ds) from r1) with
        | @lst a ws _ hl hr => exact ⟨a, ws, rfl, .inl ⟨hl.sq, k _ H1 _ os1 g1 R1 (ite_d hl hr) q⟩⟩
theorem iw_enS {Q : List D → Os → Prop} (h : AW K X tl S fun xs os => ∃ ds, xs = [.d (.tup ds)] ∧ AW K X tk ⟨S.s, os⟩ fun zs os2 => ∃ k : Int, zs = [.d (.int k)] ∧ (-(2 ^ 63) ≤ k ∧ k < 2 ^ 63) ∧ Q (enumD k ds) os2) : IW K X (iEnS K tl tk) S Q := fun as H σ R' R x k =>
  h as H σ _ R x fun vs H1 xs os1 g1 R1 r1 ⟨ds, e, h2⟩ => by
    subst e
    cases r1 with
    | cons r1 rn =>
      cases rn
      refine h2 as H1 σ _ (R.go g1 R1) (x.go g1 R1) fun ws H2 zs os2 g2 R2 r2 ⟨n, ez, hb, q⟩ => ?_
      subst ez
      cases r2 with
      | cons r2 rm =>
        cases rm
        cases r2
        have r1' : Dx K as H2 _ (.tup ds) := (r1.go g2 : SvR K as H2 _ (.d (.tup ds)))
        cases r1' with
        | @tup a us _ hl hr => exact ⟨a, us, n, rfl, rfl, hb, hl.sq, k _ H2 _ os2 (g1.trans g2) R2 (itE_d hl hr) q⟩
/-- f(e, .., k = v, ..) -/
theorem ew_callN {n m : Nat} {f : FD} {gV : List V → List V → List V} {gS : List Sv → List Sv → List Sv} (hg : ∀ as H vs zs ds es, SvA K as H vs ds → SvA K as H zs es → SvA K as H (gV vs zs) (gS ds es))
    (h : AW K X tl S fun ds os => ds.length = n ∧ AW K X tk ⟨S.s, os⟩ fun es os2 => es.length = m ∧ f (gS ds es) os2 (fun d os' => Q (.d d) os') fun _ _ _ => False) : EW K X (tCallN n m (spD K f) gV E0 tl tk) S Q := fun as H σ Q' R x k =>
  h as H σ _ R x fun vs H1 ds os1 g1 R1 r1 ⟨l1, q1⟩ => q1 as H1 σ _ (R.go g1 R1) (x.go g1 R1) fun zs H2 es os2 g2 R2 r2 ⟨l2, q2⟩ => by
    refine ⟨by rw [r1.length]; exact l1, by rw [r2.length]; exact l2, as, os2, _, _, _, R2, hg _ _ _ _ _ _ (r1.go g2) r2, q2, fun v H3 d os3 g3 R3 r3 q3 => k v H3 (.d d) os3 ((g1.trans g2).trans g3) R3 r3 q3, fun _ _ _ _ _ _ _ _ _ _ _ z => z.elim⟩
/-- x, y = [], e -/
theorem w_parL {i j : Nat} (h : EW K X te ⟨S.s, S.os ++ [.ml []]⟩ fun y os2 => E.nx ⟨(S.s.set i (some (.o S.os.length))).set j (some y), os2⟩) : W K X (tPar i j (tCons (tLst tNil) (tCons te tNil))) E S := fun as H σ D R x n r b c => by
  refine ⟨Nat.zero_le _, fun p hp => ?_⟩
  have s2 : Stp as H (as ++ [p]) (upd H p (.lst [])) := stp_add hp
  have R2 : Re K (as ++ [p]) (upd H p (.lst [])) σ ⟨S.s, S.os ++ [.ml []]⟩ := ⟨ro_add R.o hp, R.slen, fun k d hd => by
    obtain ⟨u, e, z⟩ := R.slot k d hd
    exact ⟨u, e, z.stp s2⟩⟩
  refine h (as ++ [p]) _ σ _ R2 ((x.stp s2).h R2) fun u H2 d os2 g2 R3 r2 q => ⟨.ref p, u, rfl, ?_⟩
  have hp2 : SvR K (as ++ [p]) H2 (.ref p) (.o S.os.length) := ⟨p, by rw [← R.o.len]; simp, rfl⟩
  exact n _ _ _ _ (s2.trans (Stp.of_go g2 R3)) (((R2.go g2 R3).set i hp2).set j r2) q
/-- x = [e, ..], a list that changes -/
theorem w_asgLst {i : Nat} (h : AW K X tl S fun xs os => ∃ ds, unD xs = some ds ∧ ds.length ≤ sizeLine ∧ E.nx ⟨S.s.set i (some (.o os.length)), os ++ [.ml ds]⟩) : W K X (tAsg (tLst tl) (gName i)) E S := fun as H σ D R x n r b c =>
  h as H σ _ R (x.h R) fun vs H1 xs os1 g1 R1 r1 ⟨ds, e, hl, q⟩ => by
    have hd := (unD_all e).dx r1
    refine ⟨by rw [hd.length]; exact hl, fun p hp => ?_⟩
    have R2 := ro_addL R1 hp hd
    have s2 : Stp as H1 (as ++ [p]) (upd H1 p (.lst vs)) := stp_add hp
    have sN := (Stp.of_go g1 R1).trans s2
    have RR : Re K (as ++ [p]) (upd H1 p (.lst vs)) σ ⟨S.s, os1 ++ [.ml ds]⟩ := ⟨R2, R.slen, fun j d hd => by
      obtain ⟨u, e, z⟩ := R.slot j d hd
      exact ⟨u, e, z.stp sN⟩⟩
    exact n _ _ _ _ sN (RR.set i (v := .ref p) (d := .o os1.length) ⟨p, by rw [← R1.len]; simp, rfl⟩) q
/-- for .. in a list of the store that stays as it is -/
theorem w_forO {g : TG} {tb : TS} (h : EW K X te S fun x os => ∃ j ds, x = .o j ∧ os[j]? = some (.ml ds) ∧ ∃ Pv : Nat → Sa → Prop, Pv 0 ⟨S.s, os⟩ ∧ (∀ i S', Pv i S' → S'.os[j]? = some (.ml ds)) ∧
      (∀ i d S', ds[i]? = some d → Pv i S' → GW K g (.d d) S' (W K X tb { nx := Pv (i + 1), ct := Pv (i + 1), bk := E.nx, rt := E.rt })) ∧ ∀ S', Pv ds.length S' → E.nx S') : W K X (tFor (iList K te) g tb) E S := fun as H σ D R x n r b c =>
  h as H σ _ R (x.h R) fun v H1 d1 os1 g1 R1 r1 ⟨j, ds, ed, eo, Pv, p0, stay, turn, fin⟩ => by
    subst ed
    obtain ⟨a, ea, rfl⟩ := r1
    have s1 : Stp as H as H1 := Stp.of_go g1 R1
    have seq : ∀ {bs H2 os2}, Stp as H1 bs H2 → Ro K bs H2 os2 → os2[j]? = some (.ml ds) → ∃ vs, H2 a = some (.lst vs) ∧ DxA K bs H2 vs ds := fun {bs H2 os2} s R2 e => by
      obtain ⟨nw, eb, _⟩ := s.pre
      have ha : bs[j]? = some a := by rw [eb, List.getElem?_append_left (List.getElem?_eq_some_iff.mp ea).1]; exact ea
      obtain ⟨vs, h1, h2⟩ := R2.own j a _ ha e
      exact ⟨vs, h1, h2⟩
    obtain ⟨ws, hw, _⟩ := seq Stp.refl R1 eo
    refine ⟨a, rfl, ⟨ws, .inl (.inl hw)⟩, fun i m σ H2 => m = ds.length - i ∧ i ≤ ds.length ∧ ∃ bs S', Stp as H1 bs H2 ∧ Re K bs H2 σ S' ∧ Pv i S', ⟨_, rfl, Nat.zero_le _, as, _, Stp.refl, R.go g1 R1, p0⟩, ?_⟩
    rintro i m σ2 H2 ⟨rfl, hi, bs, S2, s2, R2, p⟩
    obtain ⟨vs, h1, h2⟩ := seq s2 R2.o (stay i S2 p)
    by_cases hlt : i < ds.length
    · have hd : ds[i]? = some ds[i] := List.getElem?_eq_getElem hlt
      obtain ⟨u, e1, e2⟩ := h2.get hd
      refine .inr ⟨⟨vs, u, .inl (.inl h1), e1⟩, fun σ' H' => ∃ cs S', Stp as H1 cs H' ∧ Re K cs H' σ' S' ∧ Pv (i + 1) S', fun σ' H' z => ⟨ds.length - (i + 1), by omega, rfl, hlt, z⟩, fun y H3 hyl => ?_⟩
      obtain ⟨rfl, hy⟩ := hyl
      have z := hy vs (.inl (.inl h1))
      rw [e1] at z
      cases z
      refine turn i _ S2 hd p bs H3 σ2 _ _ R2 e2 fun σ4 S4 R4 w => ?_
      refine w bs H3 σ4 _ R4 ((x.stp s1).stp s2) (fun cs H5 σ5 S5 s5 R5 q5 => ⟨cs, S5, s2.trans s5, R5, q5⟩) (fun cs H5 v d os5 s5 R5 r5 q5 => r cs H5 v d os5 ((s1.trans s2).trans s5) R5 r5 q5)
        (fun cs H5 σ5 S5 s5 R5 q5 => n cs H5 σ5 S5 ((s1.trans s2).trans s5) R5 q5) (fun cs H5 σ5 S5 s5 R5 q5 => ⟨cs, S5, s2.trans s5, R5, q5⟩)
    · have e : i = ds.length := by omega
      subst e
      exact .inl ⟨⟨vs, .inl (.inl h1), by rw [h2.length]; exact Nat.le_refl _⟩, n bs H2 σ2 S2 (s1.trans s2) R2 (fin S2 p)⟩
end
end Br

/-! BrK: x += e; isinstance(x, (a, b)); what never leaves. -/
namespace Br
open PySem PySem.Spec PyProof.Rows L2
section
variable {K : PySem.W.Frag} {X : Xc} {S : Sa} {os : Os} {Q : Sv → Os → Prop} {te : TE} {E : Ea}
/-- x += e, numbers -/
theorem w_augI {i : Nat} {g : Int → Int → Int} {x : Int} (hv : S.s[i]? = some (some (.d (.int x)))) (h : EW K X te S fun y os => ∃ j, y = .d (.int j) ∧ E.nx ⟨S.s.set i (some (.d (.int (g x j)))), os⟩) : W K X (tAug i te (ipI g)) E S := fun as H σ D R xx n r b c => by
  obtain ⟨v, e, rv⟩ := R.slot i _ hv
  refine ⟨v, e, h as H σ _ R (xx.h R) fun u H1 d os1 g1 R1 r1 ⟨j, ed, q⟩ => ?_⟩
  subst ed
  cases rv
  cases r1
  exact ⟨x, j, rfl, rfl, n as H1 _ _ (Stp.of_go g1 R1) ((R.go g1 R1).set i (v := .int (g x j)) (d := .d (.int (g x j))) (Dx.int _)) q⟩
/-- isinstance(x, (A, B)), built-in types -/
theorem ew_isi2 {n1 n2 : String} (h : EW K X te S fun x os => ∃ d a r, x = .d d ∧ d.ty = some a ∧ PySem.W.kitAny K (.type a) [.type n1, .type n2] = some r ∧ Q (.d (.bl r)) os) : EW K X (tCB (rIsiT K) (tCons te (tCons (tTup (tCons (tC (.ty n1)) (tCons (tC (.ty n2)) tNil))) tNil))) S Q := fun as H σ Q' R x k =>
  h as H σ _ R x fun v H1 d os1 g1 R1 r1 ⟨e, a, r, ed, ea, er, q⟩ => by
    subst ed
    refine ⟨by show 2 ≤ sizeLine; decide, fun p hp => ?_⟩
    have g2 : Go as H1 (upd H1 p (.tup [.ty n1, .ty n2])) := Go.new hp
    have R2 := R1.new (o := .tup [.ty n1, .ty n2]) hp
    have r2 : Dx K as (upd H1 p (.tup [.ty n1, .ty n2])) v e := (r1.go g2 : SvR K as _ v (.d e))
    exact ⟨v, p, [.ty n1, .ty n2], .type a, [.type n1, .type n2], r, rfl, upd_same, .cons (.ty n1) (.cons (.ty n2) .nil), dx_ty r2 ea, er, k (.bl r) _ (.d (.bl r)) os1 (g1.trans g2) R2 (Dx.bl r) q⟩
end
theorem kit2 {K : PySem.W.Frag} {a n1 n2 : String} {b1 b2 : Bool} (h1 : kitB a n1 = some b1) (h2 : kitB a n2 = some b2) : PySem.W.kitAny K (.type a) [.type n1, .type n2] = some (b1 || b2) := by
  refine kitAny_cons (b := b1) (kit_ty h1) (fun hb => ?_) (fun hb => by rw [hb]; rfl)
  subst hb
  refine kitAny_cons (b := b2) (kit_ty h2) (fun hb => ?_) (fun hb => by rw [hb]; rfl)
  subst hb
  rfl
/-- nothing leaves -/
theorem passX {X : Cx} {P : Program} {w : World} : Passes (L2.CX P w) X fun _ _ _ => False := fun _ _ _ _ e s' _ c => by
  obtain ⟨a, B, H', cls, d, _, _, _, _, _, _, _, hE⟩ := c
  exact hE.elim
/-- a class of the text, its __init__ -/
structure Ycl (K : PySem.W.Frag) (mg : Str → Option Value) (x : Str) (C f : Addr) (fd : FuncData) (ps : List Str) : Prop where
  M : Mk K C f
  c : Cls K C
  m : mg x = some (.ref C)
  b : Binds K fd ps []
/-- isinstance of an instance of the text's own class -/
structure IsC (K : PySem.W.Frag) (C : Addr) : Prop where
  c : Cls K C
  ha : PySem.W.findIn K (.ref C) "__class__" = some (some (.builtin "object.__class__"))
  hn : PySem.W.specialIn K (.builtin "object.__class__") "__get__" = some (some (.builtin "getset_descriptor.__get__"))
  tk : PySem.W.takesIn K (.builtin "object.__class__") = some true
  hm : PySem.W.mroIn K C (.type "object") = some true
section
variable {K : PySem.W.Frag} {X : Xc} {S : Sa} {Q : Sv → Os → Prop} {te : TE}
theorem ew_isiO {C : Addr} (T : IsC K C) (h : EW K X te S fun x os => ∃ fds, x = .d (.ob C fds) ∧ Q (.d (.bl true)) os) : EW K X (tCB (rIsi K) (tCons te (tCons (tC (.ref C)) tNil))) S Q := fun as H σ Q' R x k =>
  h as H σ _ R x fun v H1 d os1 g1 R1 r1 ⟨fds, ed, q⟩ => by
    subst ed
    have r1' : Dx K as H1 v (.ob C fds) := r1
    cases r1' with
    | ob n1 n2 h1 h2 hr => exact ⟨_, .ref C, .ref C, .ref C, true, rfl, .own C, .base (.ins h1 T.c T.ha T.hn T.tk T.hm), by unfold PySem.W.kitOne; rw [if_pos (by simp)], k (.bl true) H1 (.d (.bl true)) os1 g1 R1 (Dx.bl true) q⟩
end
section
variable {K : PySem.W.Frag} {X : Xc} {S : Sa} {os : Os} {Q : Sv → Os → Prop}
theorem ew_negI {i : Int} (q : Q (.d (.int (-i))) S.os) : EW K X (tUn (rU fun i => V.int (-i)) (tC (.int i))) S Q := fun as H σ Q' R x k =>
  ⟨i, rfl, k (.int (-i)) H (.d (.int (-i))) S.os (Go.refl _ _) R.o (Dx.int _) q⟩
theorem bw_ix0 {x : D} {r : List D} (q : Q (.d x) os) : BW K (rIxT K) (.d (.tup (x :: r))) (.d (.int 0)) os Q := bw_ixT (atI_nat (j := 0) rfl) q
theorem bw_ix1 {x y : D} {r : List D} (q : Q (.d y) os) : BW K (rIxT K) (.d (.tup (x :: y :: r))) (.d (.int 1)) os Q := bw_ixT (atI_nat (j := 1) rfl) q
theorem bw_ix2 {x y z : D} {r : List D} (q : Q (.d z) os) : BW K (rIxT K) (.d (.tup (x :: y :: z :: r))) (.d (.int 2)) os Q := bw_ixT (atI_nat (j := 2) rfl) q
end
end Br

/-! BrD: data by kind, bounds, what may be shown. -/
namespace Br
open PySem PySem.Spec PyProof.Rows L2
def D.isI : D → Bool
  | .int _ => true
  | _ => false
def D.isB (lo hi : Int) : D → Bool
  | .int i => decide (lo ≤ i) && decide (i ≤ hi)
  | _ => false
def D.isN : D → Bool
  | .non => true
  | _ => false
def D.isT (n : Int) : D → Bool
  | .tup xs => decide ((xs.length : Int) = n)
  | _ => false
mutual
def D.fit (M : Nat) : D → Bool
  | .non => true
  | .bl _ => true
  | .int i => decide (i.natAbs ≤ M)
  | .str z => z.cps.toList.all fun c => decide (c < 128)
  | .lst xs => D.fits M xs
  | .tup xs => D.fits M xs
  | .dk kvs => kvs.isEmpty
  | .ob _ _ => false
  | .xo _ _ => false
def D.fits (M : Nat) : List D → Bool
  | [] => true
  | x :: r => D.fit M x && D.fits M r
end
mutual
def D.ln : D → Nat
  | .non => 4
  | .bl _ => 5
  | .int _ => 1921
  | .str z => 10 * z.length + 2
  | .lst xs => D.lns xs + 3
  | .tup xs => D.lns xs + 3
  | .dk _ => 3
  | .ob _ _ => 0
  | .xo _ _ => 0
def D.lns : List D → Nat
  | [] => 0
  | x :: r => D.ln x + 2 + D.lns r
end
mutual
def D.dpt : D → Nat
  | .lst xs => D.dpts xs + 1
  | .tup xs => D.dpts xs + 1
  | .dk _ => 1
  | _ => 0
def D.dpts : List D → Nat
  | [] => 0
  | x :: r => max (D.dpt x) (D.dpts r)
end
def rowB : D → Bool
  | .tup xs => xs.all (D.isB 0 255)
  | _ => false
theorem fit_ty {M : Nat} {x : D} (h : x.fit M = true) : ∃ a, x.ty = some a := by
  cases x with
  | ob C fs => cases (show false = true from h)
  | xo C fs => cases (show false = true from h)
  | _ => exact ⟨_, rfl⟩
theorem fits_all {M : Nat} : ∀ {xs : List D}, D.fits M xs = true ↔ ∀ x ∈ xs, x.fit M = true
  | [] => ⟨fun _ _ h => (nomatch h), fun _ => rfl⟩
  | x :: r => by
    have e : D.fits M (x :: r) = (D.fit M x && D.fits M r) := rfl
    have ih := fits_all (M := M) (xs := r)
    rw [e, Bool.and_eq_true]
    constructor
    · intro h y hy
      rcases List.mem_cons.mp hy with z | z
      · exact z ▸ h.1
      · exact ih.mp h.2 y z
    · intro h
      exact ⟨h x List.mem_cons_self, ih.mpr fun y hy => h y (List.mem_cons_of_mem _ hy)⟩
theorem lns_mem : ∀ {xs : List D} {x : D}, x ∈ xs → x.ln + 2 ≤ D.lns xs
  | y :: r, x, h => by
    have e : D.lns (y :: r) = D.ln y + 2 + D.lns r := rfl
    rw [e]
    rcases List.mem_cons.mp h with z | z
    · subst z
      omega
    · have := lns_mem z
      omega
theorem lns_len : ∀ {xs : List D}, 2 * xs.length ≤ D.lns xs
  | [] => Nat.le_refl _
  | y :: r => by
    have e : D.lns (y :: r) = D.ln y + 2 + D.lns r := rfl
    have := lns_len (xs := r)
    rw [e, List.length_cons]
    omega
theorem lns_app : ∀ {xs ys : List D}, D.lns (xs ++ ys) = D.lns xs + D.lns ys
  | [], ys => by
    show D.lns ys = 0 + D.lns ys
    omega
  | y :: r, ys => by
    have e : D.lns (y :: r) = D.ln y + 2 + D.lns r := rfl
    have e2 : D.lns (y :: r ++ ys) = D.ln y + 2 + D.lns (r ++ ys) := rfl
    rw [e, e2, lns_app]
    omega
theorem dpts_mem : ∀ {xs : List D} {x : D}, x ∈ xs → x.dpt ≤ D.dpts xs
  | y :: r, x, h => by
    have e : D.dpts (y :: r) = max (D.dpt y) (D.dpts r) := rfl
    rw [e]
    rcases List.mem_cons.mp h with z | z
    · subst z
      omega
    · have := dpts_mem z
      omega
theorem dpts_le {n : Nat} : ∀ {xs : List D}, (∀ x ∈ xs, x.dpt ≤ n) → D.dpts xs ≤ n
  | [], _ => Nat.zero_le _
  | y :: r, h => by
    have e : D.dpts (y :: r) = max (D.dpt y) (D.dpts r) := rfl
    have h1 := h y List.mem_cons_self
    have h2 := dpts_le (xs := r) fun x hx => h x (List.mem_cons_of_mem _ hx)
    rw [e]
    omega
mutual
theorem fit_py {M : Nat} (hM : M ≤ 10 ^ 40) : ∀ d : D, d.fit M = true → ∃ p, d.pyE = some p ∧ p.showable = true ∧ p.depth ≤ d.dpt ∧ p.shown.length ≤ d.ln
  | .non, _ => ⟨_, rfl, rfl, Nat.le_refl _, by decide⟩
  | .bl b, _ => ⟨_, rfl, rfl, Nat.le_refl _, by cases b <;> decide⟩
  | .int i, h => by
    have h1 : i.natAbs ≤ M := of_decide_eq_true h
    have h2 : i.natAbs.log2 < 1920 := by
      by_cases h0 : i.natAbs = 0
      · rw [h0]
        decide
      · refine (Nat.log2_lt h0).mpr (Nat.lt_of_le_of_lt (Nat.le_trans h1 hM) (by decide))
    exact ⟨_, rfl, decide_eq_true h2, Nat.le_refl _, int_text_len_1921 h2⟩
  | .str z, h => ⟨_, rfl, rfl, Nat.le_refl _, PySem.StrLaws.reprText_len z fun c hc => by
      have h1 := of_decide_eq_true (List.all_eq_true.mp (show z.cps.toList.all (fun c => decide (c < 128)) = true from h) c hc)
      exact Nat.lt_trans h1 (by decide)⟩
  | .lst xs, h => by
    obtain ⟨ps, e, h1, h2, h3⟩ := fits_py hM xs h
    refine ⟨.list ps, by show (D.pysE xs).map PyData.list = _; rw [e]; rfl, h1, Nat.succ_le_succ h2, ?_⟩
    refine Nat.le_trans (listText_len_le (PyData.shownAll ps)) ?_
    show _ ≤ D.lns xs + 3
    omega
  | .tup xs, h => by
    obtain ⟨ps, e, h1, h2, h3⟩ := fits_py hM xs h
    refine ⟨.tuple ps, by show (D.pysE xs).map PyData.tuple = _; rw [e]; rfl, h1, Nat.succ_le_succ h2, ?_⟩
    refine Nat.le_trans (tupleText_len_le (PyData.shownAll ps)) ?_
    show _ ≤ D.lns xs + 3
    omega
  | .dk [], _ => ⟨.dict [], rfl, rfl, by decide, by decide⟩
  | .dk (_ :: _), h => by cases (show false = true from h)
  | .ob _ _, h => by cases (show false = true from h)
  | .xo _ _, h => by cases (show false = true from h)
theorem fits_py {M : Nat} (hM : M ≤ 10 ^ 40) : ∀ ds : List D, D.fits M ds = true → ∃ ps, D.pysE ds = some ps ∧ PyData.showableAll ps = true ∧ PyData.depthAll ps ≤ D.dpts ds ∧ ((PyData.shownAll ps).map (·.length)).sum + 2 * (PyData.shownAll ps).length ≤ D.lns ds
  | [], _ => ⟨[], rfl, rfl, Nat.le_refl _, Nat.le_refl _⟩
  | d :: ds, h => by
    have e : D.fits M (d :: ds) = (D.fit M d && D.fits M ds) := rfl
    rw [e, Bool.and_eq_true] at h
    obtain ⟨p, a1, a2, a3, a4⟩ := fit_py hM d h.1
    obtain ⟨ps, b1, b2, b3, b4⟩ := fits_py hM ds h.2
    refine ⟨p :: ps, ?_, ?_, ?_, ?_⟩
    · show ((D.pyE d).bind fun p => (D.pysE ds).map fun ps => p :: ps) = _
      rw [a1, b1]
      rfl
    · show (p.showable && PyData.showableAll ps) = true
      rw [a2, b2]
      rfl
    · show max p.depth (PyData.depthAll ps) ≤ max d.dpt (D.dpts ds)
      omega
    · show ((p.shown.length :: (PyData.shownAll ps).map (·.length)).sum + 2 * ((PyData.shownAll ps).length + 1)) ≤ d.ln + 2 + D.lns ds
      rw [List.sum_cons]
      omega
end
/-- what repr tells -/
def shownD (x : D) : Str := match x.pyE with
  | some p => p.shown
  | none => ""
theorem cw_reprF {K : PySem.W.Frag} {os : Os} {Q : Sv → Os → Prop} {M : Nat} {x : D} (hM : M ≤ 10 ^ 40) (h : x.fit M = true) (hl : x.ln ≤ 10000000) (hd : x.dpt ≤ 60) (q : Q (.d (.str (shownD x))) os) : CW K (rReprA K) [.d x] os Q := by
  obtain ⟨p, e, h1, h2, h3⟩ := fit_py hM x h
  have es : shownD x = p.shown := by
    unfold shownD
    rw [e]
  rw [es] at q
  exact cw_pure (fun as H vs Q' R r k => by
    cases r with
    | cons h t =>
      cases t
      exact ⟨as, _, x, p, rfl, h, e, h1, by omega, Nat.le_trans h3 (Nat.le_trans hl (by decide)), k _ (.str _)⟩) q
mutual
theorem fit_mono {M N : Nat} (h : M ≤ N) : ∀ d : D, d.fit M = true → d.fit N = true
  | .non, _ => rfl
  | .bl _, _ => rfl
  | .int i, q => decide_eq_true (Nat.le_trans (of_decide_eq_true (show decide (i.natAbs ≤ M) = true from q)) h)
  | .str _, q => q
  | .lst xs, q => fits_mono h xs q
  | .tup xs, q => fits_mono h xs q
  | .dk _, q => q
  | .ob _ _, q => q
  | .xo _ _, q => q
theorem fits_mono {M N : Nat} (h : M ≤ N) : ∀ ds : List D, D.fits M ds = true → D.fits N ds = true
  | [], _ => rfl
  | d :: ds, q => by
    have e : D.fits M (d :: ds) = (D.fit M d && D.fits M ds) := rfl
    rw [e, Bool.and_eq_true] at q
    show (D.fit N d && D.fits N ds) = true
    rw [fit_mono h d q.1, fits_mono h ds q.2]
    rfl
end
/-- bounds of data -/
structure Gd (M B n : Nat) (y : D) : Prop where
  f : y.fit M = true
  l : y.ln ≤ B
  d : y.dpt ≤ n
theorem Gd.up {M B n M' B' n' : Nat} {y : D} (h : Gd M B n y) (h1 : M ≤ M') (h2 : B ≤ B') (h3 : n ≤ n') : Gd M' B' n' y := ⟨fit_mono h1 y h.f, Nat.le_trans h.l h2, Nat.le_trans h.d h3⟩
theorem lns_split {xs : List D} (j : Nat) : D.lns xs = D.lns (xs.take j) + D.lns (xs.drop j) := by
  rw [← lns_app, List.take_append_drop]
theorem lns_take {xs : List D} (j : Nat) : D.lns (xs.take j) ≤ D.lns xs := by
  have := lns_split (xs := xs) j
  omega
theorem lns_drop {xs : List D} (j : Nat) : D.lns (xs.drop j) ≤ D.lns xs := by
  have := lns_split (xs := xs) j
  omega
theorem lns_rev : ∀ {xs : List D}, D.lns xs.reverse = D.lns xs
  | [] => rfl
  | x :: r => by
    rw [List.reverse_cons, lns_app, lns_rev]
    show D.lns r + (x.ln + 2 + 0) = x.ln + 2 + D.lns r
    omega
theorem cut_sub {xs : List D} {lo hi : Option Int} {y : D} (h : y ∈ Br.cutD xs lo hi) : y ∈ xs := List.mem_of_mem_drop (List.mem_of_mem_take h)
theorem cut_lns {xs : List D} {lo hi : Option Int} : D.lns (Br.cutD xs lo hi) ≤ D.lns xs := Nat.le_trans (lns_take _) (lns_drop _)
/-- of things of a tuple another tuple, or list -/
theorem gd_tup {M B n : Nat} {xs ys : List D} (h : Gd M B n (.tup xs)) (hm : ∀ y ∈ ys, y ∈ xs ∨ y = .non) (hl : D.lns ys + 3 ≤ B) : Gd M B n (.tup ys) := by
  have hf := fits_all.mp (show D.fits M xs = true from h.f)
  have hd : D.dpts xs + 1 ≤ n := h.d
  refine ⟨fits_all.mpr fun y hy => ?_, hl, ?_⟩
  · rcases hm y hy with z | rfl
    · exact hf y z
    · rfl
  · show D.dpts ys + 1 ≤ n
    have : D.dpts ys ≤ D.dpts xs := dpts_le fun y hy => by
      rcases hm y hy with z | rfl
      · exact dpts_mem z
      · exact Nat.zero_le _
    omega
theorem gd_lst {M B n : Nat} {xs : List D} (h : Gd M B n (.tup xs)) : Gd M B n (.lst xs) := ⟨h.f, h.l, h.d⟩
def asc (z : Str) : Prop := ∀ c ∈ z.cps.toList, c < 128
theorem asc_of {M : Nat} {z : Str} (h : (D.str z).fit M = true) : asc z := fun c hc => of_decide_eq_true (List.all_eq_true.mp (show (z.cps.toList.all fun c => decide (c < 128)) = true from h) c hc)
theorem gd_str {M B n : Nat} {z : Str} (h : asc z) (hl : 10 * z.length + 2 ≤ B) : Gd M B n (.str z) := ⟨List.all_eq_true.mpr fun c hc => decide_eq_true (h c hc), hl, Nat.zero_le _⟩
theorem asc_cut {z : Str} {lo hi : Option Int} (h : asc z) : asc (cutS z lo hi) := fun c hc => by
  have e : (cutS z lo hi).cps.toList = (z.cps.toList.drop (HT.sIx z.length 0 lo)).take (HT.sIx z.length z.length hi - HT.sIx z.length 0 lo) := by
    unfold cutS
    simp
  rw [e] at hc
  exact h c (List.mem_of_mem_drop (List.mem_of_mem_take hc))
theorem asc_app {z y : Str} (h : asc z) (g : asc y) : asc (z ++ y) := fun c hc => by
  have e : (z ++ y).cps.toList = z.cps.toList ++ y.cps.toList := by
    show (z.cps ++ y.cps).toList = _
    simp
  rw [e] at hc
  rcases List.mem_append.mp hc with q | q
  · exact h c q
  · exact g c q
theorem len_app {z y : Str} : (z ++ y).length = z.length + y.length := by
  show (z.cps ++ y.cps).size = _
  rw [Array.size_append]
  rfl
theorem up_lt : ∀ c, c < 128 → up1 c < 128 := by decide +kernel
theorem asc_up {z : Str} (h : asc z) : asc (Txt.upper z) ∧ (Txt.upper z).length = z.length := by
  have e := upper_ascii (x := z) fun c hc => h c hc
  rw [e]
  constructor
  · intro c hc
    have hc' : c ∈ z.cps.toList.map up1 := by simpa using hc
    obtain ⟨d, hd, rfl⟩ := List.mem_map.mp hc'
    exact up_lt d (h d hd)
  · show (z.cps.map up1).size = z.cps.size
    simp
theorem asc_int (i : Int) : asc (toString i : String) := fun c hc => by
  by_cases h : c < 128
  · exact h
  · exact absurd hc (int_text_free' c ⟨by omega, .inr (by omega)⟩ i)
theorem log_of {M : Nat} {i : Int} (h : i.natAbs ≤ M) (hM : M ≤ 10 ^ 40) : i.natAbs.log2 < 1920 := by
  by_cases h0 : i.natAbs = 0
  · rw [h0]
    decide
  · exact (Nat.log2_lt h0).mpr (Nat.lt_of_le_of_lt (Nat.le_trans h hM) (by decide))
theorem len_int {M : Nat} {i : Int} (h : i.natAbs ≤ M) (hM : M ≤ 10 ^ 40) : (Str.ofString (toString i)).length ≤ 1921 := int_text_len_1921 (log_of h hM)
/-- t[::-1] -/
theorem spD_or {K : PySem.W.Frag} {f1 f2 : FD} {vs : List V} {H : Hp} {Q : VK} {E : XK} (h : spD K (fun ds os QA EA => f1 ds os QA EA ∨ f2 ds os QA EA) vs H Q E) : spD K f1 vs H Q E ∨ spD K f2 vs H Q E := by
  obtain ⟨as, os, ds, QA, EA, R, r, hf, k1, k2⟩ := h
  rcases hf with hf | hf
  · exact .inl ⟨as, os, ds, QA, EA, R, r, hf, k1, k2⟩
  · exact .inr ⟨as, os, ds, QA, EA, R, r, hf, k1, k2⟩
theorem spD_imp {K : PySem.W.Frag} {f1 f2 : FD} {vs : List V} {H : Hp} {Q : VK} {E : XK} (m : ∀ ds os QA EA, f1 ds os QA EA → f2 ds os QA EA) (h : spD K f1 vs H Q E) : spD K f2 vs H Q E := by
  obtain ⟨as, os, ds, QA, EA, R, r, hf, k1, k2⟩ := h
  exact ⟨as, os, ds, QA, EA, R, r, m _ _ _ _ hf, k1, k2⟩
def fNo : FD := fun _ _ _ _ => False
theorem ok_no {P : Program} {w : World} {K : PySem.W.Frag} {mg : Str → Option Value} {base : Heap} {k : Nat} {f : Addr} {fd : FuncData} {ps : List Str} : FnOk P w K mg base CX0 k f fd ps (spD K fNo) :=
  ⟨fun vs H Q E h => by obtain ⟨_, _, _, _, _, _, _, hf, _⟩ := h; exact hf.elim, fun A outer s H args us vs Q E _ _ _ _ h => by obtain ⟨_, _, _, _, _, _, _, hf, _⟩ := h; exact hf.elim⟩
theorem cut_take {xs : List D} {j : Nat} (h : j ≤ xs.length) : Br.cutD xs none (some (j : Int)) = xs.take j := by
  unfold Br.cutD
  rw [HT.sIx_nat, HT.sIx_none, Nat.min_eq_left h, List.drop_zero, Nat.sub_zero]
theorem cut_drop {xs : List D} {j : Nat} (h : j ≤ xs.length) : Br.cutD xs (some (j : Int)) none = xs.drop j := by
  unfold Br.cutD
  rw [HT.sIx_nat, HT.sIx_none, Nat.min_eq_left h, List.take_of_length_le (by rw [List.length_drop]; exact Nat.le_refl _)]
theorem isi_int {x : D} {a : String} (h : x.ty = some a) : ∃ r, kitB a "int" = some r ∧ ∃ r2, kitB a "bool" = some r2 ∧ (r && !r2) = x.isI := by
  cases x <;> cases h <;> exact ⟨_, rfl, _, rfl, rfl⟩
theorem isi_tup {x : D} {a : String} (h : x.ty = some a) : (∃ xs, x = .tup xs ∧ kitB a "tuple" = some true) ∨ ((∀ xs, x ≠ .tup xs) ∧ kitB a "tuple" = some false) := by
  cases x with
  | tup xs => cases h; exact .inl ⟨xs, rfl, rfl⟩
  | ob C fs => cases h
  | xo C fs => cases h
  | _ => cases h; exact .inr ⟨fun xs e => (nomatch e), rfl⟩
theorem isi_str {x : D} {a : String} (h : x.ty = some a) : (∃ z, x = .str z ∧ kitB a "str" = some true) ∨ ((∀ z, x ≠ .str z) ∧ kitB a "str" = some false) := by
  cases x with
  | str xs => cases h; exact .inl ⟨xs, rfl, rfl⟩
  | ob C fs => cases h
  | xo C fs => cases h
  | _ => cases h; exact .inr ⟨fun xs e => (nomatch e), rfl⟩
theorem isT_no {x : D} {n : Int} (h : ∀ xs, x ≠ .tup xs) : x.isT n = false := by
  cases x with
  | tup xs => exact absurd rfl (h xs)
  | _ => rfl
theorem isB_no {x : D} {lo hi : Int} (h : x.isI = false) : x.isB lo hi = false := by
  cases x with
  | int i => cases h
  | _ => rfl
theorem isI_is {x : D} (h : x.isI = true) : ∃ i, x = .int i := by
  cases x with
  | int i => exact ⟨i, rfl⟩
  | _ => cases h
end Br

/-! BrO: a list of the store asked for its kind, walked in a comprehension. -/
namespace Br
open PySem PySem.Spec PyProof.Rows L2
section
variable {K : PySem.W.Frag} {X : Xc} {S : Sa} {Q : Sv → Os → Prop} {te tl : TE} {g : TG} {tt : TT}
theorem ew_isiL {n : String} (h : EW K X te S fun x os => ∃ j xs r, x = .o j ∧ os[j]? = some (.ml xs) ∧ kitB "list" n = some r ∧ Q (.d (.bl r)) os) : EW K X (tCB (rIsi K) (tCons te (tCons (tC (.ty n)) tNil))) S Q := fun as H σ Q' R x k =>
  h as H σ _ R x fun v H1 d os1 g1 R1 r1 ⟨j, xs, r, ed, eo, er, q⟩ => by
    subst ed
    obtain ⟨a, ea, rfl⟩ := r1
    obtain ⟨vs, h1, _⟩ := R1.own j a _ ea eo
    exact ⟨_, .ty n, .type "list", .type n, r, rfl, .ty n, .base (.lst h1), kit_ty er, k (.bl r) H1 (.d (.bl r)) os1 g1 R1 (Dx.bl r) q⟩
/-- a comprehension over a list of the store that stays as it is -/
theorem ew_lcO {vs : List Nat} (hg : Wg g vs) (hm : Mg g) (h : EW K X tl S fun x os => ∃ j ds, x = .o j ∧ os[j]? = some (.ml ds) ∧ j < os.length ∧ ∃ Pv : Nat → List D → Os → Prop, Pv 0 [] os ∧ (∀ i acc os', Pv i acc os' → os'[j]? = some (.ml ds)) ∧
      (∀ i d acc os', ds[i]? = some d → Pv i acc os' → GW K g (.d d) ⟨wipeS S.s vs, os' ++ [.ml acc]⟩ fun S2 => TW K X0 tt S2 fun b os2 =>
        if b = true then EW K X0 te ⟨S2.s, os2⟩ fun y os3 => ∃ z os4, y = .d z ∧ os3 = os4 ++ [.ml acc] ∧ acc.length < sizeLine ∧ Pv (i + 1) (acc ++ [z]) os4 else ∃ os4, os2 = os4 ++ [.ml acc] ∧ Pv (i + 1) acc os4) ∧
      ∀ acc os', Pv ds.length acc os' → Q (.d (.lst acc)) os') : EW K X (tLc (iList K tl) g tt te vs) S Q := fun as H σ Q' R x k =>
  h as H σ _ R x fun v H1 d1 os1 g1 R1 r1 ⟨j, ds, ed, eo, hj, Pv, p0, stay, turn, fin⟩ => by
    subst ed
    obtain ⟨a, ea, rfl⟩ := r1
    obtain ⟨ws0, hw0, _⟩ := R1.own j a _ ea eo
    refine ⟨a, rfl, ⟨ws0, .inl (.inl hw0)⟩, fun Dl hD => ?_⟩
    have R1' := R.go g1 R1
    have seq : ∀ {H2 : Hp} {os2 : Os} {acc : List D}, Ro K (as ++ [Dl]) H2 (os2 ++ [.ml acc]) → os2[j]? = some (.ml ds) → ∃ vs, H2 a = some (.lst vs) ∧ DxA K (as ++ [Dl]) H2 vs ds := fun {H2 os2 acc} R2 e => by
      have ha : (as ++ [Dl])[j]? = some a := by rw [List.getElem?_append_left (List.getElem?_eq_some_iff.mp ea).1]; exact ea
      have he : (os2 ++ [Ob.ml acc])[j]? = some (.ml ds) := by rw [List.getElem?_append_left (List.getElem?_eq_some_iff.mp e).1]; exact e
      obtain ⟨vs, h1, h2⟩ := R2.own j a _ ha he
      exact ⟨vs, h1, h2⟩
    refine ⟨fun i m H2 => m = ds.length - i ∧ i ≤ ds.length ∧ ∃ acc os2, Stp as H1 (as ++ [Dl]) H2 ∧ Re K (as ++ [Dl]) H2 σ ⟨S.s, os2 ++ [.ml acc]⟩ ∧ Pv i acc os2, ⟨_, rfl, Nat.zero_le _, [], os1, stp_add hD, ?_, p0⟩, ?_⟩
    · refine ⟨ro_add R1 hD, R1'.slen, fun i d hd => ?_⟩
      obtain ⟨u, e, r⟩ := R1'.slot i d hd
      exact ⟨u, e, (r.wayA hD).go (Go.at (by simp))⟩
    rintro i m H2 ⟨rfl, hi, acc, os2, s2, R2, p⟩
    obtain ⟨us, hu1, hu2⟩ := seq R2.o (stay i acc os2 p)
    by_cases hlt : i < ds.length
    · have hd : ds[i]? = some ds[i] := List.getElem?_eq_getElem hlt
      obtain ⟨u, e1, e2⟩ := hu2.get hd
      refine .inr ⟨⟨us, u, .inl (.inl hu1), e1⟩, fun H' => ∃ acc os3, Stp as H1 (as ++ [Dl]) H' ∧ Re K (as ++ [Dl]) H' σ ⟨S.s, os3 ++ [.ml acc]⟩ ∧ Pv (i + 1) acc os3, fun H' z => ⟨ds.length - (i + 1), by omega, rfl, hlt, z⟩, fun y H3 hyl => ?_⟩
      obtain ⟨rfl, hy⟩ := hyl
      have z := hy us (.inl (.inl hu1))
      rw [e1] at z
      cases z
      have base := turn i _ acc os2 hd p (as ++ [Dl]) H3 (wipe σ vs) _ (fun σ2 H4 => H4 = H3 ∧ ∃ S2, Re K (as ++ [Dl]) H3 σ2 S2 ∧ TW K X0 tt S2 fun b os2 =>
        if b = true then EW K X0 te ⟨S2.s, os2⟩ fun y os3 => ∃ z os4, y = .d z ∧ os3 = os4 ++ [.ml acc] ∧ acc.length < sizeLine ∧ Pv (i + 1) (acc ++ [z]) os4 else ∃ os4, os2 = os4 ++ [.ml acc] ∧ Pv (i + 1) acc os4) (re_wipe R2) e2 fun σ2 S2 R4 q => ⟨rfl, S2, R4, q⟩
      refine hm _ _ _ _ _ ?_ (hg _ _ _ _ base)
      rintro σ2 H4 ⟨⟨rfl, S2, R4, tw⟩, hl, ho⟩
      refine ⟨(wipe_ext hl fun i hi => ho i hi).trans (wipe_ext (wipe_length σ vs) fun i hi => wipe_out1 hi), ?_⟩
      refine tw _ H4 σ2 _ R4 XH.x0 fun b H5 os5 g5 R5 q5 => ?_
      have s5 := s2.trans (Stp.of_go g5 R5)
      cases b with
      | false =>
        obtain ⟨os4, rfl, q6⟩ := (show ∃ os4, os5 = os4 ++ [.ml acc] ∧ Pv (i + 1) acc os4 from q5)
        show ∃ acc os3, _
        exact ⟨acc, os4, s5, R2.go g5 R5, q6⟩
      | true =>
        show te σ2 H5 _
        refine (show EW K X0 te ⟨S2.s, os5⟩ _ from q5) _ H5 σ2 _ (R4.go g5 R5) XH.x0 fun w H6 e os6 g6 R6 r6 ⟨z, os7, ez, eo, hz, q7⟩ => ?_
        subst ez
        subst eo
        obtain ⟨ws, ew, rw'⟩ := (ro_drop R6).2.1
        refine ⟨ws, ew, by rw [rw'.length]; exact hz, acc ++ [z], os7, ?_, ?_, q7⟩
        · exact (s5.trans (Stp.of_go g6 R6)).trans (Stp.of_go (Go.at (by simp)) (ro_grow R6 ew r6))
        · exact (R2.go (g5.trans g6) R6).go (Go.at (by simp)) (ro_grow R6 ew r6)
    · have e : i = ds.length := by omega
      subst e
      obtain ⟨Rd, ob, nin⟩ := ro_drop R2.o
      obtain ⟨ws, ew, rw'⟩ := ob
      exact .inl ⟨⟨us, .inl (.inl hu1), by rw [hu2.length]; exact Nat.le_refl _⟩, k (.ref Dl) H2 (.d (.lst acc)) os2 (g1.trans s2.go) Rd (Dx.lst (.inl ⟨nin, .inl ew⟩) rw') (fin acc os2 p)⟩
end
/-! ### data that is copied -/
mutual
def D.cpy : D → Bool
  | .non => true
  | .bl _ => true
  | .int _ => true
  | .lst xs => decide (xs.length ≤ 100000) && D.cpys xs
  | .tup xs => decide (xs.length ≤ 100000) && D.cpys xs
  | _ => false
def D.cpys : List D → Bool
  | [] => true
  | x :: r => D.cpy x && D.cpys r
end
theorem cpys_all : ∀ {xs : List D}, D.cpys xs = true ↔ ∀ x ∈ xs, x.cpy = true
  | [] => ⟨fun _ _ h => (nomatch h), fun _ => rfl⟩
  | x :: r => by
    have e : D.cpys (x :: r) = (D.cpy x && D.cpys r) := rfl
    have ih := cpys_all (xs := r)
    rw [e, Bool.and_eq_true]
    constructor
    · intro h y hy
      rcases List.mem_cons.mp hy with z | z
      · exact z ▸ h.1
      · exact ih.mp h.2 y z
    · intro h
      exact ⟨h x List.mem_cons_self, ih.mpr fun y hy => h y (List.mem_cons_of_mem _ hy)⟩
end Br

/-! BrXB: own classes of exceptions over RuntimeError, with their own __init__. -/
namespace Br
open PySem PySem.Spec PyProof.Rows L2
/-- a built-in class of exceptions, as own classes stand over it -/
structure OvB (B newId initId : String) (bmB : List Value) : Prop where
  FB : ExcBaseFacts B newId initId bmB
  SF : StoreFacts B bmB "object.__setattr__" "object"
abbrev reMro : List Value := [.type "RuntimeError", .type "Exception", .type "BaseException", .type "object"]
theorem ovR : OvB "RuntimeError" "RuntimeError.__new__" "RuntimeError.__init__" reMro := ⟨PySem.F.excBase_RuntimeError, PySem.F.store_RuntimeError⟩
theorem ty_re : typeOf (.type "RuntimeError") = pure (.type "type") := by kernel_rfl
/-- an own class over it -/
structure OeB (K : PySem.W.Frag) (C : Addr) (bmB : List Value) (newId : String) : Prop where
  q : PySem.W.excInitIn K C bmB newId = true
  ov : PySem.W.excOver K C bmB = true
  hd : PySem.W.hasDictIn K C = true
  sa : PySem.W.findIn K (.ref C) "__setattr__" = some (some (.builtin "object.__setattr__"))
  exC : PySem.W.subIn K (.ref C) (.type "BaseException") = some true
  tyC : PySem.W.typeIn K (.ref C) = some (.type "type")
  kC : PySem.W.keepIn K (.ref C) = true
section
variable {B newId initId : String} {bmB : List Value} {X : Cx} {pins : List (Addr × Obj)} {σ : L2.St} {H : Hp} {s : Shared} {a C : Addr} {A : Around} {E : Value → Shared → Prop}
/-- self.f = u, the only field: first the dict is laid, then the exception is turned to it -/
theorem ostB {f : Str} {y : V} {u : Value} {Q : Unit → Shared → Prop} (V : OvB B newId initId bmB) (T : OeB X.K C bmB newId) (I : Inv X pins σ H s) (e : H a = some (exo a C none)) (hno : NoAttr X.K C f) (ry : RelV y u)
    (h : ∀ dx s', H dx = none → dx ≠ a → Inv X pins σ (upd (upd H dx (exd dx [(f, y)])) a (exo a C (some dx))) s' → Q () s') : wpAny (model X.prog X.w) A (setAttr (.ref a) f u) Q E s := by
  obtain ⟨t1, ho⟩ := exo_at I.hok e
  obtain ⟨cd, hc, hd⟩ := PySem.W.any_some T.hd
  obtain ⟨hp, g, d, t, os⟩ := s
  refine PySem.W.set_plain I.kIn (od := none) ⟨ho, rfl, rfl, trivial⟩ T.sa ?_
  refine PySem.W.osa_openX (od := none) V.SF I.kIn ⟨ho, rfl, rfl, trivial⟩ T.ov (NoAttr.taker hno) fun b => ?_
  refine wpAny_bind (wpAny_pure (wpAny_bind (PySem.W.instanceDict_exc (t := t1) (c2 := .none) ho (PySem.W.looks_clsIn I.kIn hc) hd ?_)))
  have hlt : ∀ {b : Addr} {o : Obj}, hp.get? b = some o → b ≠ hp.objs.size := fun q => Nat.ne_of_lt (Heap.lt_size q)
  have hda : hp.objs.size ≠ a := (hlt ho).symm
  show wpAny _ _ (Builtin.ObjectAttr.storeInDict hp.objs.size (.str f _) f u) _ _ _
  refine PySem.HandSPX.store_in_new ?_ ?_
  · exact ⟨_, #[], _, (Heap.get?_update_ne _ _ _ _ hda).trans (Heap.get?_push_at rfl rfl), rfl, fun e he => absurd he (by simp), fun _ => rfl⟩
  · intro h' tk' hn' hs
    have ga : h'.get? a = some ({ cls := .ref C, dict := some hp.objs.size, data := .fields #[.ref t1, .none, .none, .none, .bool false, .none] } : Obj) := (hs.2 a hda.symm).trans (Heap.get?_update_self _ (Heap.get?_push_of_some _ ho) rfl)
    have g1 : (h'.update a fun o => { o with dict := none }).get? a = some ({ cls := .ref C, data := .fields #[.ref t1, .none, .none, .none, .bool false, .none] } : Obj) := Heap.get?_update_self _ ga rfl
    have g2 : ∀ b, b ≠ a → (h'.update a fun o => { o with dict := none }).get? b = h'.get? b := fun b hb => Heap.get?_update_ne _ _ _ _ hb
    have I1 := I.laid (t' := tk') (a := hp.objs.size) (o := exd hp.objs.size [(f, y)]) (h' := h'.update a fun o => { o with dict := none }) (fun b o q => by
      by_cases hb : b = a
      · subst hb
        rw [show hp.get? b = _ from ho] at q
        rw [g1]
        exact q
      · exact (g2 b hb).trans ((hs.2 b (hlt q)).trans ((Heap.get?_update_ne _ _ _ _ hb).trans (Heap.get?_push_of_some _ q)))) (Nat.le_refl _) (exd_ok (hn'.at fun o q => (g2 _ hda).trans q) (relO_put (fs := []) ry fun _ => True.intro))
    have I2 := I1.write (t' := tk') (x := a) (e := a) (o := exo a C (some hp.objs.size)) (h' := h') (by rw [upd_ne hda.symm, e]; exact True.intro) (.inl rfl) (fun b o hb q => (g2 b hb).symm.trans q) ⟨_, ga⟩ (exo_ok ga)
    exact h hp.objs.size _ (I.hok.fresh (Nat.le_refl _)) hda I2
/-- B.__init__(self, ..) tells nothing -/
theorem initB {us : List Value} {Q : Value → Shared → Prop} (V : OvB B newId initId bmB) (T : OeB X.K C bmB newId) (I : Inv X pins σ H s) (e : H a = some (exo a C none)) (hl : us.length ≤ sizeLine) (h : ∀ s', Inv X pins σ H s' → Q .none s') :
    wpAny (model X.prog X.w) A (call (.builtin initId) (.ref a :: us)) Q E s := by
  obtain ⟨_, _, _, _, _, _, _, _, _, _, _, _, _, _, _, _, hC, hT⟩ := PySem.W.excInit_of I.kIn T.q
  obtain ⟨t1, ho⟩ := exo_at I.hok e
  obtain ⟨hp, g, d, t, os⟩ := s
  refine wpAny_call (PySem.HandSPX.init_base V.FB hT hC ho hl fun h' t2 k hx => ?_)
  have J := I.write (t' := t) (x := a) (e := a) (o := exo a C none) (by rw [e]; trivial) (.inl rfl) k ⟨_, hx⟩ (exo_ok hx)
  have same : upd H a (exo a C none) = H := funext fun b => by
    by_cases hb : b = a
    · subst hb
      exact upd_same.trans e.symm
    · exact upd_ne hb
  rw [same] at J
  exact h _ J
end
/-- what RuntimeError.__init__(self, ..) asks -/
def tReI (K : PySem.W.Frag) (ta : TA) : TE := fun σ H Q => ta σ H fun vs H1 => ∃ (a C : Addr) (ws : List V), vs = .ref a :: ws ∧ ws.length ≤ 1000 ∧ OeB K C reMro "RuntimeError.__new__" ∧ H1 a = some (exo a C none) ∧ Q .non H1
/-- self.f = e asks -/
def tReF (K : PySem.W.Frag) (f : Str) (to te : TE) : TS := fun D σ H => te σ H fun y H1 => to σ H1 fun x H2 => ∃ a C : Addr, x = .ref a ∧ OeB K C reMro "RuntimeError.__new__" ∧ NoAttr K C f ∧ H2 a = some (exo a C none) ∧
  ∀ dx, H2 dx = none → dx ≠ a → D.nx σ (upd (upd H2 dx (exd dx [(f, y)])) a (exo a C (some dx)))
section
variable {X : Cx} {o e : Expr} {es : List Expr} {to te : TE} {ta : TA} {f : Str} {p p' p1 p2 pos : Pos}
theorem pe_reinit {pl : Sem Bool} (hg : Gl X "RuntimeError") (hm : X.mg "RuntimeError" = none) (vV : PySem.W.findCls X.K (.type "RuntimeError") (.type "type") "__init__" = some (.val (.builtin "RuntimeError.__init__"))) (ha : PA X (e :: es) ta)
    (hc : eval (.Call (.Attribute (.Name "RuntimeError" p1) "__init__" p2) (e :: es) [] pos) X.env = (do let ov ← eval (.Name "RuntimeError" p1) X.env; standAt p2.atName; let (f, first) ← holding [ov] (getMethod ov "__init__" pl); callWith pos f first (backTo pos (starEach (e :: es) X.env)) (backToKw pos (keywordEach [] X.env))) := by rfl)
    (h1 : starEach (e :: es) X.env = (false, eval e X.env) :: starEach es X.env := by rfl) (h2 : (backTo pos (starEach es X.env)).any (·.1) = false := by rfl) :
    PE X (.Call (.Attribute (.Name "RuntimeError" p1) "__init__" p2) (e :: es) [] pos) (tReI X.K ta) := by
  refine ⟨fun pins s σ H Q I h => PySem.W.methodCall_KW (ld_blt I hg hm PyProof.Rows.Boot.«RuntimeError» ?_ (by decide) (by decide)) hc⟩
  obtain ⟨m, fr⟩ := I.fr
  refine PySem.W.method_type fr I.ok.mod.kin ty_re (by decide +kernel) vV (by decide +kernel) ?_
  show wpAny _ _ (callWith pos (Value.builtin "RuntimeError.__init__") [] (backTo pos (starEach (e :: es) X.env)) []) _ _ _
  refine PyProof.Rows.callWith_method1 (thn (ha.run pos pins _ σ H _ (I.tok _) h) ?_) h1 h2
  rintro us s1 ⟨_, H1, I1, r1, a, C, ws, rfl, hl, T, ea, q⟩
  cases r1 with
  | @cons _ w0 _ ur ra rw' =>
    cases (show w0 = Value.ref a from ra)
    exact initB ovR T I1 ea (by rw [← rw'.length]; exact Nat.le_trans hl (by decide)) fun s' J => ⟨.non, H1, J, rfl, q⟩
theorem ps_reF (ho : PE X o to) (he : PE X e te) (hs : swapsWith e (some (.Attribute o f p')) pos.line X.env = pure false := by rfl) : PS X (.Assign [.Attribute o f p'] e pos) (tReF X.K f to te) := by
  refine ⟨fun pins s σ H D I h => plainObj_wpAny_Assign_Attribute (thn (he.run pins s σ H _ I h) ?_) hs⟩
  rintro v s1 ⟨y, H1, I1, r1, q1⟩
  refine thn (ho.run pins s1 σ H1 _ I1 q1) ?_
  rintro u s2 ⟨x, H2, I2, r2, a, C, rfl, T, hno, ea, q⟩
  cases (show u = Value.ref a from r2)
  exact ostB ovR T I2 ea hno r1 fun dx s' n ne J => ⟨σ, _, J, q dx n ne⟩
/-- C(e, ..), to be raised -/
theorem pmk_re {CX : CXT} {x : Str} {C fI : Addr} {k : Nat} {fd : FuncData} {ps : List Str} {sp : Sp} (T : OeB X.K C reMro "RuntimeError.__new__") (iC : PySem.W.findIn X.K (.ref C) "__init__" = some (some (.ref fI))) (tI : PySem.W.typeIn X.K (.ref fI) = some (.type "function"))
    (F1 : FnOk X.prog X.w X.K X.mg X.base CX k fI fd ps sp) (hr : Room (k + 1) X.A) (hb : Binds X.K fd ps []) (hx : Passes CX X (fun _ _ _ => False)) (hg : Gl X x) (hm : X.mg x = some (.ref C)) (ha : PA X (e :: es) ta)
    (hdb : (x == ("__debug__" : Str)) = false := by decide) (h1 : starEach (e :: es) X.env = (false, eval e X.env) :: starEach es X.env := by rfl) (h2 : (backTo pos (starEach es X.env)).any (·.1) = false := by rfl) :
    PMk X (.Call (.Name x p) (e :: es) [] pos) (tMkO C sp [] ta) := fun pins s σ H Q I h => by
  refine wpAny_Call_Name_kw (ld_glob I hg hm (PySem.W.callWith_K (h₀ := X.base) I.ok.mod.kin T.kC (thn (ha.run pos pins _ σ H _ (I.tok _) h) ?_) h1 h2) hdb)
  rintro us ⟨hp, g, dr, tk, os⟩ ⟨vs, H1, I1, r1, hz, q1⟩
  refine ⟨I1.kIn, ?_⟩
  show wpAny _ _ (call (.ref C) us) _ _ _
  obtain ⟨_, _, _, _, _, _, _, _, _, _, _, _, _, _, _, _, hC, hT⟩ := PySem.W.excInit_of I1.kIn T.q
  have hn : hp.objs.size ≤ hp.objs.size + 1 := Nat.le_succ _
  have hq := q1 (hp.objs.size + 1) (I1.hok.fresh hn)
  have up : ∀ b o, hp.get? b = some o → ((hp.push (PySem.W.kdv_tup us)).push (PySem.HandSPX.excO C hp.objs.size)).get? b = some o := fun b o z => Heap.get?_push_of_some _ (Heap.get?_push_of_some _ z)
  have I2 := I1.laid (t' := tk) (o := exo (hp.objs.size + 1) C none) up hn (exo_ok (t1 := hp.objs.size) (by heap_get))
  have rs : Vals (V.ref (hp.objs.size + 1) :: (vs ++ [])) (Value.ref (hp.objs.size + 1) :: (us ++ [])) := .cons rfl (r1.append .nil)
  have many := rs.length
  rw [F1.len _ _ _ _ hq] at many
  refine wpAny_call (PySem.HandSPX.call_own ovR.FB hT hC (PySem.W.looks_findIn I1.kIn iC) (fun me => PySem.W.bind_fn I1.kIn me tI) (by rw [← r1.length]; exact Nat.le_trans hz (by decide)) (codeAny_mono (F1.run _ X.stack _ _ ⟨Value.ref (hp.objs.size + 1) :: us, []⟩ _ _ _ _ (hr.make C us []) (I2.env0.make C us []) (hb _ (Value.ref (hp.objs.size + 1) :: us) I2.kIn many.symm) rs hq) fun r s' back => ?_))
  cases r with
  | error er => exact hx pins σ _ _ er s' I2 back
  | ok fl =>
    cases fl with
    | ret u =>
      obtain ⟨_, H2, o2, b2, n2, k2, rv, rfl, d, fs, ea, ed, hd1, z⟩ := back
      obtain ⟨h2, g2, d2, t2, os'⟩ := s'
      exact ⟨rv, mk_end (raises_own T.exC T.tyC) I1 hn up n2 k2 o2 b2 ea ed hd1 z⟩
    | next => exact False.elim back
    | brk => exact False.elim back
    | cont => exact False.elim back
end
end Br

/-! BrG2: the law's own def, with the module table's place known. -/
namespace Br
open PySem PySem.Spec PyProof.Rows L2
/-- the module table is there and is no list -/
def sysAt (h : Heap) : Bool := match h.get? sysModules with
  | some ⟨.type c, _, _, _⟩ => !decide (c = "list")
  | _ => false
theorem sysAt_on {h : Heap} (e : sysAt h = true) : SysOn h := by
  unfold sysAt at e
  cases q : h.get? sysModules with
  | none =>
    rw [q] at e
    cases e
  | some o =>
    rw [q] at e
    obtain ⟨c, dd, dt, sl⟩ := o
    cases c with
    | type n =>
      have e2 : (!decide (n = "list")) = true := e
      refine ⟨_, q, fun z => ?_⟩
      cases z
      cases e2
    | _ => cases e
/-- a Hook, the module table looked at beside it -/
def sysHook (Hk : PySem.W.Hook) : PySem.W.Hook :=
  ⟨Hk.α × Bool, fun s => (Hk.obs s, sysAt s.heap), fun w => (Hk.val w, true), fun w h => Hk.says w h ∧ SysOn h, fun w s e => ⟨Hk.of w s (congrArg Prod.fst e), sysAt_on (congrArg Prod.snd e)⟩,
    fun w h h' ⟨a, o, e, n⟩ k => ⟨Hk.keeps w h h' a k, o, k _ _ e, n⟩⟩
/-- the goal that the head leaves, the module table's place told to the defs -/
theorem walkG2 {l : PySem.W.OpenLaw} {n k : Nat} {q : Program} {loose : List Str} {XP : (Str → Option Value) → Heap → Prop} {YP : World → Heap → Prop} {d : DefRec} {K : Params → PySem.W.Frag} {sp : World → Sp} {x : Str}
    (hn : l.most = some n) (hn2 : n ≤ sizeLine) (hdf : d.params.defaults = []) (room : Room k callerA) (hY : ∀ (w : World) (h : Heap), YP w h → (K w.params).In h ∧ SysOn h)
    (F : ∀ (w : World) (mg : Str → Option Value) (fa : Addr) (h : Heap), (K w.params).In h → h.Ns mainGlobals mg → mg d.name = some (.ref fa) →
      ∃ fd : FuncData, (∀ (s : Shared) (u : Value), BindsTo s fd ⟨[u], []⟩ [(x, u)]) ∧ ∀ base : Heap, SysOn base → (K w.params).In base → base.Ns mainGlobals mg → FnG l.prog w (K w.params) mg base k fa fd [x] (sp w))
    (promise : ∀ (w : World) (H : Hp) (a : Addr) (ns : List Int), ns.length ≤ n → SqL (K w.params) H a (ns.map V.int) → sp w [.ref a] H (fun v _ => v = .bl true) fun _ _ _ => False) :
    PySem.W.WalkO q loose XP YP l.row.toRowW d [] (fun f vs => PySem.call f vs) := by
  refine Att.attach_call hn hdf ?_
  intro w s₀ s₁ mg mb fa o pm cd doc a vs ns G Y _ _ _ named obj nums len gens
  obtain ⟨inK, o2, e2, n2⟩ := hY w _ Y
  obtain ⟨fd, binds, hF⟩ := F w mg fa _ inK G.T.g named
  exact called inK G.T.g G.T.b G.T.builtins G.T.nolimit gens obj nums (Nat.le_trans len hn2) room (fun base kb nb old => hF base ⟨o2, old _ _ e2 n2, n2⟩ kb nb) binds fun H seq => promise w H a ns len seq
end Br

/-! BrMS: an instance whose making may raise; len and == by the own methods; lists taken apart, repeated, turned round. -/
namespace Br
open PySem PySem.Spec PyProof.Rows L2
/-- C(e, ..) where __init__ may raise -/
def tMakeS (C : Addr) (sp : Sp) (E : L2.St → XK) (t : TA) : TE := fun σ H Q => t σ H fun vs H1 => ∀ x dx, H1 x = none → H1 dx = none → dx ≠ x →
  sp (.ref x :: vs) (upd (upd H1 dx (.own x)) x (.ins C dx [])) (fun v H2 => v = .non ∧ Q (.ref x) H2) (E σ)
section
variable {X : Cx} {CX : CXT} {k : Nat} {C f : Addr} {fd : FuncData} {ps : List Str} {sp : Sp} {E : L2.St → XK} {x : Str} {p pos : Pos} {e : Expr} {es : List Expr} {t : TA}
theorem run_makeS {pins : List (Addr × Obj)} {σ : L2.St} {H : Hp} {s : Shared} {Q : VK} {us : List Value} {vs : List V} (M : Mk X.K C f) (F : FnOk X.prog X.w X.K X.mg X.base CX k f fd ps sp) (hr : Room (k + 1) X.A) (hb : Binds X.K fd ps []) (hx : PassesAt CX X σ (E σ)) (I : Inv X pins σ H s) (r : Vals vs us)
    (h : ∀ x dx, H x = none → H dx = none → dx ≠ x → sp (.ref x :: vs) (upd (upd H dx (.own x)) x (.ins C dx [])) (fun v H2 => v = .non ∧ Q (.ref x) H2) (E σ)) : wpAny (model X.prog X.w) X.A (call (.ref C) us) (EP X pins σ Q) X.xe s := by
  have hq := h (s.heap.objs.size + 1) s.heap.objs.size (I.hok.fresh (Nat.le_succ _)) (I.hok.fresh (Nat.le_refl _)) (Nat.ne_of_lt (Nat.lt_succ_self _))
  have J := Inv.made (C := C) I
  have rs : Vals (V.ref (s.heap.objs.size + 1) :: vs) (Value.ref (s.heap.objs.size + 1) :: us) := .cons rfl r
  have many := rs.length
  rw [F.len _ _ _ _ hq] at many
  have rs2 : Vals (V.ref (s.heap.objs.size + 1) :: vs) (Value.ref (s.heap.objs.size + 1) :: us ++ []) := by rw [List.append_nil]; exact rs
  refine wpAny_call (make_map (f := f) I.kIn M.makes M.init (beq_iff_eq.mp M.fn) (codeAny_mono (F.run _ X.stack _ _ ⟨Value.ref (s.heap.objs.size + 1) :: us, []⟩ _ _ _ (E σ) (hr.make C us []) (J.env0.make C us []) (hb _ (Value.ref (s.heap.objs.size + 1) :: us) J.kIn (by rw [List.append_nil]; exact many.symm)) rs2 hq) fun r s' back => ?_))
  cases r with
  | error er => exact hx pins _ _ er s' J back
  | ok fl =>
    cases fl with
    | ret u =>
      obtain ⟨v, H', J', rv, rfl, q⟩ := J.after back
      exact ⟨rv, V.ref (s.heap.objs.size + 1), H', J', rfl, q⟩
    | next => exact False.elim back
    | brk => exact False.elim back
    | cont => exact False.elim back
theorem pe_makeS (M : Mk X.K C f) (F : FnOk X.prog X.w X.K X.mg X.base CX k f fd ps sp) (hr : Room (k + 1) X.A) (hg : Gl X x) (hm : X.mg x = some (.ref C)) (hb : Binds X.K fd ps []) (hx : ∀ σ, PassesAt CX X σ (E σ))
    (ha : PA X (e :: es) t) (hdb : (x == ("__debug__" : Str)) = false := by decide) (h1 : starEach (e :: es) X.env = (false, eval e X.env) :: starEach es X.env := by rfl) (h2 : (backTo pos (starEach es X.env)).any (·.1) = false := by rfl) :
    PE X (.Call (.Name x p) (e :: es) [] pos) (tMakeS C sp E t) :=
  ⟨fun pins s σ H Q I h => wpAny_Call_Name_kw (ld_glob I hg hm (PySem.W.callWith_K (h₀ := X.base) I.ok.mod.kin M.kp (thn (ha.run pos pins _ σ H _ (I.tok _) h) fun us s1 ⟨vs, H1, I1, r, q⟩ => ⟨I1.kIn, run_makeS M F hr hb (hx σ) I1 r q⟩) h1 h2) hdb)⟩
end
section
variable {K : PySem.W.Frag} {X : Xc} {S : Sa} {Q : Sv → Os → Prop} {t : TA}
theorem ew_makeS {C : Addr} {f : FD} {wx : WX} {xe : Addr → List (Str × D) → Sa → Prop}
    (h : AW K ⟨wx, xe⟩ t S fun ds os => f (.o os.length :: ds) (os ++ [.mi C []]) (fun d os' => d = .non ∧ ∃ os2 fds, os' = os2 ++ [.mi C fds] ∧ Q (.d (.ob C fds)) os2) fun C' fds os' => ∃ os2 ob, os' = os2 ++ [ob] ∧ xe C' fds ⟨S.s, os2⟩) : EW K ⟨wx, xe⟩ (tMakeS C (spD K f) (WE wx) t) S Q := fun as H σ Q' R x k =>
  h as H σ _ R x fun vs H1 ds os1 g1 R1 r1 q1 x0 dx hx hdx hne => by
    have R2 := ro_addI (C := C) R1 hx hdx hne
    have g2 : Go as H1 (upd (upd H1 dx (.own x0)) x0 (.ins C dx [])) := (Go.new hdx).trans (Go.new (by rw [upd_ne (Ne.symm hne)]; exact hx))
    have s2 : Stp as H1 (as ++ [x0]) (upd (upd H1 dx (.own x0)) x0 (.ins C dx [])) := ⟨⟨[x0], rfl, fun a ha => by rw [List.mem_singleton.mp ha]; exact hx⟩, g2, fun a ha => by
      by_cases e1 : a = x0
      · rw [e1]; exact hx
      · rw [upd_ne e1] at ha
        by_cases e2 : a = dx
        · rw [e2]; exact hdx
        · rw [upd_ne e2] at ha
          exact ha⟩
    have rs : ∀ {us : List V} {es : List Sv}, SvA K as H1 us es → SvA K (as ++ [x0]) (upd (upd H1 dx (.own x0)) x0 (.ins C dx [])) us es := fun {us es} r => by
      induction r with
      | nil => exact .nil
      | cons h _ ih => exact .cons (h.stp s2) ih
    have back : ∀ {H' : Hp}, Go (as ++ [x0]) (upd (upd H1 dx (.own x0)) x0 (.ins C dx [])) H' → Go as H1 H' := fun {H'} g3 a o e n => g3 a o (g2 a o e n) fun z => by
      rcases List.mem_append.mp z with z | z
      · exact n z
      · rw [List.mem_singleton.mp z, hx] at e
        cases e
    refine ⟨as ++ [x0], os1 ++ [.mi C []], .o os1.length :: ds, _, _, R2, .cons ⟨x0, by rw [← R1.len]; simp, rfl⟩ (rs r1), q1, fun v H' d os' g3 R3 r3 ⟨ed, os2, fds, eo, q⟩ => ?_, fun C' dd H' fs fds os' g3 R3 nd ed rf ⟨os2, ob, eo, q⟩ => ?_⟩
    · subst ed
      subst eo
      cases r3
      obtain ⟨Rf, ⟨dx', vs', h1, h2, h3, h4⟩, nin⟩ := ro_drop R3
      exact ⟨rfl, k (.ref x0) H' (.d (.ob C fds)) os2 (g1.trans (back g3)) Rf (Dx.ob nin h2 h1 h3 h4) q⟩
    · subst eo
      obtain ⟨Rf, _, nin⟩ := ro_drop R3
      have g5 := back g3
      have sub : ∀ a ∈ as, a ∈ as ++ [x0] := fun a ha => List.mem_append_left _ ha
      have n1 : H1 dd = none := by
        by_cases e1 : dd = x0
        · rw [e1]; exact hx
        · rw [upd_ne e1] at nd
          by_cases e2 : dd = dx
          · rw [e2]; exact hdx
          · rw [upd_ne e2] at nd
            exact nd
      exact x H' C' dd fs fds os2 (g1.trans g5) Rf (g1.free (R1.notin n1) n1) ed (rf.way (Way.of_sub sub)) q
end
/-! ### len and == by the own methods -/
/-- the class at C, without a base, with an own __len__ -/
structure LnC (K : PySem.W.Frag) (C f : Addr) : Prop where
  cls : ∃ nm q N bs hdct sn sub ab col dd k0 k1 k2 k3 k5 newId, K.lookup C = some (excClassObj nm q C N bs [.type "object"] hdct sn sub ab col dd k0 k1 k2 k3 k5 newId) ∧
    (∃ oc od es ep sl, K.lookup N = some ⟨oc, od, .dict es ep, sl⟩ ∧ strKeysB es = true) ∧ PySem.W.nsIn K N "__len__" = some (some (.ref f))
theorem obj_len : typeLookup (.type "object") "__len__" = pure none := by
  rw [typeLookup_type, builtinLookup_eq_fast]
  kernel_rfl
/-- len(x), x of the class at C -/
def rLenI (C : Addr) (sp : Sp) : List V → Hp → VK → Prop := fun xs H Q => ∃ a dx fs, xs = [.ref a] ∧ H a = some (.ins C dx fs) ∧ sp [.ref a] H (fun v H' => ∃ n : Nat, v = .int (n : Int) ∧ n < 2 ^ 63 ∧ Q (.int (n : Int)) H') fun _ _ _ => False
section
variable {X : Cx} {C f : Addr} {fd : FuncData} {k : Nat} {sp : Sp}
theorem call_lenI (T : LnC X.K C f) (tf : PySem.W.typeIn X.K (.ref f) = some (.type "function")) (G : FnOk X.prog X.w X.K X.mg X.base CX0 k f fd ["self"] sp) (hb : Binds X.K fd ["self"] []) (hr : Room (k + 1) X.A) : CallR X (.builtin "len") (rLenI C sp) := by
  intro pins s σ H xs us Q I r h
  obtain ⟨a, dx, fs, rfl, ha, hs⟩ := h
  obtain ⟨u, rfl, rx⟩ := vals1 r
  cases (show u = Value.ref a from rx)
  obtain ⟨mA, J, _⟩ := ins_get I.hok ha
  obtain ⟨oa, Ja, _⟩ := J.look
  obtain ⟨nm, q, N, bs, hdct, sn, sub, ab, col, dd, k0, k1, k2, k3, k5, newId, hC, ⟨oc, od, es, ep, sl, hN, hk⟩, hq⟩ := T.cls
  obtain ⟨of, hof, hft⟩ := Option.map_eq_some_iff.mp (show (X.K.lookup f).map (·.cls) = some (.type "function") from tf)
  have hn : s.heap.Ns N (nsFind es) := ⟨_, es, ep, I.kIn _ _ hN, rfl, strKeys_of hk, fun _ => rfl⟩
  have e0 : Env0 X.prog X.w X.K X.mg X.base X.A.in1 X.stack s H := by
    have e := I.env0
    exact ⟨e.frames, e.mod, e.bs, e.bsz, e.funs, e.frf, e.hok, e.bare⟩
  obtain ⟨hp, g, d, tk, os⟩ := s
  obtain ⟨ea, ca, _, _⟩ := Ja
  have XX : hp.OwnSpecial a C f "object" "__len__" := ⟨_, of, nm, q, N, bs, [.type "object"], hdct, sn, sub, ab, col, dd, k0, k1, k2, k3, k5, newId, nsFind es, _, ea, ca, I.kIn _ _ hC, hn, ns_find hN hq, I.kIn _ _ hof, hft, F.cmp_object.mro, obj_len⟩
  refine len_own XX (wpAny_call (codeAny_mono (G.run X.A.in1 X.stack ⟨hp, g, d, tk, os⟩ H ⟨[.ref a], []⟩ [.ref a] [.ref a] _ _ hr.in1 e0 (by
    have z := hb ⟨hp, g, d, tk, os⟩ [.ref a] I.kIn rfl
    simpa using z) (.cons rfl .nil) hs) fun r s' back => ?_))
  cases r with
  | error e => exact back.elim
  | ok fl =>
    cases fl with
    | ret w =>
      obtain ⟨z, H', J', rz, n, rfl, hlt, q2⟩ := I.after back
      obtain ⟨t, rfl⟩ := (show ∃ t, w = Value.int (n : Int) t from rz)
      exact ⟨(n : Int), t, rfl, by omega, by omega, .int (n : Int), H', J'.tok _, ⟨_, rfl⟩, q2⟩
    | next => exact False.elim back
    | brk => exact False.elim back
    | cont => exact False.elim back
/-- x == y by the own ==, y a tuple -/
def rEqIT (K : PySem.W.Frag) (C : Addr) (sp : Sp) : R2 := fun x y H Q => ∃ a b dx fs ys, x = .ref a ∧ y = .ref b ∧ H a = some (.ins C dx fs) ∧ SqT K H b ys ∧ sp [.ref a, .ref b] H (fun v H' => ∃ r, v = .bl r ∧ Q (.bl r) H') fun _ _ _ => False
theorem op_eqIT (hs : PySem.W.findIn X.K (.ref C) "__eq__" = some (some (.ref f))) (tf : PySem.W.isFn X.K (.ref f) = true) (hno : PySem.W.notFirst X.K C (.type "tuple") = true) (G : FnOk X.prog X.w X.K X.mg X.base CX0 k f fd ["self", "other"] sp) (hb : Binds X.K fd ["self", "other"] []) (hr : Room (k + 1) X.A) :
    OpR X (compareOp .Eq) (rEqIT X.K C sp) := by
  intro pins s σ H x y v u Q I rx ry h
  obtain ⟨a, b, dx, fs, ys, rfl, rfl, ha, hys, hsp⟩ := h
  cases (show v = Value.ref a from rx)
  cases (show u = Value.ref b from ry)
  obtain ⟨mA, J, _⟩ := ins_get I.hok ha
  obtain ⟨oa, Ja, _⟩ := J.look
  obtain ⟨its, rv, ⟨ob, hob, hoc, _, _⟩, _⟩ := I.tuple hys
  obtain ⟨m, fr⟩ := I.fr
  have hu : X.A.units < cLine := by
    have := hr.un
    omega
  have LT : PySem.W.Looks (model X.prog X.w) s.heap (typeOf (.ref b)) (.type "tuple") := fun A Q E s k q => wpAny_typeOf_ref (k _ _ hob) (by rw [hoc]; exact q)
  refine PySem.W.cmp_ofEq (PySem.W.cmp_K hu fr I.ok.mod.kin Ja LT hno hs tf (wpAny_call (codeAny_mono (G.run X.A X.stack s H ⟨[.ref a, .ref b], []⟩ [.ref a, .ref b] [.ref a, .ref b] _ _ (hr.mono (Nat.le_succ _)) I.env0 (by
    have z := hb s [.ref a, .ref b] I.kIn rfl
    simpa using z) (.cons rfl (.cons rfl .nil)) hsp) fun r s' back => ?_)))
  cases r with
  | error e => exact back.elim
  | ok fl =>
    cases fl with
    | ret w =>
      obtain ⟨z, H', J', rz, c, ez, q2⟩ := I.after back
      subst ez
      cases rz
      exact ⟨.bl c, H', J', rfl, q2⟩
    | next => exact False.elim back
    | brk => exact False.elim back
    | cont => exact False.elim back
end
/-! ### taken apart: a tuple or a list -/
def gTL (K : PySem.W.Frag) (n : Nat) (t : TGs) : TG := fun v σ H Q => gTup K n t v σ H Q ∨ gLst K n t v σ H Q
theorem pg_tl {X : Cx} {pos : Pos} {es : List Expr} {k : Nat} {t : TGs} {n : Nat} (hc : X.calm = true) (h : PGs X es t) (hn : (assignEach es X.env).length = n := by rfl) (hst : (assignEach es X.env).findIdx? (·.1) = none := by rfl) : PG X (.Tuple es k pos) (gTL X.K n t) :=
  ⟨fun pins s σ H v u Q I r hw => hw.elim (fun z => (pg_tup hc h hn hst).run pins s σ H v u Q I r z) fun z => (pg_lst hc h hn hst).run pins s σ H v u Q I r z⟩
section
variable {K : PySem.W.Frag} {X : Xc} {S : Sa} {os : Os} {Q : Sv → Os → Prop} {te : TE} {ta : TA}
theorem gw_tl {gs : TGs} {n : Nat} {xs : List D} {d : D} {Q : Sa → Prop} (hd : d = .tup xs ∨ d = .lst xs) (hn : xs.length = n) (h : GsW K gs xs S Q) : GW K (gTL K n gs) (.d d) S Q := fun as H σ v Q' R r k => by
  rcases hd with rfl | rfl
  · cases r with
    | tup hl hr => exact .inl ⟨_, _, rfl, hl.sq, by rw [hr.length]; exact hn, h as H σ _ Q' R hr k⟩
  · cases r with
    | lst hl hr => exact .inr ⟨_, _, rfl, hl.sq, by rw [hr.length]; exact hn, h as H σ _ Q' R hr k⟩
/-- len by the own method -/
theorem cw_lenI {C : Addr} {f : FD} {fs : List (Str × D)} (h : f [.d (.ob C fs)] os (fun d os' => ∃ n : Nat, d = .int (n : Int) ∧ n < 2 ^ 63 ∧ Q (.d (.int (n : Int))) os') fun _ _ _ => False) : CW K (rLenI C (spD K f)) [.d (.ob C fs)] os Q := fun as H vs Q' R rx k => by
  cases rx with
  | cons r t =>
    cases t
    have r' : Dx K as H _ (.ob C fs) := r
    cases r' with
    | ob n1 n2 h1 h2 hr =>
      refine ⟨_, _, _, rfl, h1, as, os, [.d (.ob C fs)], _, _, R, .cons (show SvR K as H _ (.d (.ob C fs)) from Dx.ob n1 n2 h1 h2 hr) .nil, h, fun v H' d os' g R' r' ⟨n, ed, hl, q⟩ => ?_, fun _ _ _ _ _ _ _ _ _ _ _ z => z.elim⟩
      subst ed
      cases r'
      exact ⟨n, rfl, hl, k _ _ (.d (.int (n : Int))) os' g R' (Dx.int _) q⟩
/-- == by the own method, to a tuple -/
theorem bw_eqIT {C : Addr} {f : FD} {fs : List (Str × D)} {ys : List D} (h : f [.d (.ob C fs), .d (.tup ys)] os (fun d os' => ∃ r, d = .bl r ∧ Q (.d (.bl r)) os') fun _ _ _ => False) : BW K (rEqIT K C (spD K f)) (.d (.ob C fs)) (.d (.tup ys)) os Q := fun as H v u Q' R rx ry k => by
  have rx' : Dx K as H v (.ob C fs) := rx
  have ry' : Dx K as H u (.tup ys) := ry
  cases rx' with
  | ob n1 n2 h1 h2 hr =>
    cases ry' with
    | tup hl ht =>
      refine ⟨_, _, _, _, _, rfl, rfl, h1, hl.sq, as, os, [.d (.ob C fs), .d (.tup ys)], _, _, R, .cons (show SvR K as H _ (.d (.ob C fs)) from Dx.ob n1 n2 h1 h2 hr) (.cons (show SvR K as H _ (.d (.tup ys)) from Dx.tup hl ht) .nil), h, fun v H' d os' g R' r' ⟨c, ed, q⟩ => ?_, fun _ _ _ _ _ _ _ _ _ _ _ z => z.elim⟩
      subst ed
      cases r'
      exact ⟨c, rfl, k _ _ (.d (.bl c)) os' g R' (Dx.bl _) q⟩
/-- [e, ..] * i -/
theorem ew_repL {i : Int} (h : AW K X ta S fun xs os => ∃ ds, unD xs = some ds ∧ ds.length ≤ sizeLine ∧ (0 ≤ i ∧ i < 2 ^ 63) ∧ ds.length * i.toNat ≤ sizeLine ∧ Q (.d (.lst (List.replicate i.toNat ds).flatten)) os) : EW K X (tOp rRep (tLst ta) (tC (.int i))) S Q := fun as H σ Q' R x k =>
  h as H σ _ R x fun vs H1 xs os1 g1 R1 r1 ⟨ds, e, hl, hi, hz, q⟩ => by
    have hd := (unD_all e).dx r1
    refine ⟨by rw [hd.length]; exact hl, fun p hp => ⟨p, i, vs, rfl, rfl, upd_same, by omega, by omega, by rw [hd.length]; exact hz, fun p2 hp2 => ?_⟩⟩
    have hne : p2 ≠ p := fun z => by
      rw [z, upd_same] at hp2
      cases hp2
    rw [upd_ne hne] at hp2
    have g2 : Go as H1 (upd H1 p (.lst vs)) := Go.new hp
    have R2 : Ro K as (upd H1 p (.lst vs)) os1 := R1.new hp
    have hp3 : upd H1 p (.lst vs) p2 = none := by rw [upd_ne hne]; exact hp2
    have rep : ∀ n : Nat, DxA K as (upd H1 p (.lst vs)) (List.replicate n vs).flatten (List.replicate n ds).flatten := fun n => by
      induction n with
      | zero => exact .nil
      | succ n ih =>
        rw [List.replicate_succ, List.replicate_succ, List.flatten_cons, List.flatten_cons]
        exact (hd.way (Way.of_go g2)).app ih
    exact k (.ref p2) _ (.d (.lst (List.replicate i.toNat ds).flatten)) os1 ((g1.trans g2).trans (Go.new hp3)) (R2.new hp3) (dx_newL R2 hp3 (rep _)) q
theorem ew_revL (h : EW K X te S fun x os => ∃ xs, x = .d (.lst xs) ∧ Q (.d (.lst xs.reverse)) os) : EW K X (tRevL K te) S Q := fun as H σ Q' R x k =>
  h as H σ _ R x fun v H1 d os1 g1 R1 r1 ⟨xs, e, q⟩ => by
    subst e
    cases r1 with
    | lst hl hr => exact ⟨_, _, rfl, hl.sq, fun p hp => k (.ref p) _ (.d (.lst xs.reverse)) os1 (g1.trans (Go.new hp)) (R1.new hp) (dx_newL R1 hp hr.rev) q⟩
/-- a list of the store, put ahead of a list -/
theorem bw_catO {j : Nat} {xs ys : List D} (e : os[j]? = some (.ml xs)) (hl : xs.length + ys.length ≤ sizeLine) (q : Q (.d (.lst (xs ++ ys))) os) : BW K (rCatL K) (.o j) (.d (.lst ys)) os Q := fun as H v u Q' R rx ry k => by
  obtain ⟨a, ws, rfl, hs, hr⟩ := o_list R rx e
  have ry' : Dx K as H u (.lst ys) := ry
  cases ry' with
  | lst h3 h4 => exact ⟨_, _, _, _, rfl, rfl, hs, h3.sq, by rw [hr.length, h4.length]; exact hl, fun p hp => k (.ref p) _ (.d (.lst (xs ++ ys))) os (Go.new hp) (R.new hp) (dx_newL R hp (hr.app h4)) q⟩
theorem bw_neB {a b : Bool} (q : Q (.d (.bl (!decide (a = b)))) os) : BW K rNe (.d (.bl a)) (.d (.bl b)) os Q :=
  bw_pure (fun as H v u Q' R rx ry k => by
    cases rx
    cases ry
    have e : decide (V.bl a = V.bl b) = decide (a = b) := by simp
    exact ⟨rfl, by rw [e]; exact k _ (.bl _)⟩) q
end
end Br

/-! BrCG: calls of defs that stand at the law's own guards; an instance made by names alone; isinstance of an own class over plain things. -/
namespace Br
open PySem PySem.Spec PyProof.Rows L2
section
variable {X : Cx} {k : Nat} {f : Addr} {fd : FuncData} {ps : List Str} {sp : Sp} {x : Str} {p pos : Pos} {e : Expr} {es : List Expr} {t : TA}
theorem run_fnG {pins : List (Addr × Obj)} {σ : L2.St} {H : Hp} {s : Shared} {Q : VK} {us : List Value} {vs : List V} (F : FnG X.prog X.w X.K X.mg X.base k f fd ps sp) (hgd : X.A.guards = some []) (hr : Room k X.A) (hb : Binds X.K fd ps []) (I : Inv X pins σ H s) (r : Vals vs us) (h : sp vs H Q E0) :
    wpAny (model X.prog X.w) X.A (call (.ref f) us) (EP X pins σ Q) X.xe s := by
  have many := r.length
  rw [F.len _ _ _ _ h] at many
  refine wpAny_call (codeAny_mono (F.run X.A X.stack s H ⟨us, []⟩ us vs Q _ hgd hr I.env0 (by
    have z := hb s us I.kIn (by simpa using many.symm)
    simpa using z) r h) fun r s' back => ?_)
  cases r with
  | error e => exact back.elim
  | ok fl =>
    cases fl with
    | ret w =>
      obtain ⟨z, H', J', rz, q2⟩ := I.after back
      exact ⟨z, H', J', rz, q2⟩
    | next => exact False.elim back
    | brk => exact False.elim back
    | cont => exact False.elim back
theorem pe_callG (F : FnG X.prog X.w X.K X.mg X.base k f fd ps sp) (hgd : X.A.guards = some []) (hr : Room k X.A) (hg : Gl X x) (hm : X.mg x = some (.ref f)) (hk : PySem.W.keepIn X.K (.ref f) = true) (hb : Binds X.K fd ps []) (ha : PA X (e :: es) t)
    (hdb : (x == ("__debug__" : Str)) = false := by decide) (h1 : starEach (e :: es) X.env = (false, eval e X.env) :: starEach es X.env := by rfl) (h2 : (backTo pos (starEach es X.env)).any (·.1) = false := by rfl) :
    PE X (.Call (.Name x p) (e :: es) [] pos) (tCall sp [] E0 t) :=
  ⟨fun pins s σ H Q I h => wpAny_Call_Name_kw (ld_glob I hg hm (PySem.W.callWith_K (h₀ := X.base) I.ok.mod.kin hk (thn (ha.run pos pins _ σ H _ (I.tok _) h) fun us s1 ⟨vs, H1, I1, r, q⟩ => ⟨I1.kIn, run_fnG F hgd hr hb I1 r (by have q2 : sp (vs ++ []) H1 Q E0 := q; rw [List.append_nil] at q2; exact q2)⟩) h1 h2) hdb)⟩
end
section
variable {K : PySem.W.Frag} {X : Xc} {S : Sa} {Q : Sv → Os → Prop} {te : TE} {tk : TA}
theorem ew_makeK {m : Nat} {C : Addr} {f : FD} {gV : List V → List V → List V} {gS : List Sv → List Sv → List Sv} {E : XK} (hg : ∀ as H vs zs ds es, SvA K as H vs ds → SvA K as H zs es → SvA K as H (gV vs zs) (gS ds es))
    (h : AW K X tk S fun es os => es.length = m ∧ f (gS [.o os.length] es) (os ++ [.mi C []]) (fun d os' => d = .non ∧ ∃ os2 fds, os' = os2 ++ [.mi C fds] ∧ Q (.d (.ob C fds)) os2) fun _ _ _ => False) : EW K X (tMakeK C 0 m (spD K f) gV E tNil tk) S Q := fun as H σ Q' R x k =>
  h as H σ _ R x fun zs H1 es os1 g1 R1 r1 ⟨l1, q1⟩ => ⟨rfl, by rw [r1.length]; exact l1, fun x0 dx hx hdx hne => by
    have R2 := ro_addI (C := C) R1 hx hdx hne
    have g2 : Go as H1 (upd (upd H1 dx (.own x0)) x0 (.ins C dx [])) := (Go.new hdx).trans (Go.new (by rw [upd_ne (Ne.symm hne)]; exact hx))
    have s2 : Stp as H1 (as ++ [x0]) (upd (upd H1 dx (.own x0)) x0 (.ins C dx [])) := ⟨⟨[x0], rfl, fun a ha => by rw [List.mem_singleton.mp ha]; exact hx⟩, g2, fun a ha => by
      by_cases e1 : a = x0
      · rw [e1]; exact hx
      · rw [upd_ne e1] at ha
        by_cases e2 : a = dx
        · rw [e2]; exact hdx
        · rw [upd_ne e2] at ha
          exact ha⟩
    have rs : ∀ {us : List V} {es : List Sv}, SvA K as H1 us es → SvA K (as ++ [x0]) (upd (upd H1 dx (.own x0)) x0 (.ins C dx [])) us es := fun {us es} r => by
      induction r with
      | nil => exact .nil
      | cons h _ ih => exact .cons (h.stp s2) ih
    refine ⟨as ++ [x0], os1 ++ [.mi C []], gS [.o os1.length] es, _, _, R2, hg _ _ _ _ _ _ (.cons ⟨x0, by rw [← R1.len]; simp, rfl⟩ .nil) (rs r1), q1, fun v H' d os' g3 R3 r3 ⟨ed, os2, fds, eo, q⟩ => ?_, fun _ _ _ _ _ _ _ _ _ _ _ z => z.elim⟩
    subst ed
    subst eo
    cases r3
    obtain ⟨Rf, ⟨dx', vs', h1, h2, h3, h4⟩, nin⟩ := ro_drop R3
    have g5 : Go as H1 H' := fun a o e n => g3 a o (g2 a o e n) fun z => by
      rcases List.mem_append.mp z with z | z
      · exact n z
      · rw [List.mem_singleton.mp z, hx] at e
        cases e
    exact ⟨rfl, k (.ref x0) H' (.d (.ob C fds)) os2 (g1.trans g5) Rf (Dx.ob nin h2 h1 h3 h4) q⟩⟩
/-- isinstance(x, C) of a plain thing -/
theorem ew_isiP {C : Addr} (h : EW K X te S fun x os => ∃ d a r, x = .d d ∧ d.ty = some a ∧ PySem.W.kitOne K (.type a) (.ref C) = some r ∧ Q (.d (.bl r)) os) : EW K X (tCB (rIsi K) (tCons te (tCons (tC (.ref C)) tNil))) S Q := fun as H σ Q' R x k =>
  h as H σ _ R x fun v H1 d os1 g1 R1 r1 ⟨e, a, r, ed, ea, er, q⟩ => by
    subst ed
    exact ⟨v, .ref C, .type a, .ref C, r, rfl, .own C, dx_ty r1 ea, er, k (.bl r) H1 (.d (.bl r)) os1 g1 R1 (Dx.bl r) q⟩
end
end Br

/-! BrEO: enumerate over a list of the store, isinstance of it among two types, x = list(t) as a list of the store. -/
namespace Br
open PySem PySem.Spec PyProof.Rows L2
section
variable {K : PySem.W.Frag} {X : Xc} {S : Sa} {E : Ea} {te : TE} {tl : TA}
/-- for .. in enumerate(a list of the store that stays as it is) -/
theorem w_forEnO {g : TG} {tb : TS} (h : AW K X tl S fun xs os => ∃ j ds, xs = [.o j] ∧ os[j]? = some (.ml ds) ∧ ∃ Pv : Nat → Sa → Prop, Pv 0 ⟨S.s, os⟩ ∧ (∀ i S', Pv i S' → S'.os[j]? = some (.ml ds)) ∧
      (∀ i d S', ds[i]? = some d → Pv i S' → GW K g (.d (.tup [.int (i : Nat), d])) S' (W K X tb { nx := Pv (i + 1), ct := Pv (i + 1), bk := E.nx, rt := E.rt })) ∧ ∀ S', Pv ds.length S' → E.nx S') : W K X (tFor (iEn K tl) g tb) E S := fun as H σ D R x n r b c =>
  h as H σ _ R (x.h R) fun vs0 H1 xs0 os1 g1 R1 r1 ⟨j, ds, ed, eo, Pv, p0, stay, turn, fin⟩ => by
    subst ed
    cases r1 with
    | cons r1 rn =>
    cases rn
    obtain ⟨a, ea, rfl⟩ := r1
    have s1 : Stp as H as H1 := Stp.of_go g1 R1
    have seq : ∀ {bs H2 os2}, Stp as H1 bs H2 → Ro K bs H2 os2 → os2[j]? = some (.ml ds) → ∃ vs, H2 a = some (.lst vs) ∧ DxA K bs H2 vs ds := fun {bs H2 os2} s R2 e => by
      obtain ⟨nw, eb, _⟩ := s.pre
      have ha : bs[j]? = some a := by rw [eb, List.getElem?_append_left (List.getElem?_eq_some_iff.mp ea).1]; exact ea
      obtain ⟨vs, h1, h2⟩ := R2.own j a _ ha e
      exact ⟨vs, h1, h2⟩
    obtain ⟨ws, hw, _⟩ := seq Stp.refl R1 eo
    refine ⟨a, ws, rfl, .inl ⟨.inl (.inl hw), fun i m σ H2 => m = ds.length - i ∧ i ≤ ds.length ∧ ∃ bs S', Stp as H1 bs H2 ∧ Re K bs H2 σ S' ∧ Pv i S', ⟨_, rfl, Nat.zero_le _, as, _, Stp.refl, R.go g1 R1, p0⟩, ?_⟩⟩
    rintro i m σ2 H2 ⟨rfl, hi, bs, S2, s2, R2, p⟩
    obtain ⟨vs, h1, h2⟩ := seq s2 R2.o (stay i S2 p)
    by_cases hlt : i < ds.length
    · have hd : ds[i]? = some ds[i] := List.getElem?_eq_getElem hlt
      obtain ⟨u, e1, e2⟩ := h2.get hd
      refine .inr ⟨⟨vs, u, .inl (.inl h1), e1⟩, fun σ' H' => ∃ cs S', Stp as H1 cs H' ∧ Re K cs H' σ' S' ∧ Pv (i + 1) S', fun σ' H' z => ⟨ds.length - (i + 1), by omega, rfl, hlt, z⟩, fun y H3 hyl => ?_⟩
      obtain ⟨T, x2, rfl, hT, rfl, hy⟩ := hyl
      have z := hy vs (.inl (.inl h1))
      rw [e1] at z
      cases z
      have R3 := R2.o.new (o := .tup [.int (i : Nat), u]) hT
      have s3 : Stp bs H2 bs (upd H2 T (.tup [.int (i : Nat), u])) := Stp.of_go (Go.new hT) R3
      refine turn i _ S2 hd p bs _ σ2 _ _ (R2.go (Go.new hT) R3) (dx_newT R2.o hT (.cons (.int _) (.cons e2 .nil))) fun σ4 S4 R4 w => ?_
      refine w bs _ σ4 _ R4 ((x.stp s1).stp (s2.trans s3)) (fun cs H5 σ5 S5 s5 R5 q5 => ⟨cs, S5, (s2.trans s3).trans s5, R5, q5⟩) (fun cs H5 v d os5 s5 R5 r5 q5 => r cs H5 v d os5 (((s1.trans s2).trans s3).trans s5) R5 r5 q5)
        (fun cs H5 σ5 S5 s5 R5 q5 => n cs H5 σ5 S5 (((s1.trans s2).trans s3).trans s5) R5 q5) (fun cs H5 σ5 S5 s5 R5 q5 => ⟨cs, S5, (s2.trans s3).trans s5, R5, q5⟩)
    · have e : i = ds.length := by omega
      subst e
      exact .inl ⟨⟨vs, .inl (.inl h1), by rw [h2.length]; exact Nat.le_refl _⟩, n bs H2 σ2 S2 (s1.trans s2) R2 (fin S2 p)⟩
/-- x = list(a tuple or a list), a list that changes -/
theorem w_asgLo {i : Nat} (h : AW K X tl S fun xs os => ∃ ds, (xs = [.d (.tup ds)] ∨ xs = [.d (.lst ds)]) ∧ E.nx ⟨S.s.set i (some (.o os.length)), os ++ [.ml ds]⟩) : W K X (tAsg (tCB (rListOf K) tl) (gName i)) E S := fun as H σ D R x n r b c =>
  h as H σ _ R (x.h R) fun vs H1 xs os1 g1 R1 r1 ⟨ds, e, q⟩ => by
    have hv : ∃ a ws, vs = [.ref a] ∧ (SqL K H1 a ws ∨ SqT K H1 a ws) ∧ DxA K as H1 ws ds := by
      rcases e with rfl | rfl
      · cases r1 with
        | cons r1 rn =>
          cases rn
          cases (show Dx K as H1 _ (.tup ds) from r1) with
          | @tup a ws _ hl hr => exact ⟨a, ws, rfl, .inr hl.sq, hr⟩
      · cases r1 with
        | cons r1 rn =>
          cases rn
          cases (show Dx K as H1 _ (.lst ds) from r1) with
          | @lst a ws _ hl hr => exact ⟨a, ws, rfl, .inl hl.sq, hr⟩
    obtain ⟨a, ws, rfl, hs, hd⟩ := hv
    refine ⟨a, ws, rfl, hs, fun p hp => ?_⟩
    have R2 := ro_addL R1 hp hd
    have s2 : Stp as H1 (as ++ [p]) (upd H1 p (.lst ws)) := stp_add hp
    have sN := (Stp.of_go g1 R1).trans s2
    have RR : Re K (as ++ [p]) (upd H1 p (.lst ws)) σ ⟨S.s, os1 ++ [.ml ds]⟩ := ⟨R2, R.slen, fun j d hd => by
      obtain ⟨u, e, z⟩ := R.slot j d hd
      exact ⟨u, e, z.stp sN⟩⟩
    exact n _ _ _ _ sN (RR.set i (v := .ref p) (d := .o os1.length) ⟨p, by rw [← R1.len]; simp, rfl⟩) q
end
section
variable {K : PySem.W.Frag} {X : Xc} {S : Sa} {Q : Sv → Os → Prop} {te : TE}
theorem ew_isi2O {n1 n2 : String} (h : EW K X te S fun x os => ∃ j xs r, x = .o j ∧ os[j]? = some (.ml xs) ∧ PySem.W.kitAny K (.type "list") [.type n1, .type n2] = some r ∧ Q (.d (.bl r)) os) : EW K X (tCB (rIsiT K) (tCons te (tCons (tTup (tCons (tC (.ty n1)) (tCons (tC (.ty n2)) tNil))) tNil))) S Q := fun as H σ Q' R x k =>
  h as H σ _ R x fun v H1 d os1 g1 R1 r1 ⟨j, xs, r, ed, eo, er, q⟩ => by
    subst ed
    refine ⟨by show 2 ≤ sizeLine; decide, fun p hp => ?_⟩
    have g2 : Go as H1 (upd H1 p (.tup [.ty n1, .ty n2])) := Go.new hp
    have R2 := R1.new (o := .tup [.ty n1, .ty n2]) hp
    obtain ⟨a, ea, rfl⟩ := r1
    obtain ⟨vs, h1, h2⟩ := R2.own j a _ ea eo
    exact ⟨.ref a, p, [.ty n1, .ty n2], .type "list", [.type n1, .type n2], r, rfl, upd_same, .cons (.ty n1) (.cons (.ty n2) .nil), .base (.lst h1), er, k (.bl r) _ (.d (.bl r)) os1 (g1.trans g2) R2 (Dx.bl r) q⟩
end
end Br

/-! BrLm: a lambda handed to a def, its own names and the store known within. -/
namespace Br
open PySem PySem.Spec PyProof.Rows L2
/-! ### a lambda is made -/
/-- from H to H1: at most the table at P has grown, by the code object c1 -/
structure LamN (H H1 : Hp) (P c1 : Addr) (q : Str) : Prop where
  tab : LamX.TabS H1 P q
  ext : ∀ b o, b ≠ P → H b = some o → H1 b = some o
  th : ∀ b, H1 b = none → H b = none
  co : H1 c1 = some (LamX.CodeO c1 q)
section
variable {X : Cx} {pins : List (Addr × Obj)} {σ : L2.St} {H : Hp} {s : Shared}
theorem lam_new {c P : Addr} {params : Arguments} {body : Expr} {scope : Scope} {pos : Pos} {E Q : Value → Shared → Prop} (I : Inv X pins σ H s) (B : LamX.TabB X.base X.mg c P) (here : X.env.code = .ref c)
    (tab : LamX.TabS H P (X.env.qual ++ "<lambda>")) (noD : defaultsOf params X.env = ([], [])) (caught : ∀ y ∈ scope.names, y.2 = .free → ∃ c, X.env.cells.lookup y.1 = some c)
    (go : ∀ (f c1 : Addr) (pm ct : Value) (H1 : Hp) (s1 : Shared), Inv X pins σ H1 s1 → LamN H H1 P c1 (X.env.qual ++ "<lambda>") →
      s1.heap.get? f = some (PySem.W.kla_obj "<lambda>" (X.env.qual ++ "<lambda>") params body scope (cloFrom X.env.cells scope.names []) pm c1 ct) → H1 f = none → f ∉ frs X.stack → Q (.ref f) s1) :
    wpAny (model X.prog X.w) X.A (eval (.Lambda params body scope pos) X.env) Q E s := by
  obtain ⟨cells, atP, three, among⟩ := tab
  have onHeap : s.heap.get? P = some { cls := .none, data := .fields cells } := I.hok P _ atP
  have built : s.heap.BuiltinsAt X.mg P := B.bm.keeps I.bk
  have tall : ∀ f, s.heap.objs.size ≤ f → f ∉ frs X.stack := fun f le m => by
    cases List.mem_cons.mp (I.stkSub _ m) with
    | inl e =>
      have lt := I.lt
      rw [← e] at lt
      exact absurd (Nat.lt_of_lt_of_le lt le) (Nat.lt_irrefl _)
    | inr e => exact I.nofs le e
  apply PySem.W.kla_eval noD
  cases known : codeAmong pos cells.toList with
  | some cv =>
    obtain ⟨c1, ec, co⟩ := among pos cv known
    cases ec
    apply PySem.W.kla_makeFunctionHit (mg := X.mg) (c := c) (P := P) (ps := cells) (closure_ok caught) I.ok.glob (I.mod.glob.keeps I.bk) here (B.code.keeps I.bk) onHeap three known built
    intro ct h1 tk keeps size
    exact go h1.objs.size c1 _ ct H _ (I.kept fun b o e => Heap.get?_push_of_some _ (keeps b o e)) ⟨⟨cells, atP, three, among⟩, fun _ _ _ e => e, fun _ e => e, co⟩ (Heap.get?_push_size _ rfl) (I.hok.fresh size) (tall _ size)
  | none =>
    apply PySem.W.kla_makeFunction (mg := X.mg) (c := c) (P := P) (ps := cells) (closure_ok caught) I.ok.glob (I.mod.glob.keeps I.bk) here (B.code.keeps I.bk) onHeap three known B.gP built
    intro c1 ct h1 tk keeps le lt rec atP1
    obtain ⟨c2, oc, vs, t, e2, atc, dc, named⟩ := rec
    cases e2
    have size : s.heap.objs.size ≤ h1.objs.size := by omega
    have free : H c1 = none := I.hok.fresh le
    have ne : P ≠ c1 := ne_of_none atP free
    have J := LamX.inv_table (t' := tk) (more := #[rawInt pos.line, rawInt pos.col, .ref c1]) (h' := h1.push (PySem.W.kla_obj "<lambda>" (X.env.qual ++ "<lambda>") params body scope (cloFrom X.env.cells scope.names []) ((X.mg "__name__").getD .none) c1 ct)) I atP
      (fun b o n e => Heap.get?_push_of_some _ (keeps b o n e)) (Heap.get?_push_of_some _ atP1) le ⟨oc, vs, t, Heap.get?_push_of_some _ atc, dc, named⟩
    have old : ∀ b o, b ≠ P → H b = some o → upd (upd H P (.tbl (cells ++ #[rawInt pos.line, rawInt pos.col, .ref c1]))) c1 (LamX.CodeO c1 (X.env.qual ++ "<lambda>")) b = some o := fun b o n e => by
      rw [upd_ne (ne_of_none e free), upd_ne n]
      exact e
    have notP : ∀ c0, H c0 = some (LamX.CodeO c0 (X.env.qual ++ "<lambda>")) → c0 ≠ P := fun c0 e z => by
      rw [z, atP] at e
      exact LamX.codeO_ne _ (Option.some.inj e).symm
    refine go h1.objs.size c1 _ ct _ _ J ⟨⟨cells ++ #[rawInt pos.line, rawInt pos.col, .ref c1], ?_, ?_, ?_⟩, old, ?_, upd_same⟩ (Heap.get?_push_size _ rfl) ?_ (tall _ size)
    · rw [upd_ne ne, upd_same]
    · rw [Array.toList_append]
      exact PySem.TriplesOk_snoc _ _ _ _ three
    · intro p1 cv found
      rw [Array.toList_append] at found
      rcases LamX.among_app _ three found with z | z
      · obtain ⟨c0, e1, e2⟩ := among p1 cv z
        exact ⟨c0, e1, old _ _ (notP _ e2) e2⟩
      · exact ⟨c1, z, upd_same⟩
    · intro b e
      by_cases e1 : b = c1
      · rw [e1]
        exact free
      · rw [upd_ne e1] at e
        by_cases e2 : b = P
        · rw [e2, upd_same] at e
          cases e
        · rw [upd_ne e2] at e
          exact e
    · rw [upd_ne (show h1.objs.size ≠ c1 by omega), upd_ne (show h1.objs.size ≠ P from Nat.ne_of_gt (Nat.lt_of_lt_of_le (Heap.lt_size onHeap) size))]
      exact I.hok.fresh size
end
/-! ### a lambda is called -/
/-- a(), where the slot i holds the lambda f -/
def tAct (i : Nat) (f c1 : Addr) (q : Str) (tl : XK → Hp → VK → Prop) (W : WX) : TE := fun σ H Q => σ[i]? = some (some (.ref f)) ∧ H c1 = some (LamX.CodeO c1 q) ∧ tl (WE W σ) H Q
section
variable {X : Cx} {pins : List (Addr × Obj)} {σ : L2.St} {H : Hp} {s : Shared}
theorem pe_actS {CXg : CXT} {Eg : XK} {Ng : List Str} {qg a : Str} {sg scope : Scope} {g f c1 : Addr} {cdg pm ct : Value} {params : Arguments} {body : Expr} {k i : Nat} {pn : List (Addr × Obj)} {xe : Value → Shared → Prop} {W : WX} {t : XK → TE} {p1 p2 : Pos}
    (I : Inv X pins σ H s) (L : LamX.LamS X.env.scope scope) (obj : s.heap.get? f = some (PySem.W.kla_obj "<lambda>" (X.env.qual ++ "<lambda>") params body scope (cloFrom X.env.cells scope.names []) pm c1 ct)) (new : H f = none) (noFr : f ∉ frs X.stack)
    (binds : bindArgs (PySem.W.kla_fn "<lambda>" (X.env.qual ++ "<lambda>") params body scope (cloFrom X.env.cells scope.names []) pm (.ref c1) ct) ⟨[], []⟩ = pure [])
    (tk : Takes ((cxOf CXg X.prog X.w X.K X.mg X.base Ng qg sg g cdg X.A X.stack s H Eg).tr pn xe) W) (room : Room (k + 1) (X.A.deeper (envOfC qg sg s.heap.objs.size g cdg)))
    (inner : ∀ (A : Around) (outer : List Env) (s : Shared) (H : Hp) (E : XK), A.guards = X.A.guards → Room k (A.deeper (LamX.lamEnv X scope s.heap.objs.size f c1)) → PE (LamX.lamCx X A outer s H E scope f c1) body (t E))
    (named : Ng[i]? = some a) (vis : Vis sg a) (hd : (a == ("__debug__" : Str)) = false) (hcd : (a == ("__classdict__" : Str)) = false) :
    PE ((cxOf CXg X.prog X.w X.K X.mg X.base Ng qg sg g cdg X.A X.stack s H Eg).tr pn xe) (.Call (.Name a p1) [] [] p2) (tAct i f c1 (X.env.qual ++ "<lambda>") (fun E H' Q' => t E σ H' Q') W) := by
  constructor
  intro pinsZ sZ σZ HZ Q IZ ⟨slot, code, reading⟩
  apply wpAny_Call_Name_kw
  refine thn ((pe_var (pos := p1) (i := i) named vis hd hcd).run pinsZ sZ σZ HZ (fun v H1 => v = .ref f ∧ H1 = HZ) IZ ⟨.ref f, slot, rfl, rfl⟩) ?_
  rintro u s1 ⟨v, H1, I1, rel, ev, eH⟩
  subst ev
  rw [eH] at I1
  have eu : u = Value.ref f := rel
  subst eu
  have still : s1.heap.get? f = some (PySem.W.kla_obj "<lambda>" (X.env.qual ++ "<lambda>") params body scope (cloFrom X.env.cells scope.names []) pm c1 ct) := I1.base.keep f _ obj new noFr (fun z => nomatch (show f ∈ ([] : List Addr) from z))
  apply PySem.W.callWith_F0 ⟨_, _, _, _, still⟩
  have since : Un (frs X.stack) [] H HZ s.heap s1.heap := I1.base
  obtain ⟨⟨oc, vs, t0, atc, dc, nc⟩, _, _⟩ := I1.hok c1 _ code
  have ran : codeAny (model X.prog X.w) (X.A.deeper (envOfC qg sg s.heap.objs.size g cdg)) (.call (.ref f) ⟨[], []⟩) (CR (L2.CX X.prog X.w) (envOfC qg sg s.heap.objs.size g cdg :: X.stack) X.prog X.w HZ s1 Q (WE W σZ)) s1 := by
    apply PySem.W.kla_callFunE room.depth still rfl L.co L.gen rfl ⟨c1, oc, vs, t0, rfl, atc, dc, nc⟩
    rw [binds]
    apply wpAny_pure
    apply wpAny_newFunctionEnv (fun y m => (L.own y m).2) (fun y m => absurd m (by simp)) ?_ L.kind
    intro h1 ns sub
    refine ⟨I1.nolimit.fresh _ sub, ?_⟩
    show codeAny _ _ (.expr body (LamX.lamEnv X scope s1.heap.objs.size f c1)) _ _
    have kept : ∀ b o, s1.heap.get? b = some o → h1.get? b = some o := fun b o e => sub.extBut b o (Nat.ne_of_lt (Heap.lt_size e)) (Heap.get?_push_of_some _ e)
    have J := LamX.lam_start2 (A := X.A.deeper (envOfC qg sg s.heap.objs.size g cdg)) (outer := envOfC qg sg s.heap.objs.size g cdg :: X.stack) (E := WE W σZ) (tk := s1.toks + ([] : List (Str × Value)).length) (f := f) (c' := c1) I L I1.env0 room.hd since ns kept
    apply PySem.W.kla_codeExpr
    refine wpAny_mono ((inner (X.A.deeper (envOfC qg sg s.heap.objs.size g cdg)) _ s1 HZ (WE W σZ) rfl (room.deeper _)).run [] _ _ HZ Q J reading) ?_ fun _ _ z => z
    rintro v s2 ⟨w1, H2, J2, rv, q⟩
    exact ⟨w1, H2, J2.os, J2.bare, J2.base, J2.hok, rv, q⟩
  refine wpAny_call (codeAny_mono ran ?_)
  intro r s2 back
  cases r with
  | error e => exact passAt tk σZ pinsZ HZ s1 e s2 I1 back
  | ok fl =>
    cases fl with
    | ret u => exact I1.after back
    | next => exact False.elim back
    | brk => exact False.elim back
    | cont => exact False.elim back
end
/-! ### promises of lambdas, of defs that get one -/
abbrev FL := Os → (D → Os → Prop) → Xa → Prop
abbrev FG := FL → Os → (D → Os → Prop) → Prop
/-- a lambda keeps its promise -/
def LamOk (K : PySem.W.Frag) (r : Stb) (tl : XK → Hp → VK → Prop) (fl : FL) : Prop :=
  ∀ (as : List Addr) (H : Hp) (os : Os) (E : XK) (Q : VK) (QA : D → Os → Prop) (EA : Xa), r.R as H → Ro K as H os → fl os QA EA →
    (∀ v H' d os', Go as H H' → Ro K as H' os' → Dx K as H' v d → QA d os' → Q v H') →
    (∀ C dd H' fs fds os', Go as H H' → Ro K as H' os' → H dd = none → H' dd = some (.xd fs) → DxF K as H' fs fds → EA C fds os' → E (.ref C) (some dd) H') → tl E H Q
/-- what a def asks that gets a lambda -/
def TTof (K : PySem.W.Frag) (fg : FG) : (XK → Hp → VK → Prop) → Hp → VK → Prop := fun tl H Q => ∃ (as : List Addr) (os : Os) (r : Stb) (fl : FL) (QA : D → Os → Prop), Ro K as H os ∧ r.R as H ∧ LamOk K r tl fl ∧ fg fl os QA ∧
  ∀ v H' d os', Go as H H' → Ro K as H' os' → Dx K as H' v d → QA d os' → Q v H'
/-- the same, the code object named -/
def Stb.at (r : Stb) (c1 : Addr) (q : Str) : Stb where
  R as H := r.R as H ∧ c1 ∉ as ∧ H c1 = some (LamX.CodeO c1 q)
  go := fun ⟨h, n, e⟩ g => ⟨r.go h g, n, g _ _ e n⟩
  add := fun ⟨h, n, e⟩ hp => ⟨r.add h hp, ⟨fun z => (List.mem_append.mp z).elim n fun z => by
    rw [List.mem_singleton.mp z, hp] at e
    exact absurd e (by simp), e⟩⟩
theorem code_nin {K : PySem.W.Frag} {as : List Addr} {H : Hp} {os : Os} {c : Addr} {q : Str} (R : Ro K as H os) (e : H c = some (LamX.CodeO c q)) : c ∉ as := fun z => by
  obtain ⟨k, hk, ek⟩ := List.mem_iff_getElem.mp z
  have h1 : as[k]? = some c := by rw [List.getElem?_eq_getElem hk, ek]
  have h2 : k < os.length := R.len ▸ hk
  have w := R.own k c os[k] h1 (List.getElem?_eq_getElem h2)
  unfold LamX.CodeO at e
  cases eo : os[k] with
  | ml xs =>
    rw [eo] at w
    obtain ⟨_, u, _⟩ := w
    rw [e] at u
    cases u
  | md xs =>
    rw [eo] at w
    obtain ⟨_, u, _⟩ := w
    rw [e] at u
    cases u
  | mi C fs =>
    rw [eo] at w
    obtain ⟨_, _, u, _⟩ := w
    rw [e] at u
    cases u
  | tb P q =>
    rw [eo] at w
    obtain ⟨_, u, _⟩ := w
    rw [e] at u
    cases u
  | mp p xs =>
    rw [eo] at w
    obtain ⟨_, u, _⟩ := w
    rw [e] at u
    cases u
  | lp p od vs xs =>
    rw [eo] at w
    obtain ⟨u, _⟩ := w
    rw [e] at u
    cases u
  | mr C fs =>
    rw [eo] at w
    obtain ⟨_, u, _⟩ := w
    rw [e] at u
    cases u
section
variable {K : PySem.W.Frag} {X : Xc} {S : Sa} {Q : Sv → Os → Prop}
/-- the lambda called, in the def that got it -/
theorem ew_act {i : Nat} {f c1 : Addr} {q : Str} {r : Stb} {fl : FL} {tl : XK → Hp → VK → Prop} {wx : WX} {xe : Addr → List (Str × D) → Sa → Prop} (hs : S.s[i]? = some (some (.fn f (r.at c1 q)))) (hl : LamOk K r tl fl)
    (h : fl S.os (fun d os' => Q (.d d) os') fun C fds os' => xe C fds ⟨S.s, os'⟩) : EW K ⟨wx, xe⟩ (tAct i f c1 q tl wx) S Q := fun as H σ Q' R x k => by
  obtain ⟨v, e, ev, hr, hn, hc⟩ := R.slot i _ hs
  subst ev
  exact ⟨e, hc, hl as H S.os _ _ _ _ hr R.o h (fun v H' d os' g R' r' z => k v H' (.d d) os' g R' r' z) fun C dd H' fs fds os' g R' n e' rf z => x H' C dd fs fds os' g R' n e' rf z⟩
/-- from what is asked to the body's reading -/
theorem readL_of {N : List Str} {fg : FG} {t : TS} {f c1 : Addr} {q : Str} {H : Hp} {QV : VK} {tl : XK → Hp → VK → Prop} (h : TTof K fg tl H QV) (hc : H c1 = some (LamX.CodeO c1 q))
    (w : ∀ r fl os QA, LamOk K r tl fl → fg fl os QA → W K X0 t { nx := fun S => RetOk os.length QA (.d .non) S.os, rt := RetOk os.length QA } ⟨startS N [.fn f (r.at c1 q)], os⟩) : t { nx := fun _ H' => QV .non H', rt := QV } (L2.start N [.ref f]) H := by
  obtain ⟨as, os, r, fl, QA, R, hr, hl, hg, kq⟩ := h
  have rs : SvA K as H [.ref f] [.fn f (r.at c1 q)] := .cons (show SvR K as H (.ref f) (.fn f (r.at c1 q)) from ⟨rfl, hr, code_nin R hc, hc⟩) .nil
  refine w r fl os QA hl hg as H _ _ (re_start R rs) XS.x0 (fun bs H' σ' S' s R' z => ?_) (fun bs H' v d os' s R' r' z => ?_) (fun _ _ _ _ _ _ z => z.elim) fun _ _ _ _ _ _ z => z.elim
  · exact ret_back s R.len R'.o (v := .non) (x := .d .non) Dx.non z kq
  · exact ret_back s R.len R' r' z kq
end
/-- a def that gets a lambda -/
def Lams (P : Program) (w : World) (K : PySem.W.Frag) (mg : Str → Option Value) (base : Heap) (x a : Str) (st : Stmt) (g : Addr) (N : List Str) (k : Nat) (q : Str) (fg : FG) : Prop :=
  ∀ (cdg : Value) (A : Around) (outer : List Env) (f c1 : Addr) (s : Shared) (H : Hp) (Q : VK) (tl : XK → Hp → VK → Prop), Room k (A.deeper (envOfC x (defScope st) s.heap.objs.size g cdg)) →
    (∀ (W : WX) (pn : List (Addr × Obj)) (xe : Value → Shared → Prop) (p1 p2 : Pos), Takes ((cxOf CX0 P w K mg base N x (defScope st) g cdg A outer s H E0).tr pn xe) W →
      PE ((cxOf CX0 P w K mg base N x (defScope st) g cdg A outer s H E0).tr pn xe) (.Call (.Name a p1) [] [] p2) (tAct 0 f c1 q tl W)) →
    H c1 = some (LamX.CodeO c1 q) → TTof K fg tl H Q →
    ∃ t, PSs (cxOf CX0 P w K mg base N x (defScope st) g cdg A outer s H E0).nox (defBody st) t ∧ t { nx := fun _ H' => Q .non H', rt := Q } (L2.start N [.ref f]) H
/-- x(lambda: ..) -/
def tLamB (P : Addr) (q : Str) (TT : (XK → Hp → VK → Prop) → Hp → VK → Prop) (t : XK → TE) : TE := fun σ H Q => LamX.TabS H P q ∧ ∀ c1 H1, LamN H H1 P c1 q → TT (fun E H' Q' => t E σ H' Q') H1 Q
theorem pe_lamB {X : Cx} {fg : FG} {x a : Str} {st : Stmt} {g c P : Addr} {fd : FuncData} {k : Nat} {Ng : List Str} {params : Arguments} {body : Expr} {scope : Scope} {t : XK → TE} {p lpos pos : Pos} (L : Lams X.prog X.w X.K X.mg X.base x a st g Ng (k + 1) (X.env.qual ++ "<lambda>") fg)
    (F : Fun X.K x x st g fd) (hg : Gl X x) (hm : X.mg x = some (.ref g)) (hb : L2.Binds X.K fd [a] []) (Sg : FnScope Ng [a] (defScope st)) (hN : Ng[0]? = some a) (hv : Vis (defScope st) a)
    (B : LamX.TabB X.base X.mg c P) (here : X.env.code = .ref c) (hr : Room (k + 2) X.A) (Ls : LamX.LamS X.env.scope scope) (noD : defaultsOf params X.env = ([], []))
    (binds : ∀ (q : Str) (cl : List (Str × Addr)) (pm cv ct : Value), bindArgs (PySem.W.kla_fn "<lambda>" q params body scope cl pm cv ct) ⟨[], []⟩ = pure [])
    (inner : ∀ (A : Around) (outer : List Env) (s : Shared) (H : Hp) (E : XK) (f c1 : Addr), A.guards = X.A.guards → Room k (A.deeper (LamX.lamEnv X scope s.heap.objs.size f c1)) → PE (LamX.lamCx X A outer s H E scope f c1) body (t E))
    (hdb : (x == ("__debug__" : Str)) = false := by decide) (hd : (a == ("__debug__" : Str)) = false := by decide) (hcd : (a == ("__classdict__" : Str)) = false := by decide) :
    PE X (.Call (.Name x p) [.Lambda params body scope lpos] [] pos) (tLamB P (X.env.qual ++ "<lambda>") (TTof X.K fg) t) := by
  obtain ⟨oc, od, kV, doc, pm, an, cdv, ct, osl, efd, lk, hcd2⟩ := F.ex
  constructor
  intro pins s σ H Q I ⟨tab, more⟩
  apply wpAny_Call_Name_kw
  refine ld_glob I hg hm ?_ hdb
  refine PySem.W.callWith_K (h₀ := X.base) I.ok.mod.kin F.kp ?_ (by rfl) (by rfl)
  show wpAny _ _ (spliced ((false, eval (.Lambda params body scope lpos) X.env) :: backTo pos (starEach [] X.env))) _ _ s
  refine Calls.spliced_cons (lam_new I B here tab noD (Ls.has I.ok) ?_)
  intro f c1 pm1 ct1 H1 s1 I1 grown obj new noFr
  refine Calls.spliced_nil ⟨I1.kIn, ?_⟩
  subst efd
  have ran : codeAny (model X.prog X.w) X.A (.call (.ref g) ⟨[.ref f], []⟩) (CR CX0 X.stack X.prog X.w H1 s1 Q E0) s1 := by
    refine LamX.run_ofS (N := Ng) (ps := [a]) (us := [.ref f]) (vs := [.ref f]) lk hcd2 Sg hr I1.env0 (hb s1 [.ref f] I1.kIn rfl) (.cons rfl .nil) rfl fun hr1 => ?_
    obtain ⟨t1, h1, q1⟩ := L cdv X.A X.stack f c1 s1 H1 Q (fun E H' Q' => t E σ H' Q') hr1 (fun W pn xe p1 p2 tk => pe_actS (i := 0) I1 Ls obj new noFr (binds _ _ _ _ _) tk hr1 (fun A outer s H E gd hr2 => inner A outer s H E f c1 gd hr2) hN hv hd hcd) grown.co (more c1 H1 grown)
    exact ⟨t1, h1.nox, q1⟩
  refine wpAny_call (codeAny_mono ran ?_)
  intro r s2 back
  cases r with
  | error e => exact (show False from back).elim
  | ok fl =>
    cases fl with
    | ret u => exact I1.after back
    | next => exact False.elim back
    | brk => exact False.elim back
    | cont => exact False.elim back
section
variable {K : PySem.W.Frag} {X : Xc} {S : Sa} {Q : Sv → Os → Prop}
theorem ew_lamB {j : Nat} {P : Addr} {q : Str} {fg : FG} {t : XK → TE} (fl : FL) (hk : S.os[j]? = some (.tb P q))
    (hl : ∀ (os : Os) (QA : D → Os → Prop) (EA : Xa) (E : XK), fl os QA EA → EW K ⟨fun cls d _ H => E cls d H, fun C fds S' => EA C fds S'.os⟩ (t E) ⟨S.s, os⟩ fun x os' => ∃ d, x = .d d ∧ QA d os')
    (h : fg fl S.os fun d os' => Q (.d d) os') : EW K X (tLamB P q (TTof K fg) t) S Q := fun as H σ Q' R x k => by
  have hj : j < as.length := by
    rw [R.o.len]
    exact (List.getElem?_eq_some_iff.mp hk).1
  have atj : as[j]? = some as[j] := List.getElem?_eq_getElem hj
  obtain ⟨ps, e1, eP, e2, e3⟩ := R.o.own j as[j] _ atj hk
  rw [eP] at e1
  have inP : P ∈ as := by
    rw [← eP]
    exact List.getElem_mem hj
  refine ⟨⟨ps, e1, e2, fun pos cv hc => ?_⟩, fun c1 H1 N => ?_⟩
  · obtain ⟨c, a, _, b⟩ := e3 pos cv hc
    exact ⟨c, a, b⟩
  · have g1 : Go as H H1 := fun a o e n => N.ext a o (fun z => n (z ▸ inP)) e
    have R1 : Ro K as H1 S.os := ⟨R.o.nd, R.o.len, fun i a ob h1 h2 => by
      by_cases ea : a = P
      · have ei : i = j := by
          obtain ⟨l1, m1⟩ := List.getElem?_eq_some_iff.mp h1
          exact (List.getElem_inj R.o.nd).mp (m1.trans (ea.trans eP.symm))
        subst ei
        rw [hk] at h2
        cases h2
        obtain ⟨ps2, a1, a2, a3⟩ := N.tab
        refine ⟨ps2, by rw [ea]; exact a1, ea, a2, fun pos cv hc => ?_⟩
        obtain ⟨c, b1, b2⟩ := a3 pos cv hc
        refine ⟨c, b1, fun z => ?_, b2⟩
        -- a code object is nothing of the store
        obtain ⟨i2, hi2, ei2⟩ := List.mem_iff_getElem.mp z
        have hc1 : as[i2]? = some c := by rw [List.getElem?_eq_getElem hi2, ei2]
        have hc2 : i2 < S.os.length := R.o.len ▸ hi2
        have w := R.o.own i2 c S.os[i2] hc1 (List.getElem?_eq_getElem hc2)
        by_cases ec : c = P
        · rw [ec, a1] at b2
          exact LamX.codeO_ne _ (Option.some.inj b2).symm
        · have nn : ∃ o, H c = some o ∧ ∀ q, o ≠ LamX.CodeO c q := by
            unfold LamX.CodeO
            cases eo : S.os[i2] with
            | ml xs =>
              rw [eo] at w
              obtain ⟨_, u, _⟩ := w
              exact ⟨_, u, fun _ z => by cases z⟩
            | md xs =>
              rw [eo] at w
              obtain ⟨_, u, _⟩ := w
              exact ⟨_, u, fun _ z => by cases z⟩
            | mi C fs =>
              rw [eo] at w
              obtain ⟨_, _, u, _⟩ := w
              exact ⟨_, u, fun _ z => by cases z⟩
            | tb P q =>
              rw [eo] at w
              obtain ⟨_, u, _⟩ := w
              exact ⟨_, u, fun _ z => by cases z⟩
            | mp p xs =>
              rw [eo] at w
              obtain ⟨_, u, _⟩ := w
              exact ⟨_, u, fun _ z => by cases z⟩
            | lp p od vs xs =>
              rw [eo] at w
              obtain ⟨u, _⟩ := w
              exact ⟨_, u, fun _ z => by cases z⟩
            | mr C fs =>
              rw [eo] at w
              obtain ⟨_, u, _⟩ := w
              exact ⟨_, u, fun _ z => by cases z⟩
          obtain ⟨o, u, no⟩ := nn
          have b3 := N.ext c o ec u
          rw [b2] at b3
          exact no _ (Option.some.inj b3).symm
      · exact (R.o.own i a ob h1 h2).way (Way.of_go g1) fun u e => N.ext a u ea e⟩
    let r : Stb := ⟨fun as H => σ.length = S.s.length ∧ ∀ (i : Nat) (d : Sv), S.s[i]? = some (some d) → ∃ v, σ[i]? = some (some v) ∧ SvR K as H v d,
      fun ⟨l, h⟩ g => ⟨l, fun i d e => let ⟨v, a, b⟩ := h i d e; ⟨v, a, b.go g⟩⟩, fun ⟨l, h⟩ hp => ⟨l, fun i d e => let ⟨v, a, b⟩ := h i d e; ⟨v, a, b.wayA hp⟩⟩⟩
    refine ⟨as, S.os, r, fl, _, R1, ⟨R.slen, fun i d e => let ⟨v, a, b⟩ := R.slot i d e; ⟨v, a, b.go g1⟩⟩, ?_, h, fun v H' d os' g R' r' z => k v H' (.d d) os' (g1.trans g) R' r' z⟩
    intro as2 H2 os2 E2 Q2 QA EA hr R2 f kq ke
    refine hl os2 QA EA E2 f as2 H2 σ Q2 ⟨R2, hr.1, hr.2⟩ (fun H' C dd fs fds os' g R' n e rf z => ke C dd H' fs fds os' g R' n e rf z) fun v H' y os' g R' r' ⟨d, ey, z⟩ => ?_
    subst ey
    exact kq v H' d os' g R' r' z
end
end Br

/-! BrLk: bits, insert, reversed, sums of tuples; calls by names that may raise; own exceptions whose field is any data; the copy of an empty dict. -/
namespace Br
open PySem PySem.Spec PyProof.Rows L2
/-! ### operations -/
def rAndM : R2 := fun x y H Q => ∃ (i : Int) (k : Nat), x = .int i ∧ y = .int (2 ^ k - 1) ∧ Q (.int (i % 2 ^ k)) H
def rShrN : R2 := fun x y H Q => ∃ (i : Int) (k : Nat), x = .int i ∧ y = .int (k : Int) ∧ Q (.int (i / 2 ^ k)) H
def rIns : V → List V → Hp → VK → Prop := fun x vs H Q => ∃ (l : Addr) (xs : List V) (i : Int) (y : V), x = .ref l ∧ vs = [.int i, y] ∧ H l = some (.lst xs) ∧ xs.length < sizeLine ∧ 0 ≤ i ∧ i < 2 ^ 63 ∧ Q .non (upd H l (.lst (xs.take i.toNat ++ [y] ++ xs.drop i.toNat)))
section
variable {X : Cx}
theorem op_maskA : OpR X (binaryOp .BitAnd) rAndM := op_andM
theorem op_rightA : OpR X (binaryOp .RShift) rShrN := op_shrN
theorem mt_insA : MtR X "list.insert" rIns := mt_insert
/-- sum of a tuple -/
def rSumT (K : PySem.W.Frag) : List V → Hp → VK → Prop := fun vs H Q => ∃ (a : Addr) (ns : List Int), vs = [V.ref a] ∧ SqT K H a (ns.map V.int) ∧ Q (.int ns.sum) H
theorem call_sumT (hc : X.calm = true) : CallR X (.builtin "sum") (rSumT X.K) := by
  intro pins s σ H vs us Q I r h
  obtain ⟨a, ns, rfl, hs, q⟩ := h
  obtain ⟨its, rv, ht, _⟩ := I.tuple hs
  rw [Vals.ref1 r]
  have hi := rv.ints
  obtain ⟨xs, e⟩ := hi.allInts.items
  have hn : numsOf (intItems xs).toList = ns := by rw [← e]; exact hi.numsOf
  rw [nums_intItems] at hn
  have ht2 : s.heap.IsTuple a its.toArray := by
    obtain ⟨o, ho, hc2, n, hd⟩ := ht
    exact ⟨o, ho, hc2, n, hd⟩
  rw [e] at ht2
  refine PySem.W.ktm_sumG (I.ok.hd hc) ht2 fun h' tk t' hk => ?_
  rw [preSum_eq, List.take_of_length_le (by simp), hn]
  exact ⟨.int _, H, I.kept hk, ⟨_, rfl⟩, q⟩
end
section
variable {K : PySem.W.Frag} {X : Xc} {S : Sa} {os : Os} {Q : Sv → Os → Prop} {to te tk : TE}
theorem bw_mask {i j : Int} (k : Nat) (hj : j = 2 ^ k - 1) (q : Q (.d (.int (i % 2 ^ k))) os) : BW K rAndM (.d (.int i)) (.d (.int j)) os Q :=
  bw_pure (fun as H v u Q' R rx ry z => by
    cases rx
    cases ry
    exact ⟨i, k, rfl, by rw [hj], z _ (.int _)⟩) q
theorem bw_right {i j : Int} (k : Nat) (hj : j = (k : Int)) (q : Q (.d (.int (i / 2 ^ k))) os) : BW K rShrN (.d (.int i)) (.d (.int j)) os Q :=
  bw_pure (fun as H v u Q' R rx ry z => by
    cases rx
    cases ry
    exact ⟨i, k, rfl, by rw [hj], z _ (.int _)⟩) q
theorem cw_sumT {ns : List Int} (q : Q (.d (.int ns.sum)) os) : CW K (rSumT K) [.d (.tup (ns.map D.int))] os Q :=
  cw_pure (fun as H vs Q' R r k => by
    cases r with
    | cons h t =>
      cases t
      cases h with
      | @tup a ws _ hl hr =>
        have e := DxA.of_ints hr
        subst e
        exact ⟨a, ns, rfl, hl.sq, k _ (.int _)⟩) q
/-- xs.insert(0, e) -/
theorem ew_ins0 (h : EW K X to S fun x os1 => ∃ k xs1, x = .o k ∧ os1[k]? = some (.ml xs1) ∧ EW K X tk ⟨S.s, os1⟩ fun z os2 => z = .d (.int 0) ∧ EW K X te ⟨S.s, os2⟩ fun y os3 => ∃ z xs, y = .d z ∧ os3[k]? = some (.ml xs) ∧ xs.length < sizeLine ∧ Q (.d .non) (os3.set k (.ml (z :: xs)))) :
    EW K X (tBM K "list" rIns to (tCons tk (tCons te tNil))) S Q := fun as H σ Q' R x k =>
  h as H σ _ R x fun v H1 d os1 g1 R1 r1 ⟨j, xs1, ed, eo1, h2⟩ => by
    subst ed
    obtain ⟨a, ea, rfl⟩ := r1
    refine ⟨?_, h2 as H1 σ _ (R.go g1 R1) (x.go g1 R1) fun w H2 e os2 g2 R2 r2 ⟨ez, h3⟩ => ?_⟩
    · obtain ⟨ws, q1, _⟩ := R1.own j a _ ea eo1
      exact .inl ⟨rfl, ws, .inl (.inl q1)⟩
    · subst ez
      cases r2
      refine h3 as H2 σ _ (R.go (g1.trans g2) R2) (x.go (g1.trans g2) R2) fun u H3 y os3 g3 R3 r3 ⟨z, xs, ey, eo, hl, q⟩ => ?_
      subst ey
      obtain ⟨vs, h4, h5⟩ := R3.own j a _ ea eo
      have hm : a ∈ as := List.mem_of_getElem? ea
      have g4 : Go as H3 (upd H3 a (.lst (u :: vs))) := Go.at hm
      have rz : Dx K as H3 u z := r3
      have R4 : Ro K as (upd H3 a (.lst (u :: vs))) (os3.set j (.ml (z :: xs))) := ro_set R3 ea ⟨_, upd_same, DxA.way (Way.of_go g4) (.cons rz h5)⟩
      exact ⟨a, vs, 0, u, rfl, rfl, h4, by rw [h5.length]; exact hl, by decide, by decide, k .non _ (.d .non) _ (((g1.trans g2).trans g3).trans g4) R4 Dx.non q⟩
/-- tuple(reversed(xs)) of a list of the store -/
theorem ew_tupRevO (h : EW K X te S fun x os => ∃ j xs, x = .o j ∧ os[j]? = some (.ml xs) ∧ Q (.d (.tup xs.reverse)) os) : EW K X (RT.tTupRev K te) S Q := fun as H σ Q' R x k =>
  h as H σ _ R x fun v H1 d os1 g1 R1 r1 ⟨j, xs, e, eo, q⟩ => by
    subst e
    obtain ⟨a, vs, rfl, hs, hr⟩ := o_list R1 r1 eo
    exact ⟨a, vs, rfl, hs, fun p hp => k (.ref p) _ (.d (.tup xs.reverse)) os1 (g1.trans (Go.new hp)) (R1.new hp) (dx_newT R1 hp hr.rev) q⟩
theorem ew_isKR {C C2 : Addr} (h : EW K X te S fun x os => ∃ fds r, x = .d (.xo C fds) ∧ PySem.W.kitOne K (.ref C) (.ref C2) = some r ∧ Q (.d (.bl r)) os) : EW K X (tCB (rIsK K C) (tCons te (tCons (tC (.ref C2)) tNil))) S Q := fun as H σ Q' R x k =>
  h as H σ _ R x fun v H1 d os1 g1 R1 r1 ⟨fds, r, ed, er, q⟩ => by
    subst ed
    cases r1 with
    | xo n1 n2 h1 h2 hr => exact ⟨_, _, _, .ref C2, .ref C2, r, rfl, h1, h2, .own C2, er, k (.bl r) H1 (.d (.bl r)) os1 g1 R1 (Dx.bl r) q⟩
end
/-! ### calls that may raise -/
def tCallNS (n m : Nat) (sp : Sp) (gV : List V → List V → List V) (E : L2.St → XK) (t tk : TA) : TE := fun σ H Q => t σ H fun vs H1 => tk σ H1 fun zs H2 => vs.length = n ∧ zs.length = m ∧ sp (gV vs zs) H2 Q (E σ)
section
variable {X : Cx} {CX : CXT} {k n : Nat} {f : Addr} {fd : FuncData} {ps ks : List Str} {sp : Sp} {E : L2.St → XK} {x : Str} {p pos : Pos} {e : Expr} {es : List Expr} {kws : List Keyword} {t tk : TA} {g : List Value → List Value → List Value} {gV : List V → List V → List V}
theorem pe_callNS (F : FnOk X.prog X.w X.K X.mg X.base CX k f fd ps sp) (hr : Room k X.A) (hg : Gl X x) (hm : X.mg x = some (.ref f)) (hk : PySem.W.keepIn X.K (.ref f) = true) (hb : KBn X.K fd ps n ks g gV) (hx : ∀ σ, PassesAt CX X σ (E σ))
    (ha : PA X (e :: es) t) (hkw : PK X kws tk) (hall : (backToKw pos (keywordEach kws X.env)).all (·.1.isSome) = true := by rfl) (hks : (backToKw pos (keywordEach kws X.env)).filterMap (·.1) = ks := by rfl)
    (hdb : (x == ("__debug__" : Str)) = false := by decide) (he : starEach (e :: es) X.env = (false, eval e X.env) :: starEach es X.env := by rfl)
    (hpl : ((backTo pos (starEach (e :: es) X.env)).any (·.1) || (backToKw pos (keywordEach kws X.env)).any (·.1.isNone)) = false := by rfl) :
    PE X (.Call (.Name x p) (e :: es) kws pos) (tCallNS n ks.length sp gV E t tk) := by
  constructor
  intro pins s σ H Q I h
  apply wpAny_Call_Name_kw
  refine ld_glob I hg hm ?_ hdb
  refine PySem.W.callWith_KW (h₀ := X.base) I.ok.mod.kin hk hall (thn (ha.run pos pins s σ H _ I h) ?_) hpl he
  rintro us s1 ⟨vs, H1, I1, r, q⟩
  refine thn (hkw.run pos pins s1 σ H1 _ I1 q) ?_
  rintro ws s2 ⟨zs, H2, I2, rz, l1, l2, q2⟩
  refine ⟨I2.kIn, ?_⟩
  rw [hks]
  refine wpAny_call (codeAny_mono (F.run X.A X.stack s2 H2 ⟨us, ks.zip ws⟩ (g us ws) (gV vs zs) Q (E σ) hr I2.env0 (hb.to s2 us ws I2.kIn (r.length.symm.trans l1) (rz.length.symm.trans l2)) (hb.rel r rz) q2) ?_)
  intro r3 s3 back
  cases r3 with
  | error e => exact hx σ pins H2 s2 e s3 I2 back
  | ok fl =>
    cases fl with
    | ret u => exact I2.after back
    | next => exact False.elim back
    | brk => exact False.elim back
    | cont => exact False.elim back
end
section
variable {K : PySem.W.Frag} {X : Xc} {S : Sa} {Q : Sv → Os → Prop} {ta tl tk : TA} {f : FD}
theorem ew_callNS {wx : WX} {xe : Addr → List (Str × D) → Sa → Prop} {n m : Nat} {gV : List V → List V → List V} {gS : List Sv → List Sv → List Sv} (hg : ∀ as H vs zs ds es, SvA K as H vs ds → SvA K as H zs es → SvA K as H (gV vs zs) (gS ds es))
    (h : AW K ⟨wx, xe⟩ tl S fun ds os => ds.length = n ∧ AW K ⟨wx, xe⟩ tk ⟨S.s, os⟩ fun es os2 => es.length = m ∧ f (gS ds es) os2 (fun d os' => Q (.d d) os') fun C fds os' => xe C fds ⟨S.s, os'⟩) : EW K ⟨wx, xe⟩ (tCallNS n m (spD K f) gV (WE wx) tl tk) S Q := fun as H σ Q' R x k =>
  h as H σ _ R x fun vs H1 ds os1 g1 R1 r1 ⟨l1, q1⟩ => q1 as H1 σ _ (R.go g1 R1) (x.go g1 R1) fun zs H2 es os2 g2 R2 r2 ⟨l2, q2⟩ => by
    refine ⟨by rw [r1.length]; exact l1, by rw [r2.length]; exact l2, as, os2, _, _, _, R2, hg _ _ _ _ _ _ (r1.go g2) r2, q2, fun v H3 d os3 g3 R3 r3 q3 => k v H3 (.d d) os3 ((g1.trans g2).trans g3) R3 r3 q3, fun C dd H3 fs fds os3 g3 R3 n3 e3 rf z => ?_⟩
    exact x H3 C dd fs fds os3 ((g1.trans g2).trans g3) R3 ((g1.trans g2).free (R2.notin n3) n3) e3 rf z
/-- with defaults that are filled up -/
theorem ew_callSD {wx : WX} {xe : Addr → List (Str × D) → Sa → Prop} {dvs : List V} {des : List Sv} (hd : ∀ as H, SvA K as H dvs des) (h : AW K ⟨wx, xe⟩ ta S fun ds os => f (ds ++ des) os (fun d os' => Q (.d d) os') fun C fds os' => xe C fds ⟨S.s, os'⟩) :
    EW K ⟨wx, xe⟩ (tCallSD (spD K f) dvs (WE wx) ta) S Q := fun as H σ Q' R x k =>
  h as H σ _ R x fun vs H1 ds os1 g1 R1 r1 q1 => by
    have app : ∀ {us : List V} {es : List Sv}, SvA K as H1 us es → SvA K as H1 (us ++ dvs) (es ++ des) := fun {us es} r => by
      induction r with
      | nil => exact hd as H1
      | cons h _ ih => exact .cons h ih
    refine ⟨as, os1, ds ++ des, _, _, R1, app r1, q1, fun v H2 d os2 g2 R2 r2 q2 => k v H2 (.d d) os2 (g1.trans g2) R2 r2 q2, fun C dd H2 fs fds os2 g2 R2 n2 e2 r2 z => ?_⟩
    exact x H2 C dd fs fds os2 (g1.trans g2) R2 (g1.free (R1.notin n2) n2) e2 r2 z
theorem ew_callD {dvs : List V} {des : List Sv} (hd : ∀ as H, SvA K as H dvs des) (h : AW K X ta S fun ds os => f (ds ++ des) os (fun d os' => Q (.d d) os') fun _ _ _ => False) : EW K X (tCall (spD K f) dvs E0 ta) S Q := fun as H σ Q' R x k =>
  h as H σ _ R x fun vs H1 ds os1 g1 R1 r1 q1 => by
    have app : ∀ {us : List V} {es : List Sv}, SvA K as H1 us es → SvA K as H1 (us ++ dvs) (es ++ des) := fun {us es} r => by
      induction r with
      | nil => exact hd as H1
      | cons h _ ih => exact .cons h ih
    exact ⟨as, os1, ds ++ des, _, _, R1, app r1, q1, fun v H2 d os2 g2 R2 r2 q2 => k v H2 (.d d) os2 (g1.trans g2) R2 r2 q2, fun _ _ _ _ _ _ _ _ _ _ _ z => z.elim⟩
end
/-! ### own exceptions over ValueError whose field is any data -/
theorem heap_one (a : Addr) (o : Obj) (nf : o.data ≠ .freed) : ∃ h : Heap, h.get? a = some o := by
  refine ⟨{ objs := Array.replicate (a + 1) o }, ?_⟩
  have e : (Array.replicate (a + 1) o)[a]? = some o := by simp
  obtain ⟨c, dd, dt, sl⟩ := o
  unfold Heap.get?
  rw [e]
  cases dt <;> first | rfl | exact absurd rfl nf
theorem exo_ne_exk {C C2 dd b : Addr} : Exk C2 dd b ≠ exo b C none := fun z => by
  unfold Exk exo at z
  injection z with z
  obtain ⟨h, e⟩ := heap_one b { cls := .ref C, dict := none, data := .fields #[.ref 0, .none, .none, .none, .bool false, .none] } (fun z => by cases z)
  have w : (∃ t1 : Addr, h.get? b = some ({ cls := .ref C, dict := none, data := .fields #[.ref t1, .none, .none, .none, .bool false, .none] } : Obj)) := ⟨0, e⟩
  rw [← congrFun z h] at w
  obtain ⟨oe, vs, e2, hz, _⟩ := w
  rw [e] at e2
  cases e2
  cases hz.2
theorem exo_ne_code {C c : Addr} {q : Str} : LamX.CodeO c q ≠ exo c C none := fun z => by
  unfold LamX.CodeO exo at z
  injection z with z
  obtain ⟨h, e⟩ := heap_one c { cls := .ref C, dict := none, data := .fields #[.ref 0, .none, .none, .none, .bool false, .none] } (fun z => by cases z)
  have w : (∃ t1 : Addr, h.get? c = some ({ cls := .ref C, dict := none, data := .fields #[.ref t1, .none, .none, .none, .bool false, .none] } : Obj)) := ⟨0, e⟩
  rw [← congrFun z h] at w
  obtain ⟨oe, vs, t, e2, ed, ev⟩ := w
  rw [e] at e2
  cases e2
  cases ed
  simp at ev
/-- all but an exception in the making stays -/
def KeepX (C : Addr) (H H' : Hp) : Prop := ∀ b u, H b = some u → u ≠ exo b C none → H' b = some u
section
variable {K : PySem.W.Frag} {as : List Addr} {H H' : Hp} {C : Addr}
theorem rd_kx (k : KeepX C H H') {a : Addr} {u : HO} (hu : ∀ b, u ≠ exo b C none) (h : Rd H a u) : Rd H' a u := by
  rcases h with h | ⟨o, h⟩
  · exact .inl (k a u h (hu a))
  · exact .inr ⟨o, k a _ h fun z => exo_frz z.symm⟩
theorem ql_kx (k : KeepX C H H') {a : Addr} {xs : List V} (h : QL K as H a xs) : QL K as H' a xs := by
  rcases h with ⟨n, h⟩ | h
  · exact .inl ⟨n, rd_kx k (fun b z => by unfold exo at z; cases z) h⟩
  · exact .inr h
theorem qt_kx (k : KeepX C H H') {a : Addr} {xs : List V} (h : QT K as H a xs) : QT K as H' a xs := by
  rcases h with ⟨n, h⟩ | h
  · exact .inl ⟨n, rd_kx k (fun b z => by unfold exo at z; cases z) h⟩
  · exact .inr h
mutual
theorem Dx.kx (k : KeepX C H H') : ∀ {v : V} {d : D}, Dx K as H v d → Dx K as H' v d
  | _, _, .non => .non
  | _, _, .bl b => .bl b
  | _, _, .int i => .int i
  | _, _, .str x => .str x
  | _, _, .lst h r => .lst (ql_kx k h) (DxA.kx k r)
  | _, _, .tup h r => .tup (qt_kx k h) (DxA.kx k r)
  | _, _, .dk n h r => .dk n (rd_kx k (fun b z => by unfold exo at z; cases z) h) (DxP.kx k r)
  | _, _, .ob n n2 h h2 r => .ob n n2 (k _ _ h (fun z => by unfold exo at z; cases z)) (k _ _ h2 (fun z => by unfold exo at z; cases z)) (DxF.kx k r)
  | _, _, .xo n n2 h h2 r => .xo n n2 (k _ _ h exo_ne_exk) (k _ _ h2 (fun z => by unfold exo at z; cases z)) (DxF.kx k r)
theorem DxA.kx (k : KeepX C H H') : ∀ {v : List V} {d : List D}, DxA K as H v d → DxA K as H' v d
  | _, _, .nil => .nil
  | _, _, .cons h r => .cons (Dx.kx k h) (DxA.kx k r)
theorem DxP.kx (k : KeepX C H H') : ∀ {v : List (Key × V)} {d : List (Key × D)}, DxP K as H v d → DxP K as H' v d
  | _, _, .nil => .nil
  | _, _, .cons h r => .cons (Dx.kx k h) (DxP.kx k r)
theorem DxF.kx (k : KeepX C H H') : ∀ {v : List (Str × V)} {d : List (Str × D)}, DxF K as H v d → DxF K as H' v d
  | _, _, .nil => .nil
  | _, _, .cons h r => .cons (Dx.kx k h) (DxF.kx k r)
end
theorem Ro.kx {os : Os} (k : KeepX C H H') (R : Ro K as H os) : Ro K as H' os := ⟨R.nd, R.len, fun i a ob h1 h2 => by
  have h := R.own i a ob h1 h2
  cases ob with
  | ml xs =>
    obtain ⟨vs, a1, a2⟩ := h
    exact ⟨vs, k _ _ a1 ((fun z => by unfold exo at z; cases z)), DxA.kx k a2⟩
  | md kds =>
    obtain ⟨vs, a1, a2⟩ := h
    exact ⟨vs, k _ _ a1 ((fun z => by unfold exo at z; cases z)), DxP.kx k a2⟩
  | mi C2 fds =>
    obtain ⟨dx, vs, a1, a2, a3, a4⟩ := h
    exact ⟨dx, vs, k _ _ a1 ((fun z => by unfold exo at z; cases z)), a2, k _ _ a3 ((fun z => by unfold exo at z; cases z)), DxF.kx k a4⟩
  | tb P q =>
    obtain ⟨ps, a1, a2, a3, a4⟩ := h
    refine ⟨ps, k _ _ a1 ((fun z => by unfold exo at z; cases z)), a2, a3, fun pos cv hc => ?_⟩
    obtain ⟨c, b1, b2, b3⟩ := a4 pos cv hc
    exact ⟨c, b1, b2, k _ _ b3 exo_ne_code⟩
  | mp p kds =>
    obtain ⟨vs, a1, a2, a3⟩ := h
    exact ⟨vs, k _ _ a1 ((fun z => by unfold exo at z; cases z)), a2, DxP.kx k a3⟩
  | lp p od vs kds =>
    obtain ⟨a1, a2, a3⟩ := h
    exact ⟨k _ _ a1 ((fun z => by unfold exo at z; cases z)), a2, DxP.kx k a3⟩
  | mr C2 fs =>
    obtain ⟨dx, a1, a2, a3⟩ := h
    exact ⟨dx, k _ _ a1 ((fun z => by unfold exo at z; cases z)), a2, k _ _ a3 ((fun z => by unfold exo at z; cases z))⟩⟩
end
/-- C.__init__ of one field, of any data that is ok -/
def spIX (K : PySem.W.Frag) (C : Addr) (f : Str) (ok : D → Bool) : Sp := fun vs H Q _ => ∃ (as : List Addr) (os : Os) (a : Addr) (v : V) (d : D), vs = [.ref a, v] ∧ Ro K as H os ∧ a ∉ as ∧ Dx K as H v d ∧ ok d = true ∧ H a = some (exo a C none) ∧
  ∀ (dx : Addr) (v' : V) (H' : Hp), H dx = none → dx ≠ a → H' a = some (exo a C (some dx)) → H' dx = some (exd dx [(f, v')]) →
    (∀ Hf : Hp, (∀ b o, b ≠ a → b ≠ dx → H' b = some o → Hf b = some o) → (∀ b o, b ≠ a → b ∉ as → H b = some o → Hf b = some o) ∧ Ro K as Hf os ∧ Dx K as Hf v' d) → Q .non H'
section
variable {K : PySem.W.Frag} {X : Xc} {S : Sa} {E : Ea} {ta : TA}
theorem w_raiseX {C : Addr} {f : Str} {ok : D → Bool} {Wx : WX} (hw : Wx = X.wx) (h : AW K X ta S fun xs os => ∃ d, xs = [.d d] ∧ ok d = true ∧ X.xe C [(f, d)] ⟨S.s, os⟩) :
    W K X (fun _ σ H => tMkO C (spIX K C f ok) [] ta σ H fun cls dd H' => Wx cls dd σ H') E S := fun as H σ D R x n r b c => by
  refine h as H σ _ R (x.h R) fun vs H1 xs os1 g1 R1 r1 ⟨d, e, hP, q⟩ => ?_
  subst e
  cases r1 with
  | @cons u _ _ _ r1 rn =>
    cases rn
    have r1' : Dx K as H1 u d := r1
    refine ⟨Nat.le_of_ble_eq_true rfl, fun a ha => ⟨as, os1, a, _, d, rfl, R1.new ha, R1.notin ha, Dx.way (Way.of_go (Go.new ha)) r1', hP, upd_same, fun dx v' H2 h1 h2 h3 h4 hk => ⟨rfl, dx, _, h3, h4, ?_, ?_⟩⟩⟩
    · rw [upd_ne h2] at h1
      exact h1
    · have hdx : H1 dx = none := by
        rw [upd_ne h2] at h1
        exact h1
      obtain ⟨k1, R3, r3⟩ := hk (upd (del H2 a) dx (.xd [(f, v')])) fun b o n1 n2 e => by
        rw [upd_ne n2, del_ne n1]
        exact e
      have g2 : Go as H1 (upd (del H2 a) dx (.xd [(f, v')])) := fun b o e n => k1 b o (ne_of_none e ha) n (by rw [upd_ne (ne_of_none e ha)]; exact e)
      have z := x.h R _ C dx [(f, v')] [(f, d)] os1 (g1.trans g2) R3 (g1.free (R1.notin hdx) hdx) upd_same (.cons r3 .nil) q
      rw [hw]
      exact z
end
/-! ### {k: .. for k in {}} -/
section
variable {X : Cx} {tg e : Expr} {td : TE}
/-- locked, where it isn't yet -/
def tLk (t : TE) : TE := fun σ H Q => tLockE t σ H Q ∨ t σ H Q
theorem pe_lk {t : TE} (h : PE X e t) : PE X e (tLk t) := ⟨fun pins s σ H Q I z => z.elim ((pe_lock h).run pins s σ H Q I) (h.run pins s σ H Q I)⟩
end
section
variable {K : PySem.W.Frag} {X : Xc} {S : Sa} {Q : Sv → Os → Prop} {i : Nat} {g : TG} {tt : TT} {tk tv : TE} {vs : List Nat}
theorem dk_nil {as : List Addr} {H : Hp} {v : V} (r : Dx K as H v (.dk [])) : ∃ a, v = .ref a ∧ a ∉ as ∧ Rd H a (.dK []) := by
  cases r with
  | dk n h r =>
    cases r
    exact ⟨_, rfl, n, h⟩
theorem ew_dc0 (hs : S.s[i]? = some (some (.d (.dk [])))) (q : Q (.d (.dk [])) S.os) : EW K X (tLk (tDc (iKeys (tVar i)) g tt tk tv vs)) S Q := fun as H σ Q' R x k => by
  obtain ⟨v, e, r⟩ := R.slot i _ hs
  obtain ⟨a, rfl, na, rd⟩ := dk_nil r
  -- over a locked dict
  have walk : ∀ (H1 : Hp) (o : Obj) (Z : VK), H1 a = some (.frz o (.dK [])) → (∀ p, H1 p = none → Z (.ref p) (upd H1 p (.dK []))) → tDc (iKeys (tVar i)) g tt tk tv vs σ H1 Z := fun H1 o Z h z => by
    refine ⟨_, e, a, o, rfl, .inl ⟨[], h, fun p hp => ⟨fun i m H => i = 0 ∧ H = upd H1 p (.dK []), ⟨0, rfl, rfl⟩, ?_⟩⟩⟩
    rintro i m H2 ⟨rfl, rfl⟩
    refine .inl ⟨⟨?_, Nat.le_refl _⟩, z p hp⟩
    rw [upd_ne (ne_of_none h hp)]
    exact h
  rcases rd with h | ⟨o, h⟩
  · refine .inl ⟨a, _, h, by trivial, fun od => walk _ od _ upd_same fun p hp => ?_⟩
    have np : p ≠ a := fun z => by
      rw [z, upd_same] at hp
      cases hp
    have hp2 : H p = none := by
      rw [upd_ne np] at hp
      exact hp
    refine ⟨by rw [upd_ne (Ne.symm np), upd_same], ?_⟩
    have e2 : upd (upd (upd H a (.frz od (.dK []))) p (.dK [])) a (.dK []) = upd H p (.dK []) := funext fun b => by
      by_cases hb : b = a
      · rw [hb, upd_same, upd_ne (Ne.symm np)]
        exact h.symm
      · rw [upd_ne hb]
        by_cases hb2 : b = p
        · rw [hb2, upd_same, upd_same]
        · rw [upd_ne hb2, upd_ne hb2, upd_ne hb]
    rw [e2]
    exact k (.ref p) _ (.d (.dk [])) S.os (Go.new hp2) (R.o.new hp2) (Dx.dk (R.o.notin hp2) (.inl upd_same) .nil) q
  · exact .inr (walk H o _ h fun p hp => k (.ref p) _ (.d (.dk [])) S.os (Go.new hp) (R.o.new hp) (Dx.dk (R.o.notin hp) (.inl upd_same) .nil) q)
end
/-! ### what is shown, numbers of up to two hundred figures -/
mutual
theorem fit_pyW {M : Nat} (hM : M ≤ 10 ^ 200) : ∀ d : D, d.fit M = true → ∃ p, d.pyE = some p ∧ p.showable = true ∧ p.depth ≤ d.dpt ∧ p.shown.length ≤ d.ln
  | .non, _ => ⟨_, rfl, rfl, Nat.le_refl _, by decide⟩
  | .bl b, _ => ⟨_, rfl, rfl, Nat.le_refl _, by cases b <;> decide⟩
  | .int i, h => by
    have h1 : i.natAbs ≤ M := of_decide_eq_true h
    have h2 : i.natAbs.log2 < 1920 := by
      by_cases h0 : i.natAbs = 0
      · rw [h0]
        decide
      · refine (Nat.log2_lt h0).mpr (Nat.lt_of_le_of_lt (Nat.le_trans h1 hM) (by decide))
    exact ⟨_, rfl, decide_eq_true h2, Nat.le_refl _, int_text_len_1921 h2⟩
  | .str z, h => ⟨_, rfl, rfl, Nat.le_refl _, PySem.StrLaws.reprText_len z fun c hc => by
      have h1 := of_decide_eq_true (List.all_eq_true.mp (show z.cps.toList.all (fun c => decide (c < 128)) = true from h) c hc)
      exact Nat.lt_trans h1 (by decide)⟩
  | .lst xs, h => by
    obtain ⟨ps, e, h1, h2, h3⟩ := fits_pyW hM xs h
    refine ⟨.list ps, by show (D.pysE xs).map PyData.list = _; rw [e]; rfl, h1, Nat.succ_le_succ h2, ?_⟩
    refine Nat.le_trans (listText_len_le (PyData.shownAll ps)) ?_
    show _ ≤ D.lns xs + 3
    omega
  | .tup xs, h => by
    obtain ⟨ps, e, h1, h2, h3⟩ := fits_pyW hM xs h
    refine ⟨.tuple ps, by show (D.pysE xs).map PyData.tuple = _; rw [e]; rfl, h1, Nat.succ_le_succ h2, ?_⟩
    refine Nat.le_trans (tupleText_len_le (PyData.shownAll ps)) ?_
    show _ ≤ D.lns xs + 3
    omega
  | .dk [], _ => ⟨.dict [], rfl, rfl, by decide, by decide⟩
  | .dk (_ :: _), h => by cases (show false = true from h)
  | .ob _ _, h => by cases (show false = true from h)
  | .xo _ _, h => by cases (show false = true from h)
theorem fits_pyW {M : Nat} (hM : M ≤ 10 ^ 200) : ∀ ds : List D, D.fits M ds = true → ∃ ps, D.pysE ds = some ps ∧ PyData.showableAll ps = true ∧ PyData.depthAll ps ≤ D.dpts ds ∧ ((PyData.shownAll ps).map (·.length)).sum + 2 * (PyData.shownAll ps).length ≤ D.lns ds
  | [], _ => ⟨[], rfl, rfl, Nat.le_refl _, Nat.le_refl _⟩
  | d :: ds, h => by
    have e : D.fits M (d :: ds) = (D.fit M d && D.fits M ds) := rfl
    rw [e, Bool.and_eq_true] at h
    obtain ⟨p, a1, a2, a3, a4⟩ := fit_pyW hM d h.1
    obtain ⟨ps, b1, b2, b3, b4⟩ := fits_pyW hM ds h.2
    refine ⟨p :: ps, ?_, ?_, ?_, ?_⟩
    · show ((D.pyE d).bind fun p => (D.pysE ds).map fun ps => p :: ps) = _
      rw [a1, b1]
      rfl
    · show (p.showable && PyData.showableAll ps) = true
      rw [a2, b2]
      rfl
    · show max p.depth (PyData.depthAll ps) ≤ max d.dpt (D.dpts ds)
      omega
    · show ((p.shown.length :: (PyData.shownAll ps).map (·.length)).sum + 2 * ((PyData.shownAll ps).length + 1)) ≤ d.ln + 2 + D.lns ds
      rw [List.sum_cons]
      omega
end
theorem cw_reprW {K : PySem.W.Frag} {os : Os} {Q : Sv → Os → Prop} {M : Nat} {x : D} (hM : M ≤ 10 ^ 200) (h : x.fit M = true) (hl : x.ln ≤ 10000000) (hd : x.dpt ≤ 60) (q : Q (.d (.str (shownD x))) os) : CW K (rReprA K) [.d x] os Q := by
  obtain ⟨p, e, h1, h2, h3⟩ := fit_pyW hM x h
  have es : shownD x = p.shown := by
    unfold shownD
    rw [e]
  rw [es] at q
  exact cw_pure (fun as H vs Q' R r k => by
    cases r with
    | cons h t =>
      cases t
      exact ⟨as, _, x, p, rfl, h, e, h1, by omega, Nat.le_trans h3 (Nat.le_trans hl (by decide)), k _ (.str _)⟩) q
end Br

/-! BrKD: for k in a written dict. -/
namespace Br
open PySem PySem.Spec PyProof.Rows L2
/-- the names of a written dict -/
def Itw (tb : List (Str × D)) : It := ⟨fun i _ => i < tb.length, fun i H x H' => H' = H ∧ ∃ kd, tb[i]? = some kd ∧ x = .str kd.1, fun i _ => tb.length ≤ i⟩
def iKd (tb : List (Str × D)) : TI := fun _ H R => R (Itw tb) H
theorem keys_nth {K : PySem.W.Frag} : ∀ {es : List DictEntry} {tb : List (Str × D)}, keysOk K es tb = true → es.length = tb.length ∧ ∀ (i : Nat) (kd : Str × D), tb[i]? = some kd → ∃ en t, es[i]? = some en ∧ en.key = .str kd.1 t
  | [], [], _ => ⟨rfl, fun i kd h => by simp at h⟩
  | [], _ :: _, h => by cases h
  | e :: es, [], h => by cases h
  | e :: es, kd :: tb, h => by
    have h1 : ((match e.key with
      | .str x _ => decide (x = kd.1)
      | _ => false) && (dOk K kd.2 e.val && keysOk K es tb)) = true := h
    rw [Bool.and_eq_true, Bool.and_eq_true] at h1
    obtain ⟨h2, _, h3⟩ := h1
    obtain ⟨l, ih⟩ := keys_nth h3
    refine ⟨by rw [List.length_cons, List.length_cons, l], fun i k2 hk => ?_⟩
    cases i with
    | zero =>
      simp at hk
      subst hk
      cases ek : e.key with
      | str x t =>
        rw [ek] at h2
        have ex : x = kd.1 := of_decide_eq_true h2
        exact ⟨e, t, rfl, by rw [ek, ex]⟩
      | _ =>
        rw [ek] at h2
        cases h2
    | succ i =>
      obtain ⟨en, t, a, b⟩ := ih i k2 (by simpa using hk)
      exact ⟨en, t, by simpa using a, b⟩
section
variable {P : Program} {w : World} {K : PySem.W.Frag} {tg : Expr} {d : Addr} {es : Array DictEntry} {n : Nat} {tb : List (Str × D)}
theorem turn_kd (it : Addr) (D : KDict K w d es n) (hk : keysOk K es.toList tb = true) : Turn P w K tg (Itw tb) [it] it (fun i h => h.IsKeyIter it d i es.size n) where
  mem := by simp
  obj := fun i h st b hb => by
    have e : b = it := by simpa using hb
    subst e
    obtain ⟨oi, e, c, dd⟩ := st
    exact ⟨oi, e, fun v z => by rw [dd] at z; cases z⟩
  keep := fun i h h' st k => st.at fun oi e => k it (by simp) oi e
  item := by
    intro X hP hw hK hc i pins s σ H E I hf st hg
    subst hP hw hK
    have hi : i < tb.length := hg
    obtain ⟨f0, f1, f2, f3, f4, f5⟩ := hf it (by simp)
    have hgd := I.kIn _ _ D.at_
    obtain ⟨kd, hkd⟩ : ∃ kd, tb[i]? = some kd := ⟨tb[i], List.getElem?_eq_getElem hi⟩
    obtain ⟨en, t, hen, ekey⟩ := (keys_nth hk).2 i kd hkd
    have hen2 : es[i]? = some en := by rw [← Array.getElem?_toList]; exact hen
    refine next_key_item st hgd rfl rfl hen2 fun h' st' sb => ?_
    have I1 : Inv X pins σ H { s with heap := h' } := I.turned (t' := s.toks) (fun b ob hb e => (sb.2 b hb).trans e) f0 f1 f3 f4 f5
    obtain ⟨oi, e, c, dd⟩ := id st'
    exact ⟨en.key, rfl, go_of (s := { s with heap := h' }) e c dd (by decide) ⟨.str kd.1, H, I1, ⟨t, ekey⟩, ⟨rfl, kd, hkd, rfl⟩, st', fun b hb => (hf b hb).1⟩⟩
  done := by
    intro X hP hw hK hc i pins s σ H E I hf st hg
    subst hP hw hK
    have hi : tb.length ≤ i := hg
    obtain ⟨f0, f1, f2, f3, f4, f5⟩ := hf it (by simp)
    have hgd := I.kIn _ _ D.at_
    have hl := (keys_nth hk).1
    rw [Array.length_toList] at hl
    exact next_key_end (I.ok.hd hc) st hgd rfl rfl (by omega) fun h' eb => ⟨rfl, I.turned (t' := s.toks) (fun b ob hb e => eb b ob hb e) f0 f1 f3 f4 f5⟩
  self := fun A i s Q E st h => wpAny_pyIter_keyiter st h
end
theorem kd_keys {K : PySem.W.Frag} {w : World} {d : Addr} {es : Array DictEntry} {n : Nat} {tb : List (Str × D)} (D : KDict K w d es n) (h : kdOk K d tb = true) : keysOk K es.toList tb = true := by
  unfold kdOk at h
  rw [D.at_] at h
  exact h
theorem pi_kd {X : Cx} {tg e : Expr} {d : Addr} {es : Array DictEntry} {n : Nat} {tb : List (Str × D)} (D : KDict X.K X.w d es n) (hk : kdOk X.K d tb = true) (he : PE X e (tC (.ref d))) : PI X tg e (iKd tb) := by
  refine ⟨fun pins s σ H R I h => ?_⟩
  refine thn (he.run pins s σ H (fun v H1 => v = .ref d ∧ H1 = H) I ⟨rfl, rfl⟩) fun u s1 ⟨x, H1, I1, rx, ex, eH⟩ => ?_
  subst ex
  subst eH
  obtain rfl : u = Value.ref d := rx
  have hgd := I1.kIn _ _ D.at_
  refine iter_keys D.low hgd ⟨rfl, rfl, rfl⟩ rfl (pi_one (tk := s1.toks) I1 _ (turn_kd _ D (kd_keys D hk)) ⟨_, Heap.get?_push_size _ rfl, rfl, ?_⟩ h)
  rfl
theorem iw_kd {K : PySem.W.Frag} {X : Xc} {S : Sa} {tb : List (Str × D)} {Q : List D → Os → Prop} (q : Q (tb.map fun kd => .str kd.1) S.os) : IW K X (iKd tb) S Q := fun as H σ R' R x k =>
  k (Itw tb) H _ S.os (Go.refl _ _) R.o (fun bs H2 os s R2 i => ⟨fun d hd => by
    rw [List.getElem?_map] at hd
    obtain ⟨kd, hk, rfl⟩ := Option.map_eq_some_iff.mp hd
    refine ⟨(List.getElem?_eq_some_iff.mp hk).1, fun y H3 hy => ?_⟩
    obtain ⟨rfl, kd2, h2, rfl⟩ := hy
    rw [hk] at h2
    cases h2
    exact ⟨Go.refl _ _, R2, .str _⟩, fun hn => by rw [List.length_map] at hn; exact hn⟩) q
end Br

/-! BrLN: a lambda and more handed to a def; what is told may be a new thing of the store. -/
namespace Br
open PySem PySem.Spec PyProof.Rows L2
abbrev RS := Sv → Os → Prop
abbrev FLs := Os → RS → Xa → Prop
abbrev FGs := FLs → List Sv → Os → RS → Prop
/-- a lambda keeps its promise -/
def LamOkS (K : PySem.W.Frag) (r : Stb) (tl : XK → Hp → VK → Prop) (fl : FLs) : Prop :=
  ∀ (as : List Addr) (H : Hp) (os : Os) (E : XK) (Q : VK) (QA : RS) (EA : Xa), r.R as H → Ro K as H os → fl os QA EA →
    (∀ v bs H' x os', Stp as H bs H' → Ro K bs H' os' → SvR K bs H' v x → QA x os' → Q v H') →
    (∀ C dd H' fs fds os', Go as H H' → Ro K as H' os' → H dd = none → H' dd = some (.xd fs) → DxF K as H' fs fds → EA C fds os' → E (.ref C) (some dd) H') → tl E H Q
/-- what a def asks that gets a lambda and n things more -/
def TTofS (K : PySem.W.Frag) (n : Nat) (fg : FGs) : (XK → Hp → VK → Prop) → List V → Hp → VK → Prop := fun tl zs H Q => zs.length = n ∧ ∃ (as : List Addr) (os : Os) (r : Stb) (fl : FLs) (es : List Sv) (QA : RS), Ro K as H os ∧ r.R as H ∧ SvA K as H zs es ∧ LamOkS K r tl fl ∧ fg fl es os QA ∧
  ∀ v bs H' x os', Stp as H bs H' → Ro K bs H' os' → SvR K bs H' v x → QA x os' → Q v H'
section
variable {K : PySem.W.Frag} {X : Xc} {S : Sa}
/-- x = a(), a the lambda -/
theorem w_asgAct {i j : Nat} {f c1 : Addr} {q : Str} {r : Stb} {fl : FLs} {tl : XK → Hp → VK → Prop} {wx : WX} {xe : Addr → List (Str × D) → Sa → Prop} {E : Ea} (hs : S.s[i]? = some (some (.fn f (r.at c1 q)))) (hl : LamOkS K r tl fl)
    (h : fl S.os (fun x os' => E.nx ⟨S.s.set j (some x), os'⟩) fun C fds os' => xe C fds ⟨S.s, os'⟩) : W K ⟨wx, xe⟩ (tAsg (tAct i f c1 q tl wx) (gName j)) E S := fun as H σ D R x n rt b c => by
  obtain ⟨v, e, ev, hr, hn, hc⟩ := R.slot i _ hs
  subst ev
  have xh := x.h R
  refine ⟨e, hc, hl as H S.os _ _ _ _ hr R.o h (fun v bs H' y os' s R' r' z => ?_) fun C dd H' fs fds os' g R' n' e' rf z => xh H' C dd fs fds os' g R' n' e' rf z⟩
  have R2 : Re K bs H' σ ⟨S.s, os'⟩ := ⟨R', R.slen, fun k d hd => by
    obtain ⟨u, e, z⟩ := R.slot k d hd
    exact ⟨u, e, z.stp s⟩⟩
  exact n bs H' _ _ s (R2.set j r') z
/-- from what is asked to the body's reading -/
theorem readS_of {n : Nat} {N : List Str} {fg : FGs} {t : TS} {f c1 : Addr} {q : Str} {H : Hp} {QV : VK} {tl : XK → Hp → VK → Prop} {zs : List V} (h : TTofS K n fg tl zs H QV) (hc : H c1 = some (LamX.CodeO c1 q))
    (w : ∀ r fl es os QA, LamOkS K r tl fl → fg fl es os QA → W K X0 t { nx := fun S => QA (.d .non) S.os, rt := QA } ⟨startS N (.fn f (r.at c1 q) :: es), os⟩) : t { nx := fun _ H' => QV .non H', rt := QV } (L2.start N (.ref f :: zs)) H := by
  obtain ⟨_, as, os, r, fl, es, QA, R, hr, rz, hl, hg, kq⟩ := h
  have rs : SvA K as H (.ref f :: zs) (.fn f (r.at c1 q) :: es) := .cons (show SvR K as H (.ref f) (.fn f (r.at c1 q)) from ⟨rfl, hr, code_nin R hc, hc⟩) rz
  refine w r fl es os QA hl hg as H _ _ (re_start R rs) XS.x0 (fun bs H' σ' S' s R' z => ?_) (fun bs H' v d os' s R' r' z => ?_) (fun _ _ _ _ _ _ z => z.elim) fun _ _ _ _ _ _ z => z.elim
  · exact kq .non bs H' (.d .non) S'.os s R'.o Dx.non z
  · exact kq v bs H' d os' s R' r' z
end
/-- a def that gets a lambda and more -/
def LamsS (P : Program) (w : World) (K : PySem.W.Frag) (mg : Str → Option Value) (base : Heap) (x a : Str) (st : Stmt) (g : Addr) (N : List Str) (k : Nat) (q : Str) (n : Nat) (fg : FGs) : Prop :=
  ∀ (cdg : Value) (A : Around) (outer : List Env) (f c1 : Addr) (s : Shared) (H : Hp) (Q : VK) (tl : XK → Hp → VK → Prop) (zs : List V), Room k (A.deeper (envOfC x (defScope st) s.heap.objs.size g cdg)) →
    (∀ (W : WX) (pn : List (Addr × Obj)) (xe : Value → Shared → Prop) (p1 p2 : Pos), Takes ((cxOf CX0 P w K mg base N x (defScope st) g cdg A outer s H E0).tr pn xe) W →
      PE ((cxOf CX0 P w K mg base N x (defScope st) g cdg A outer s H E0).tr pn xe) (.Call (.Name a p1) [] [] p2) (tAct 0 f c1 q tl W)) →
    H c1 = some (LamX.CodeO c1 q) → TTofS K n fg tl zs H Q →
    ∃ t, PSs (cxOf CX0 P w K mg base N x (defScope st) g cdg A outer s H E0).nox (defBody st) t ∧ t { nx := fun _ H' => Q .non H', rt := Q } (L2.start N (.ref f :: zs)) H
/-- x(lambda: .., ..) -/
def tLamBS (P : Addr) (q : Str) (TT : (XK → Hp → VK → Prop) → List V → Hp → VK → Prop) (t : XK → TE) (ta : TA) : TE := fun σ H Q => LamX.TabS H P q ∧ ∀ c1 H1, LamN H H1 P c1 q → ta σ H1 fun zs H2 => H2 c1 = some (LamX.CodeO c1 q) ∧ TT (fun E H' Q' => t E σ H' Q') zs H2 Q
section
variable {X : Cx} {pins : List (Addr × Obj)} {σ : L2.St} {H : Hp} {s : Shared}
theorem lam_newF {c P : Addr} {params : Arguments} {body : Expr} {scope : Scope} {pos : Pos} {E Q : Value → Shared → Prop} (I : Inv X pins σ H s) (B : LamX.TabB X.base X.mg c P) (here : X.env.code = .ref c)
    (tab : LamX.TabS H P (X.env.qual ++ "<lambda>")) (noD : defaultsOf params X.env = ([], [])) (caught : ∀ y ∈ scope.names, y.2 = .free → ∃ c, X.env.cells.lookup y.1 = some c)
    (go : ∀ (f c1 : Addr) (pm ct : Value) (H1 : Hp) (s1 : Shared), Inv X pins σ H1 s1 → LamN H H1 P c1 (X.env.qual ++ "<lambda>") →
      s1.heap.get? f = some (PySem.W.kla_obj "<lambda>" (X.env.qual ++ "<lambda>") params body scope (cloFrom X.env.cells scope.names []) pm c1 ct) → H1 f = none → f ∉ frs X.stack → f ∉ X.fs → Q (.ref f) s1) :
    wpAny (model X.prog X.w) X.A (eval (.Lambda params body scope pos) X.env) Q E s := by
  obtain ⟨cells, atP, three, among⟩ := tab
  have onHeap : s.heap.get? P = some { cls := .none, data := .fields cells } := I.hok P _ atP
  have built : s.heap.BuiltinsAt X.mg P := B.bm.keeps I.bk
  have tall : ∀ f, s.heap.objs.size ≤ f → f ∉ frs X.stack := fun f le m => by
    cases List.mem_cons.mp (I.stkSub _ m) with
    | inl e =>
      have lt := I.lt
      rw [← e] at lt
      exact absurd (Nat.lt_of_lt_of_le lt le) (Nat.lt_irrefl _)
    | inr e => exact I.nofs le e
  apply PySem.W.kla_eval noD
  cases known : codeAmong pos cells.toList with
  | some cv =>
    obtain ⟨c1, ec, co⟩ := among pos cv known
    cases ec
    apply PySem.W.kla_makeFunctionHit (mg := X.mg) (c := c) (P := P) (ps := cells) (closure_ok caught) I.ok.glob (I.mod.glob.keeps I.bk) here (B.code.keeps I.bk) onHeap three known built
    intro ct h1 tk keeps size
    exact go h1.objs.size c1 _ ct H _ (I.kept fun b o e => Heap.get?_push_of_some _ (keeps b o e)) ⟨⟨cells, atP, three, among⟩, fun _ _ _ e => e, fun _ e => e, co⟩ (Heap.get?_push_size _ rfl) (I.hok.fresh size) (tall _ size) (I.nofs size)
  | none =>
    apply PySem.W.kla_makeFunction (mg := X.mg) (c := c) (P := P) (ps := cells) (closure_ok caught) I.ok.glob (I.mod.glob.keeps I.bk) here (B.code.keeps I.bk) onHeap three known B.gP built
    intro c1 ct h1 tk keeps le lt rec atP1
    obtain ⟨c2, oc, vs, t, e2, atc, dc, named⟩ := rec
    cases e2
    have size : s.heap.objs.size ≤ h1.objs.size := by omega
    have free : H c1 = none := I.hok.fresh le
    have ne : P ≠ c1 := ne_of_none atP free
    have J := LamX.inv_table (t' := tk) (more := #[rawInt pos.line, rawInt pos.col, .ref c1]) (h' := h1.push (PySem.W.kla_obj "<lambda>" (X.env.qual ++ "<lambda>") params body scope (cloFrom X.env.cells scope.names []) ((X.mg "__name__").getD .none) c1 ct)) I atP
      (fun b o n e => Heap.get?_push_of_some _ (keeps b o n e)) (Heap.get?_push_of_some _ atP1) le ⟨oc, vs, t, Heap.get?_push_of_some _ atc, dc, named⟩
    have old : ∀ b o, b ≠ P → H b = some o → upd (upd H P (.tbl (cells ++ #[rawInt pos.line, rawInt pos.col, .ref c1]))) c1 (LamX.CodeO c1 (X.env.qual ++ "<lambda>")) b = some o := fun b o n e => by
      rw [upd_ne (ne_of_none e free), upd_ne n]
      exact e
    have notP : ∀ c0, H c0 = some (LamX.CodeO c0 (X.env.qual ++ "<lambda>")) → c0 ≠ P := fun c0 e z => by
      rw [z, atP] at e
      exact LamX.codeO_ne _ (Option.some.inj e).symm
    refine go h1.objs.size c1 _ ct _ _ J ⟨⟨cells ++ #[rawInt pos.line, rawInt pos.col, .ref c1], ?_, ?_, ?_⟩, old, ?_, upd_same⟩ (Heap.get?_push_size _ rfl) ?_ (tall _ size) (I.nofs size)
    · rw [upd_ne ne, upd_same]
    · rw [Array.toList_append]
      exact PySem.TriplesOk_snoc _ _ _ _ three
    · intro p1 cv found
      rw [Array.toList_append] at found
      rcases LamX.among_app _ three found with z | z
      · obtain ⟨c0, e1, e2⟩ := among p1 cv z
        exact ⟨c0, e1, old _ _ (notP _ e2) e2⟩
      · exact ⟨c1, z, upd_same⟩
    · intro b e
      by_cases e1 : b = c1
      · rw [e1]
        exact free
      · rw [upd_ne e1] at e
        by_cases e2 : b = P
        · rw [e2, upd_same] at e
          cases e
        · rw [upd_ne e2] at e
          exact e
    · rw [upd_ne (show h1.objs.size ≠ c1 by omega), upd_ne (show h1.objs.size ≠ P from Nat.ne_of_gt (Nat.lt_of_lt_of_le (Heap.lt_size onHeap) size))]
      exact I.hok.fresh size
end
theorem pin_add {X : Cx} {pins : List (Addr × Obj)} {σ : L2.St} {H : Hp} {s : Shared} {f : Addr} {o : Obj} {fd : FuncData} (I : Inv X pins σ H s) (obj : s.heap.get? f = some o) (new : H f = none) (noFr : f ∉ X.fs) (dat : o.data = .func fd) : Inv X (pins ++ [(f, o)]) σ H s := by
  have h : ∀ p ∈ X.pn ++ (pins ++ [(f, o)]), s.heap.get? p.1 = some p.2 ∧ H p.1 = none ∧ p.1 ≠ X.env.locals ∧ p.1 ∉ X.fs ∧ ∀ v, p.2.data ≠ .cell v := fun p hp => by
    rw [← List.append_assoc] at hp
    rcases List.mem_append.mp hp with h | h
    · exact I.pin p h
    · rw [List.mem_singleton.mp h]
      refine ⟨obj, new, fun z => ?_, noFr, fun v e => ?_⟩
      · obtain ⟨m, hn, _⟩ := I.loc
        obtain ⟨o2, es, ep, e, d, _⟩ := hn
        have z2 : f = X.env.locals := z
        rw [← z2, obj] at e
        cases e
        rw [dat] at d
        cases d
      · have e2 : o.data = .cell v := e
        rw [dat] at e2
        cases e2
  exact { I with pin := h }
theorem pin_sub {X : Cx} {pins more : List (Addr × Obj)} {σ : L2.St} {H : Hp} {s : Shared} (I : Inv X (pins ++ more) σ H s) : Inv X pins σ H s := by
  have h : ∀ p ∈ X.pn ++ pins, s.heap.get? p.1 = some p.2 ∧ H p.1 = none ∧ p.1 ≠ X.env.locals ∧ p.1 ∉ X.fs ∧ ∀ v, p.2.data ≠ .cell v := fun p hp => I.pin p (by
    rcases List.mem_append.mp hp with h | h
    · exact List.mem_append_left _ h
    · exact List.mem_append_right _ (List.mem_append_left _ h))
  exact { I with pin := h }
theorem pe_lamBS {X : Cx} {fg : FGs} {x a : Str} {as : List Str} {st : Stmt} {g c P : Addr} {fd : FuncData} {k : Nat} {Ng : List Str} {params : Arguments} {body e0 : Expr} {es0 : List Expr} {scope : Scope} {t : XK → TE} {ta : TA} {p lpos pos : Pos} (L : LamsS X.prog X.w X.K X.mg X.base x a st g Ng (k + 1) (X.env.qual ++ "<lambda>") as.length fg)
    (F : Fun X.K x x st g fd) (hg : Gl X x) (hm : X.mg x = some (.ref g)) (hb : L2.Binds X.K fd (a :: as) []) (Sg : FnScope Ng (a :: as) (defScope st)) (hN : Ng[0]? = some a) (hv : Vis (defScope st) a)
    (B : LamX.TabB X.base X.mg c P) (here : X.env.code = .ref c) (hr : Room (k + 2) X.A) (Ls : LamX.LamS X.env.scope scope) (noD : defaultsOf params X.env = ([], []))
    (binds : ∀ (q : Str) (cl : List (Str × Addr)) (pm cv ct : Value), bindArgs (PySem.W.kla_fn "<lambda>" q params body scope cl pm cv ct) ⟨[], []⟩ = pure [])
    (inner : ∀ (A : Around) (outer : List Env) (s : Shared) (H : Hp) (E : XK) (f c1 : Addr), A.guards = X.A.guards → Room k (A.deeper (LamX.lamEnv X scope s.heap.objs.size f c1)) → PE (LamX.lamCx X A outer s H E scope f c1) body (t E))
    (ha : PA X (e0 :: es0) ta) (na : starEach (e0 :: es0) X.env = (false, eval e0 X.env) :: starEach es0 X.env := by rfl) (nb : (backTo pos (starEach (e0 :: es0) X.env)).any (·.1) = false := by rfl)
    (hdb : (x == ("__debug__" : Str)) = false := by decide) (hd : (a == ("__debug__" : Str)) = false := by decide) (hcd : (a == ("__classdict__" : Str)) = false := by decide) :
    PE X (.Call (.Name x p) (.Lambda params body scope lpos :: e0 :: es0) [] pos) (tLamBS P (X.env.qual ++ "<lambda>") (TTofS X.K as.length fg) t ta) := by
  obtain ⟨oc, od, kV, doc, pm, an, cdv, ct, osl, efd, lk, hcd2⟩ := F.ex
  constructor
  intro pins s σ H Q I ⟨tab, more⟩
  apply wpAny_Call_Name_kw
  refine ld_glob I hg hm ?_ hdb
  refine PySem.W.callWith_K (h₀ := X.base) I.ok.mod.kin F.kp ?_ (by rfl) (by first | rfl | exact nb)
  show wpAny _ _ (spliced ((false, eval (.Lambda params body scope lpos) X.env) :: backTo pos (starEach (e0 :: es0) X.env))) _ _ s
  refine Calls.spliced_cons (lam_newF I B here tab noD (Ls.has I.ok) ?_)
  intro f c1 pm1 ct1 H1 s1 I1 grown obj new noFr noFs
  have I1p := pin_add I1 obj new noFs rfl
  refine thn (ha.run pos _ s1 σ H1 _ I1p (more c1 H1 grown)) fun us2 s2 ⟨zs, H2, I2, rz, hc2, tt⟩ => ?_
  obtain ⟨obj2, new2, _, _, _⟩ := I2.pin (f, PySem.W.kla_obj "<lambda>" (X.env.qual ++ "<lambda>") params body scope (cloFrom X.env.cells scope.names []) pm1 c1 ct1) (by simp)
  have I3 := pin_sub I2
  refine ⟨I3.kIn, ?_⟩
  subst efd
  have lz : us2.length = as.length := by
    rw [← rz.length]
    exact tt.1
  have ran : codeAny (model X.prog X.w) X.A (.call (.ref g) ⟨.ref f :: us2, []⟩) (CR CX0 X.stack X.prog X.w H2 s2 Q E0) s2 := by
    refine LamX.run_ofS (N := Ng) (ps := a :: as) (us := .ref f :: us2) (vs := .ref f :: zs) lk hcd2 Sg hr I3.env0 (by have z := hb s2 (.ref f :: us2) I3.kIn (by simp [lz]); rw [List.append_nil] at z; exact z) (.cons rfl rz) (by simp [tt.1]) fun hr1 => ?_
    obtain ⟨t1, h1, q1⟩ := L cdv X.A X.stack f c1 s2 H2 Q (fun E H' Q' => t E σ H' Q') zs hr1 (fun W pn xe p1 p2 tk => pe_actS (i := 0) I3 Ls obj2 new2 noFr (binds _ _ _ _ _) tk hr1 (fun A outer s H E gd hr2 => inner A outer s H E f c1 gd hr2) hN hv hd hcd) hc2 tt
    exact ⟨t1, h1.nox, q1⟩
  refine wpAny_call (codeAny_mono ran ?_)
  intro r s3 back
  cases r with
  | error e => exact (show False from back).elim
  | ok fl =>
    cases fl with
    | ret u => exact I3.after back
    | next => exact False.elim back
    | brk => exact False.elim back
    | cont => exact False.elim back
end Br

/-! BrLO: what is told may be a new thing of the store: promises, calls, lambdas. -/
namespace Br
open PySem PySem.Spec PyProof.Rows L2
abbrev FS := List Sv → Os → RS → Xa → Prop
/-- a promise: what is told is data, or a thing of the store, made here -/
def spS (K : PySem.W.Frag) (f : FS) : Sp := fun vs H Q E => ∃ (as : List Addr) (os : Os) (ds : List Sv) (QA : RS) (EA : Xa), Ro K as H os ∧ SvA K as H vs ds ∧ f ds os QA EA ∧
  (∀ v bs H' x os', Stp as H bs H' → Ro K bs H' os' → SvR K bs H' v x → QA x os' → Q v H') ∧
  (∀ C dd H' fs fds os', Go as H H' → Ro K as H' os' → H dd = none → H' dd = some (.xd fs) → DxF K as H' fs fds → EA C fds os' → E (.ref C) (some dd) H')
/-- what a return hands out: data, or the one list that is new -/
def RetS (n : Nat) (QA : RS) : Sv → Os → Prop := fun x os' => match x with
  | .d d => QA (.d d) (os'.take n)
  | .o k => k = n ∧ os'.length = n + 1 ∧ QA (.o k) os'
  | .fn _ _ => False
section
variable {K : PySem.W.Frag} {as bs : List Addr} {H H' : Hp} {os os' : Os}
theorem readV_of {N : List Str} {f : FS} {t : TS} {vs : List V} {Q : VK} {E : XK} (h : spS K f vs H Q E)
    (w : ∀ ds os QA EA, f ds os QA EA → W K ⟨fun cls d _ H => E cls d H, fun C fds S => EA C fds (S.os.take os.length)⟩ t { nx := fun S => RetS os.length QA (.d .non) S.os, rt := RetS os.length QA } ⟨startS N ds, os⟩) : t { nx := fun _ H' => Q .non H', rt := Q } (L2.start N vs) H := by
  obtain ⟨as, os, ds, QA, EA, R, r, hf, kq, ke⟩ := h
  have back : ∀ {v : V} {bs : List Addr} {H' : Hp} {d : D} {os' : Os}, Stp as H bs H' → Ro K bs H' os' → Dx K bs H' v d → QA (.d d) (os'.take os.length) → Q v H' := fun {v bs H' d os'} s R' r' q =>
    kq v as H' (.d d) _ ⟨⟨[], by simp, fun _ h => nomatch h⟩, s.go, s.th⟩ (R'.back s R.len) (Dx.way (Way.of_sub s.sub) r') q
  refine w ds os QA EA hf as H _ _ (re_start R r) (fun bs H' σ' S' C dd fs fds s R' n e r' z => ?_) (fun bs H' σ' S' s R' q => ?_) (fun bs H' v d os' s R' r' q => ?_) (fun _ _ _ _ _ _ q => q.elim) fun _ _ _ _ _ _ q => q.elim
  · exact ke C dd H' fs fds _ s.go (R'.o.back s R.len) n e (DxF.way (Way.of_sub s.sub) r') z
  · exact back s R'.o (v := .non) (d := .non) Dx.non q
  · cases d with
    | d d => exact back s R' r' q
    | o k => exact kq v bs H' (.o k) os' s R' r' q.2.2
    | fn f r => exact q.elim
end
/-- an expression that may make a thing of the store -/
def EWS (K : PySem.W.Frag) (X : Xc) (te : TE) (S : Sa) (Q : RS) : Prop :=
  ∀ as H σ (Q' : VK), Re K as H σ S → XH K X as H σ S.s → (∀ v bs H' x os', Stp as H bs H' → Ro K bs H' os' → SvR K bs H' v x → Q x os' → Q' v H') → te σ H Q'
section
variable {K : PySem.W.Frag} {X : Xc} {S : Sa} {Q : RS} {te : TE} {ta : TA} {f : FS}
theorem ews_of (h : EW K X te S Q) : EWS K X te S Q := fun as H σ Q' R x k =>
  h as H σ Q' R x fun v H' d os' g R' r q => k v as H' d os' (Stp.of_go g R') R' r q
/-- what is told is data, nothing is left behind -/
theorem ew_ofS (h : EWS K X te S fun x os' => ∃ d, x = .d d ∧ os'.length = S.os.length ∧ Q (.d d) os') : EW K X te S Q := fun as H σ Q' R x k =>
  h as H σ Q' R x fun v bs H' y os' s R' r ⟨d, ey, hl, q⟩ => by
    subst ey
    obtain ⟨nw, eb, _⟩ := s.pre
    have h1 : bs.length = as.length := by rw [R'.len, hl, ← R.o.len]
    have h2 : nw = [] := List.eq_nil_of_length_eq_zero (by
      rw [eb, List.length_append] at h1
      omega)
    subst h2
    rw [List.append_nil] at eb
    subst eb
    exact k v H' (.d d) os' s.go R' r q
theorem ews_call (h : AW K X ta S fun ds os => f ds os Q fun _ _ _ => False) : EWS K X (tCall (spS K f) [] E0 ta) S Q := fun as H σ Q' R x k =>
  h as H σ _ R x fun vs H1 ds os1 g1 R1 r1 q1 => ⟨as, os1, ds, _, _, R1, r1.nilr, q1, fun v bs H2 d os2 s2 R2 r2 q2 => k v bs H2 d os2 ((Stp.of_go g1 R1).trans s2) R2 r2 q2, fun _ _ _ _ _ _ _ _ _ _ _ z => z.elim⟩
theorem ews_callS {wx : WX} {xe : Addr → List (Str × D) → Sa → Prop} (h : AW K ⟨wx, xe⟩ ta S fun ds os => f ds os Q fun C fds os' => xe C fds ⟨S.s, os'⟩) : EWS K ⟨wx, xe⟩ (tCallS (spS K f) (WE wx) ta) S Q := fun as H σ Q' R x k =>
  h as H σ _ R x fun vs H1 ds os1 g1 R1 r1 q1 => ⟨as, os1, ds, _, _, R1, r1, q1, fun v bs H2 d os2 s2 R2 r2 q2 => k v bs H2 d os2 ((Stp.of_go g1 R1).trans s2) R2 r2 q2,
    fun C dd H2 fs fds os2 g2 R2 n2 e2 r2 z => x H2 C dd fs fds os2 (g1.trans g2) R2 (g1.free (R1.notin n2) n2) e2 r2 z⟩
/-- x = e -/
theorem w_asgS {i : Nat} {E : Ea} (h : EWS K X te S fun x os => E.nx ⟨S.s.set i (some x), os⟩) : W K X (tAsg te (gName i)) E S := fun as H σ D R x n r b c =>
  h as H σ _ R (x.h R) fun v bs H1 d os1 s1 R1 r1 q1 => by
    have R2 : Re K bs H1 σ ⟨S.s, os1⟩ := ⟨R1, R.slen, fun k d hd => by
      obtain ⟨u, e, z⟩ := R.slot k d hd
      exact ⟨u, e, z.stp s1⟩⟩
    exact n bs H1 _ _ s1 (R2.set i r1) q1
/-- what is returned -/
theorem w_retS {E : Ea} (h : EWS K X te S E.rt) : W K X (tRet te) E S := fun as H σ D R x n r b c =>
  h as H σ _ R (x.h R) fun v bs H1 d os1 s1 R1 r1 q1 => r bs H1 v d os1 s1 R1 r1 q1
theorem ews_lamBS {j n : Nat} {P : Addr} {q : Str} {fg : FGs} {t : XK → TE} {ta : TA} (fl : FLs) (hk : S.os[j]? = some (.tb P q))
    (hl : ∀ (os : Os) (QA : RS) (EA : Xa) (E : XK), fl os QA EA → EWS K ⟨fun cls d _ H => E cls d H, fun C fds S' => EA C fds S'.os⟩ (t E) ⟨S.s, os⟩ QA)
    (h : AW K X ta S fun es os => es.length = n ∧ fg fl es os Q) : EWS K X (tLamBS P q (TTofS K n fg) t ta) S Q := fun as H σ Q' R x k => by
  have hj : j < as.length := by
    rw [R.o.len]
    exact (List.getElem?_eq_some_iff.mp hk).1
  have atj : as[j]? = some as[j] := List.getElem?_eq_getElem hj
  obtain ⟨ps, e1, eP, e2, e3⟩ := R.o.own j as[j] _ atj hk
  rw [eP] at e1
  have inP : P ∈ as := by
    rw [← eP]
    exact List.getElem_mem hj
  refine ⟨⟨ps, e1, e2, fun pos cv hc => ?_⟩, fun c1 H1 N => ?_⟩
  · obtain ⟨c, a, _, b⟩ := e3 pos cv hc
    exact ⟨c, a, b⟩
  · have g1 : Go as H H1 := fun a o e n => N.ext a o (fun z => n (z ▸ inP)) e
    have R1 : Ro K as H1 S.os := ⟨R.o.nd, R.o.len, fun i a ob h1 h2 => by
      by_cases ea : a = P
      · have ei : i = j := by
          obtain ⟨l1, m1⟩ := List.getElem?_eq_some_iff.mp h1
          exact (List.getElem_inj R.o.nd).mp (m1.trans (ea.trans eP.symm))
        subst ei
        rw [hk] at h2
        cases h2
        obtain ⟨ps2, a1, a2, a3⟩ := N.tab
        refine ⟨ps2, by rw [ea]; exact a1, ea, a2, fun pos cv hc => ?_⟩
        obtain ⟨c, b1, b2⟩ := a3 pos cv hc
        refine ⟨c, b1, fun z => ?_, b2⟩
        -- a code object is nothing of the store
        obtain ⟨i2, hi2, ei2⟩ := List.mem_iff_getElem.mp z
        have hc1 : as[i2]? = some c := by rw [List.getElem?_eq_getElem hi2, ei2]
        have hc2 : i2 < S.os.length := R.o.len ▸ hi2
        have w := R.o.own i2 c S.os[i2] hc1 (List.getElem?_eq_getElem hc2)
        by_cases ec : c = P
        · rw [ec, a1] at b2
          exact LamX.codeO_ne _ (Option.some.inj b2).symm
        · have nn : ∃ o, H c = some o ∧ ∀ q, o ≠ LamX.CodeO c q := by
            unfold LamX.CodeO
            cases eo : S.os[i2] with
            | ml xs =>
              rw [eo] at w
              obtain ⟨_, u, _⟩ := w
              exact ⟨_, u, fun _ z => by cases z⟩
            | md xs =>
              rw [eo] at w
              obtain ⟨_, u, _⟩ := w
              exact ⟨_, u, fun _ z => by cases z⟩
            | mi C fs =>
              rw [eo] at w
              obtain ⟨_, _, u, _⟩ := w
              exact ⟨_, u, fun _ z => by cases z⟩
            | tb P q =>
              rw [eo] at w
              obtain ⟨_, u, _⟩ := w
              exact ⟨_, u, fun _ z => by cases z⟩
            | mp p xs =>
              rw [eo] at w
              obtain ⟨_, u, _⟩ := w
              exact ⟨_, u, fun _ z => by cases z⟩
            | lp p od vs xs =>
              rw [eo] at w
              obtain ⟨u, _⟩ := w
              exact ⟨_, u, fun _ z => by cases z⟩
            | mr C fs =>
              rw [eo] at w
              obtain ⟨_, u, _⟩ := w
              exact ⟨_, u, fun _ z => by cases z⟩
          obtain ⟨o, u, no⟩ := nn
          have b3 := N.ext c o ec u
          rw [b2] at b3
          exact no _ (Option.some.inj b3).symm
      · exact (R.o.own i a ob h1 h2).way (Way.of_go g1) fun u e => N.ext a u ea e⟩
    have ncd : c1 ∉ as := code_nin R1 N.co
    refine h as H1 σ _ (R.go g1 R1) (x.go g1 R1) fun zs H2 es os2 g2 R2 rz ⟨hle, hfg⟩ => ⟨g2 _ _ N.co ncd, by rw [rz.length]; exact hle, ?_⟩
    let r : Stb := ⟨fun as H => σ.length = S.s.length ∧ ∀ (i : Nat) (d : Sv), S.s[i]? = some (some d) → ∃ v, σ[i]? = some (some v) ∧ SvR K as H v d,
      fun ⟨l, h⟩ g => ⟨l, fun i d e => let ⟨v, a, b⟩ := h i d e; ⟨v, a, b.go g⟩⟩, fun ⟨l, h⟩ hp => ⟨l, fun i d e => let ⟨v, a, b⟩ := h i d e; ⟨v, a, b.wayA hp⟩⟩⟩
    refine ⟨as, os2, r, fl, es, _, R2, ⟨R.slen, fun i d e => let ⟨v, a, b⟩ := R.slot i d e; ⟨v, a, (b.go g1).go g2⟩⟩, rz, ?_, hfg, fun v bs H' y os' s R' r' z => k v bs H' y os' ((Stp.of_go (g1.trans g2) R2).trans s) R' r' z⟩
    intro as3 H3 os3 E3 Q3 QA EA hr R3 f kq ke
    exact hl os3 QA EA E3 f as3 H3 σ Q3 ⟨R3, hr.1, hr.2⟩ (fun H' C dd fs fds os' g R' n e rf z => ke C dd H' fs fds os' g R' n e rf z) kq
end
end Br

/-! BrRB: an instance whose fields are dicts that change; dicts read, walked under a lock, made by a comprehension; own methods; a def that makes several things of the store. -/
namespace Br
open PySem PySem.Spec PyProof.Rows L2
/-! ### what is read as a dict -/
def Ob.dct : Ob → Option (List (Key × D))
  | .md kds => some kds
  | .mp _ kds => some kds
  | .lp _ _ _ kds => some kds
  | _ => none
def dctS : Sv → Os → Option (List (Key × D))
  | .d (.dk kds), _ => some kds
  | .o k, os => os[k]?.bind Ob.dct
  | _, _ => none
def Ob.at? : Ob → Option Addr
  | .mp p _ => some p
  | .lp p _ _ _ => some p
  | _ => none
section
variable {K : PySem.W.Frag} {as bs : List Addr} {H H' : Hp} {os : Os} {v : V} {x : Sv}
theorem dct_obr {a : Addr} {ob : Ob} {kds : List (Key × D)} (h : ObR K as H a ob) (e : ob.dct = some kds) : ∃ vs, Rd H a (.dK vs) ∧ DxP K as H vs kds := by
  cases ob with
  | md k2 =>
    obtain ⟨vs, h1, h2⟩ := h
    cases e
    exact ⟨vs, .inl h1, h2⟩
  | mp p k2 =>
    obtain ⟨vs, h1, _, h2⟩ := h
    cases e
    exact ⟨vs, .inl h1, h2⟩
  | lp p od vs k2 =>
    obtain ⟨h1, _, h2⟩ := h
    cases e
    exact ⟨vs, .inr ⟨od, h1⟩, h2⟩
  | _ => cases e
theorem dct_rd {kds : List (Key × D)} (R : Ro K as H os) (r : SvR K as H v x) (e : dctS x os = some kds) : ∃ a vs, v = .ref a ∧ Rd H a (.dK vs) ∧ DxP K as H vs kds := by
  cases x with
  | d y =>
    cases y with
    | dk k2 =>
      cases e
      cases (show Dx K as H v (.dk kds) from r) with
      | @dk a vs _ n h1 h2 => exact ⟨a, vs, rfl, h1, h2⟩
    | _ => cases e
  | o k =>
    obtain ⟨a, ea, rfl⟩ := r
    obtain ⟨ob, eo, ek⟩ := Option.bind_eq_some_iff.mp (show os[k]?.bind Ob.dct = some kds from e)
    obtain ⟨vs, h1, h2⟩ := dct_obr (R.own k a ob ea eo) ek
    exact ⟨a, vs, rfl, h1, h2⟩
  | fn f r => cases e
theorem DxP.lookN {k : Key} : ∀ {vs : List (Key × V)} {ds : List (Key × D)}, DxP K as H vs ds → lookD ds k = none → valV vs k = none
  | _, _, .nil, _ => rfl
  | _, _, .cons (k := k2) (v := w) (d := d) (ds := ds) (vs := vs) h r, e => by
    by_cases hk : k2 = k
    · have e2 : some d = none := by rw [← e]; simp [lookD, List.find?_cons, hk]
      cases e2
    · have e2 : lookD ds k = none := by rw [← e]; simp [lookD, List.find?_cons, hk]
      rw [valV_neg (p := (k2, w)) hk]
      exact DxP.lookN r e2
theorem DxP.lookS {k : Key} {vs : List (Key × V)} {ds : List (Key × D)} (h : DxP K as H vs ds) : (valV vs k).isSome = (lookD ds k).isSome := by
  cases e : lookD ds k with
  | none =>
    rw [h.lookN e]
    rfl
  | some z =>
    obtain ⟨u, h1, _⟩ := h.look e
    rw [h1]
    rfl
end
section
variable {K : PySem.W.Frag} {X : Xc} {S : Sa} {Q : Sv → Os → Prop} {td ty tx tv : TE} {E : Ea}
/-- d[y] -/
theorem ew_dgetX (h : EW K X td S fun x os1 => EW K X ty ⟨S.s, os1⟩ fun y os2 => ∃ kds key z, dctS x os2 = some kds ∧ y = .d (keyD key) ∧ lookD kds key = some z ∧ Q (.d z) os2) : EW K X (tDGet td ty) S Q := fun as H σ Q' R x k =>
  h as H σ _ R x fun v H1 d os1 g1 R1 r1 q1 => q1 as H1 σ _ (R.go g1 R1) (x.go g1 R1) fun u H2 e os2 g2 R2 r2 ⟨kds, key, z, ed, ey, el, q2⟩ => by
    subst ey
    obtain ⟨a, vs, ev, h1, h2⟩ := dct_rd R2 (r1.go g2) ed
    subst ev
    obtain ⟨w, h3, h4⟩ := h2.look el
    have hk := key_v r2
    subst hk
    exact ⟨a, w, rfl, .inl ⟨vs, key, h1, rfl, h3.symm⟩, k w H2 (.d z) os2 (g1.trans g2) R2 h4 q2⟩
/-- d.get(y, x) -/
theorem ew_dget2 (h : EW K X td S fun x os1 => ∃ kd0, dctS x os1 = some kd0 ∧ EW K X ty ⟨S.s, os1⟩ fun y os2 => EW K X tx ⟨S.s, os2⟩ fun z os3 => ∃ kds key d, dctS x os3 = some kds ∧ y = .d (keyD key) ∧ z = .d d ∧ Q (.d ((lookD kds key).getD d)) os3) : EW K X (tDGet2 td ty tx) S Q := fun as H σ Q' R x k =>
  h as H σ _ R x fun v H1 d os1 g1 R1 r1 ⟨kd0, ed0, q1⟩ => by
    obtain ⟨a, vs0, ev, h0, _⟩ := dct_rd R1 r1 ed0
    subst ev
    refine ⟨a, rfl, .inl ⟨vs0, h0⟩, q1 as H1 σ _ (R.go g1 R1) (x.go g1 R1) fun u H2 e os2 g2 R2 r2 q2 => q2 as H2 σ _ (R.go (g1.trans g2) R2) (x.go (g1.trans g2) R2) fun w H3 f os3 g3 R3 r3 ⟨kds, key, z, ed, ey, ez, q3⟩ => ?_⟩
    subst ey
    subst ez
    obtain ⟨a2, vs, ev, h1, h2⟩ := dct_rd R3 ((r1.go g2).go g3) ed
    cases ev
    have hk := key_v r2
    subst hk
    refine ⟨valV vs key, .inl ⟨vs, key, h1, rfl, rfl⟩, ?_⟩
    cases el : lookD kds key with
    | none =>
      rw [h2.lookN el]
      rw [el] at q3
      exact k w H3 (.d z) os3 ((g1.trans g2).trans g3) R3 r3 q3
    | some y =>
      obtain ⟨w2, h3, h4⟩ := h2.look el
      rw [h3]
      rw [el] at q3
      exact k w2 H3 (.d y) os3 ((g1.trans g2).trans g3) R3 h4 q3
/-- y in d -/
theorem ew_din (h : EW K X ty S fun y os1 => EW K X td ⟨S.s, os1⟩ fun x os2 => ∃ kds key, dctS x os2 = some kds ∧ y = .d (keyD key) ∧ Q (.d (.bl (lookD kds key).isSome)) os2) : EW K X (tDIn ty td) S Q := fun as H σ Q' R x k =>
  h as H σ _ R x fun u H1 d os1 g1 R1 r1 q1 => q1 as H1 σ _ (R.go g1 R1) (x.go g1 R1) fun v H2 e os2 g2 R2 r2 ⟨kds, key, ed, ey, q2⟩ => by
    subst ey
    obtain ⟨a, vs, ev, h1, h2⟩ := dct_rd R2 r2 ed
    subst ev
    have hk := key_v (r1.go g2)
    subst hk
    refine ⟨a, valV vs key, rfl, .inl ⟨vs, key, h1, rfl, rfl⟩, ?_⟩
    rw [h2.lookS]
    exact k _ H2 (.d (.bl _)) os2 (g1.trans g2) R2 (Dx.bl _) q2
/-! ### fields that are things of the store -/
theorem lookup_refs {fs : List (Str × Addr)} {f : Str} {p : Addr} (h : fs.lookup f = some p) : (fs.map fun f => (f.1, V.ref f.2)).lookup f = some (V.ref p) := by
  induction fs with
  | nil => cases h
  | cons g r ih =>
    rw [List.map_cons, List.lookup_cons]
    rw [List.lookup_cons] at h
    show (match f == g.1 with | true => some (V.ref g.2) | false => _) = _
    cases e : f == g.1 with
    | true =>
      rw [e] at h
      cases h
      rfl
    | false =>
      rw [e] at h
      exact ih h
theorem lookup_refsN {fs : List (Str × Addr)} {f : Str} (h : fs.lookup f = none) : (fs.map fun f => (f.1, V.ref f.2)).lookup f = none := by
  induction fs with
  | nil => rfl
  | cons g r ih =>
    rw [List.map_cons, List.lookup_cons]
    rw [List.lookup_cons] at h
    show (match f == g.1 with | true => some (V.ref g.2) | false => _) = _
    cases e : f == g.1 with
    | true =>
      rw [e] at h
      cases h
    | false =>
      rw [e] at h
      exact ih h
theorem putF_new {f : Str} {v : V} : ∀ {fs : List (Str × V)}, fs.lookup f = none → putF f v fs = fs ++ [(f, v)]
  | [], _ => rfl
  | (g, x) :: r, h => by
    rw [List.lookup_cons] at h
    unfold putF
    split at h
    · cases h
    · rename_i e
      have hne : ¬ g = f := fun z => by simp [z] at e
      rw [if_neg hne, putF_new h]
      rfl
theorem ew_fldR {te : TE} {f : Str} (h : EW K X te S fun x os => ∃ j C fs p k ob, x = .o j ∧ os[j]? = some (.mr C fs) ∧ Cls K C ∧ NoAttr K C f ∧ fs.lookup f = some p ∧ os[k]? = some ob ∧ ob.at? = some p ∧ Q (.o k) os) : EW K X (tFld K te f) S Q := fun as H σ Q' R x k =>
  h as H σ _ R x fun v H1 d os1 g1 R1 r1 ⟨j, C, fs, p, i, ob, ed, eo, c, n, el, ei, ep, q⟩ => by
    subst ed
    obtain ⟨a, ea, rfl⟩ := r1
    obtain ⟨dx, h1, h2, h3⟩ := R1.own j a _ ea eo
    have hl : i < as.length := by rw [R1.len]; exact (List.getElem?_eq_some_iff.mp ei).1
    have ha : as[i]? = some as[i] := List.getElem?_eq_getElem hl
    have hp : as[i] = p := by
      have z := R1.own i as[i] ob ha ei
      cases ob with
      | mp p2 kds =>
        cases ep
        exact z.choose_spec.2.1
      | lp p2 od vs kds =>
        cases ep
        exact z.2.1
      | _ => cases ep
    rw [hp] at ha
    exact ⟨a, C, dx, _, .ref p, rfl, h1, c, n, lookup_refs el, k (.ref p) H1 (.o i) os1 g1 R1 ⟨p, ha, rfl⟩ q⟩
theorem ro_addP {as : List Addr} {H : Hp} {os : Os} {p : Addr} (R : Ro K as H os) (hp : H p = none) : Ro K (as ++ [p]) (upd H p (.dK [])) (os ++ [.mp p []]) := by
  have R0 := ro_addD R hp
  have hpos : (as ++ [p])[as.length]? = some p := by simp
  have z := ro_set (o := .dK []) (ob := .mp p []) R0 hpos ⟨[], upd_same, rfl, .nil⟩
  rw [upd_upd, R.len, List.set_append_right _ _ (Nat.le_refl _)] at z
  simpa using z
/-- self.f = {} -/
theorem w_fldNew {i j : Nat} {C : Addr} {fs : List (Str × Addr)} {f : Str} (hj : S.s[i]? = some (some (.o j))) (eo : S.os[j]? = some (.mr C fs)) (hc : Cls K C) (hn : NoAttr K C f) (hl : fs.length < 1000) (nf : fs.lookup f = none)
    (q : ∀ p, E.nx ⟨S.s, S.os.set j (.mr C (fs ++ [(f, p)])) ++ [.mp p []]⟩) : W K X (sFld K (tVar i) tDNewK f) E S := fun as H σ D R x n r b c => fun p hp => by
  obtain ⟨v, ev, a, ea, rfl⟩ := R.slot i _ hj
  have s2 : Stp as H (as ++ [p]) (upd H p (.dK [])) := stp_add hp
  have R2 := ro_addP R.o hp
  have hja : j < as.length := (List.getElem?_eq_some_iff.mp ea).1
  have ea2 : (as ++ [p])[j]? = some a := by rw [List.getElem?_append_left hja]; exact ea
  have eo2 : (S.os ++ [Ob.mp p []])[j]? = some (.mr C fs) := by rw [List.getElem?_append_left (by rw [← R.o.len]; exact hja)]; exact eo
  obtain ⟨dx, h1, h2, h3⟩ := R2.own j a _ ea2 eo2
  have hm : a ∈ as ++ [p] := List.mem_of_getElem? ea2
  have hd : dx ≠ a := fun z => h2 (z ▸ hm)
  have efs : putF f (.ref p) (fs.map fun f => (f.1, V.ref f.2)) = (fs ++ [(f, p)]).map fun f => (f.1, V.ref f.2) := by
    rw [putF_new (lookup_refsN nf), List.map_append]
    rfl
  have R3 : Ro K (as ++ [p]) (upd (upd H p (.dK [])) a (.ins C dx (putF f (.ref p) (fs.map fun f => (f.1, V.ref f.2))))) ((S.os ++ [Ob.mp p []]).set j (.mr C (fs ++ [(f, p)]))) :=
    ro_set R2 ea2 ⟨dx, by rw [upd_same, efs], h2, by rw [upd_ne hd]; exact h3⟩
  rw [List.set_append_left _ _ (by rw [← R.o.len]; exact hja)] at R3
  have g3 : Go (as ++ [p]) (upd H p (.dK [])) (upd (upd H p (.dK [])) a (.ins C dx (putF f (.ref p) (fs.map fun f => (f.1, V.ref f.2))))) := Go.at hm
  have sN := s2.trans (Stp.of_go g3 R3)
  refine ⟨.ref a, ev, a, C, dx, _, rfl, h1, hc, hn, by rw [List.length_map]; exact hl, n _ _ σ ⟨S.s, S.os.set j (.mr C (fs ++ [(f, p)])) ++ [.mp p []]⟩ sN ⟨R3, R.slen, fun k d hd => ?_⟩ (q p)⟩
  obtain ⟨u, e, z⟩ := R.slot k d hd
  exact ⟨u, e, z.stp sN⟩
/-- d[y] = v, d at a known place -/
theorem w_dputP (h : EW K X tv S fun v os1 => EW K X td ⟨S.s, os1⟩ fun x os2 => EW K X ty ⟨S.s, os2⟩ fun y os3 => ∃ k p kvs key z, v = .d z ∧ x = .o k ∧ os3[k]? = some (.mp p kvs) ∧ y = .d (keyD key) ∧ kvs.length < sizeLine ∧
    E.nx ⟨S.s, os3.set k (.mp p (putD kvs key z))⟩) : W K X (sDPut td ty tv) E S := fun as H σ D R x n r b c =>
  h as H σ _ R (x.h R) fun v H1 d os1 g1 R1 r1 q1 => q1 as H1 σ _ (R.go g1 R1) ((x.h R).go g1 R1) fun u H2 e os2 g2 R2 r2 q2 => q2 as H2 σ _ (R.go (g1.trans g2) R2) ((x.h R).go (g1.trans g2) R2) fun y H3 f os3 g3 R3 r3 ⟨j, p, kvs, key, z, ev, ex, eo, ey, hl, q3⟩ => by
    subst ev
    subst ex
    subst ey
    obtain ⟨a, ea, rfl⟩ := r2
    obtain ⟨vs, h1, hp, h2⟩ := R3.own j a _ ea eo
    have hk := key_v r3
    subst hk
    have hm : a ∈ as := List.mem_of_getElem? ea
    have rz : Dx K as H3 v z := (r1.go (g2.trans g3) : SvR K as H3 v (.d z))
    have R4 : Ro K as (upd H3 a (.dK (putK vs key v))) (os3.set j (.mp p (putD kvs key z))) := ro_set R3 ea ⟨_, upd_same, hp, DxP.way (Way.of_go (Go.at hm)) (h2.put rz)⟩
    have g4 : Go as H (upd H3 a (.dK (putK vs key v))) := ((g1.trans g2).trans g3).trans (Go.at hm)
    exact ⟨a, _, rfl, DPut.k h1 (by rw [h2.length]; exact hl), n as _ σ _ (Stp.of_go g4 R4) (R.go g4 R4) q3⟩
/-- d.update(e), d at a known place -/
theorem ew_updP {to te : TE} (h : EW K X to S fun x os1 => ∃ j p1 k1, x = .o j ∧ os1[j]? = some (.mp p1 k1) ∧ EW K X te ⟨S.s, os1⟩ fun y os2 => ∃ p k2 more, y = .d (.dk more) ∧ os2[j]? = some (.mp p k2) ∧ k2.length + more.length ≤ sizeLine ∧ Q (.d .non) (os2.set j (.mp p (mergeD k2 more)))) :
    EW K X (tBM K "dict" rUpd to (tCons te tNil)) S Q := fun as H σ Q' R x k =>
  h as H σ _ R x fun v H1 d os1 g1 R1 r1 ⟨j, p1, k1, ed, eo1, h2⟩ => by
    subst ed
    obtain ⟨a, ea, rfl⟩ := r1
    refine ⟨?_, h2 as H1 σ _ (R.go g1 R1) (x.go g1 R1) fun u H2 e os2 g2 R2 r2 ⟨p, k2, more, ey, eo, hl, q⟩ => ?_⟩
    · obtain ⟨ws, q1, _⟩ := R1.own j a _ ea eo1
      exact .inr (.inr (.inl ⟨rfl, .inl ⟨ws, q1⟩⟩))
    · subst ey
      obtain ⟨ws, h1, hp, h3⟩ := R2.own j a _ ea eo
      have hm : a ∈ as := List.mem_of_getElem? ea
      cases (show Dx K as H2 u (.dk more) from r2) with
      | @dk b kvs _ na hrd hpp =>
        have g3 : Go as H2 (upd H2 a (.dK (mergeK ws kvs))) := Go.at hm
        have R3 : Ro K as (upd H2 a (.dK (mergeK ws kvs))) (os2.set j (.mp p (mergeD k2 more))) := ro_set R2 ea ⟨_, upd_same, hp, DxP.way (Way.of_go g3) (merge_dx hpp h3)⟩
        exact ⟨a, b, ws, kvs, rfl, rfl, fun z => na (z ▸ hm), h1, hrd, by rw [h3.length, hpp.length]; exact hl, k .non _ (.d .non) _ ((g1.trans g2).trans g3) R3 Dx.non q⟩
/-! ### a lock -/
theorem ew_lock {t : TE} {j : Nat} {p : Addr} {kds : List (Key × D)} (hj : S.os[j]? = some (.mp p kds))
    (h : ∀ od vs, EW K X t ⟨S.s, S.os.set j (.lp p od vs kds)⟩ fun x os => os[j]? = some (.lp p od vs kds) ∧ Q x (os.set j (.mp p kds))) : EW K X (tLockE t) S Q := fun as H σ Q' R x k => by
  have hl : j < as.length := by rw [R.o.len]; exact (List.getElem?_eq_some_iff.mp hj).1
  have ea : as[j]? = some as[j] := List.getElem?_eq_getElem hl
  obtain ⟨vs, h1, hp, h2⟩ := R.o.own j as[j] _ ea hj
  rw [hp] at ea h1
  have hm : p ∈ as := List.mem_of_getElem? ea
  refine ⟨p, .dK vs, h1, trivial, fun od => ?_⟩
  have g1 : Go as H (upd H p (.frz od (.dK vs))) := Go.at hm
  have R1 : Ro K as (upd H p (.frz od (.dK vs))) (S.os.set j (.lp p od vs kds)) := ro_set R.o ea ⟨upd_same, rfl, DxP.way (Way.of_go g1) h2⟩
  refine h od vs as _ σ _ (R.go g1 R1) (x.go g1 R1) fun v H2 d os2 g2 R2 r2 ⟨eo, q⟩ => ?_
  obtain ⟨h3, _, h4⟩ := R2.own j p _ ea eo
  have g3 : Go as H2 (upd H2 p (.dK vs)) := Go.at hm
  have R3 : Ro K as (upd H2 p (.dK vs)) (os2.set j (.mp p kds)) := ro_set R2 ea ⟨vs, upd_same, rfl, DxP.way (Way.of_go g3) h4⟩
  exact ⟨h3, k v _ d _ ((g1.trans g2).trans g3) R3 (r2.go g3) q⟩
theorem w_lock {t : TS} {j : Nat} {p : Addr} {kds : List (Key × D)} (hj : S.os[j]? = some (.mp p kds))
    (h : ∀ od vs, W K X t { nx := fun S' => S'.os[j]? = some (.lp p od vs kds) ∧ E.nx ⟨S'.s, S'.os.set j (.mp p kds)⟩, rt := fun _ _ => False } ⟨S.s, S.os.set j (.lp p od vs kds)⟩) : W K X (tLock t) E S := fun as H σ D R x n r b c => by
  have hl : j < as.length := by rw [R.o.len]; exact (List.getElem?_eq_some_iff.mp hj).1
  have ea : as[j]? = some as[j] := List.getElem?_eq_getElem hl
  obtain ⟨vs, h1, hp, h2⟩ := R.o.own j as[j] _ ea hj
  rw [hp] at ea h1
  have hm : p ∈ as := List.mem_of_getElem? ea
  refine ⟨p, .dK vs, h1, trivial, fun od => ?_⟩
  have g1 : Go as H (upd H p (.frz od (.dK vs))) := Go.at hm
  have R1 : Ro K as (upd H p (.frz od (.dK vs))) (S.os.set j (.lp p od vs kds)) := ro_set R.o ea ⟨upd_same, rfl, DxP.way (Way.of_go g1) h2⟩
  refine h od vs as _ σ _ (R.go g1 R1) (x.stp (Stp.of_go g1 R1)) (fun bs H2 σ2 S2 s2 R2 ⟨eo, q⟩ => ?_) (fun _ _ _ _ _ _ _ _ z => z.elim) (fun _ _ _ _ _ _ z => z.elim) fun _ _ _ _ _ _ z => z.elim
  obtain ⟨nw, eb, _⟩ := s2.pre
  have eb2 : bs[j]? = some p := by rw [eb, List.getElem?_append_left hl]; exact ea
  obtain ⟨h3, _, h4⟩ := R2.o.own j p _ eb2 eo
  have hm2 : p ∈ bs := List.mem_of_getElem? eb2
  have g3 : Go bs H2 (upd H2 p (.dK vs)) := Go.at hm2
  have R3 : Ro K bs (upd H2 p (.dK vs)) (S2.os.set j (.mp p kds)) := ro_set R2.o eb2 ⟨vs, upd_same, rfl, DxP.way (Way.of_go g3) h4⟩
  exact ⟨h3, n bs _ σ2 _ (((Stp.of_go g1 R1).trans s2).trans (Stp.of_go g3 R3)) (R2.go g3 R3) q⟩
end
section
variable {K : PySem.W.Frag} {X : Xc} {S : Sa} {te : TE} {E : Ea}
theorem w_lockAsg {i : Nat} (h : EW K X (tLockE te) S fun d os => E.nx ⟨S.s.set i (some d), os⟩) : W K X (tLock (tAsg te (gName i))) E S := fun as H σ D R x n r b c =>
  h as H σ _ R (x.h R) fun v H1 d os1 g1 R1 r1 q1 => n as H1 _ _ (Stp.of_go g1 R1) ((R.go g1 R1).set i r1) q1
end
/-! ### a comprehension over what stays as it is -/
def ItS (K : PySem.W.Frag) (J : It) (as : List Addr) (H : Hp) (ds : List D) (C : Os → Prop) : Prop :=
  ∀ bs H2 os, Stp as H bs H2 → Ro K bs H2 os → C os → ∀ i, (∀ d, ds[i]? = some d → J.go i H2 ∧ ∀ x H3, J.yld i H2 x H3 → Go bs H2 H3 ∧ Ro K bs H3 os ∧ Dx K bs H3 x d) ∧ (ds.length ≤ i → J.stop i H2)
def IWs (K : PySem.W.Frag) (X : Xc) (wi : TI) (S : Sa) (Q : List D → (Os → Prop) → Os → Prop) : Prop :=
  ∀ as H σ (R' : It → Hp → Prop), Re K as H σ S → XH K X as H σ S.s → (∀ J H' ds C os', Go as H H' → Ro K as H' os' → ItS K J as H' ds C → Q ds C os' → R' J H') → wi σ H R'
section
variable {K : PySem.W.Frag} {X : Xc} {S : Sa} {td : TE} {Q : List D → (Os → Prop) → Os → Prop}
theorem dxp_get {as : List Addr} {H : Hp} {i : Nat} {kv : Key × D} : ∀ {vs : List (Key × V)} {ds : List (Key × D)}, DxP K as H vs ds → ds[i]? = some kv → ∃ v, vs[i]? = some (kv.1, v) ∧ Dx K as H v kv.2 := fun {vs ds} h => by
  induction i generalizing vs ds with
  | zero =>
    intro e
    cases h with
    | nil => simp at e
    | cons h r =>
      simp at e
      subst e
      exact ⟨_, rfl, h⟩
  | succ i ih =>
    intro e
    cases h with
    | nil => simp at e
    | cons h r =>
      obtain ⟨v, h1, h2⟩ := ih r (by simpa using e)
      exact ⟨v, by simpa using h1, h2⟩
theorem dx_key {as : List Addr} {H : Hp} (k : Key) : Dx K as H (kV k) (keyD k) := by
  cases k with
  | inl i => exact .int i
  | inr x => exact .str x
/-- for k in d, d locked -/
theorem iws_keys (h : EW K X td S fun x os => ∃ j p od vs kds, x = .o j ∧ os[j]? = some (.lp p od vs kds) ∧ Q (kds.map fun kv => keyD kv.1) (fun os => os[j]? = some (.lp p od vs kds)) os) : IWs K X (iKeys td) S Q := fun as H σ R' R x k =>
  h as H σ _ R x fun v H1 d os1 g1 R1 r1 ⟨j, p, od, vs, kds, ed, eo, q⟩ => by
    subst ed
    obtain ⟨a, ea, rfl⟩ := r1
    obtain ⟨h1, hp, h2⟩ := R1.own j a _ ea eo
    subst hp
    refine ⟨a, od, rfl, .inl ⟨vs, h1, k (Itk a od vs) H1 _ _ os1 g1 R1 (fun bs H2 os s R2 eC i => ?_) q⟩⟩
    obtain ⟨nw, eb, _⟩ := s.pre
    have eb2 : bs[j]? = some a := by rw [eb, List.getElem?_append_left (List.getElem?_eq_some_iff.mp ea).1]; exact ea
    obtain ⟨h3, _, h4⟩ := R2.own j a _ eb2 eC
    refine ⟨fun d hd => ?_, fun hn => ⟨h3, by rw [h4.length]; rw [List.length_map] at hn; exact hn⟩⟩
    rw [List.getElem?_map] at hd
    obtain ⟨kv, hk, rfl⟩ := Option.map_eq_some_iff.mp hd
    obtain ⟨w, e1, e2⟩ := dxp_get h4 hk
    refine ⟨⟨h3, (List.getElem?_eq_some_iff.mp e1).1⟩, fun y H3 hy => ?_⟩
    obtain ⟨rfl, k2, v2, e3, rfl⟩ := hy
    rw [e1] at e3
    cases e3
    exact ⟨Go.refl _ _, R2, dx_key _⟩
/-- for k, v in d.items(), d locked -/
theorem iws_items (h : EW K X td S fun x os => ∃ j p od vs kds, x = .o j ∧ os[j]? = some (.lp p od vs kds) ∧ Q (kds.map fun kv => .tup [keyD kv.1, kv.2]) (fun os => os[j]? = some (.lp p od vs kds)) os) : IWs K X (iItems td) S Q := fun as H σ R' R x k =>
  h as H σ _ R x fun v H1 d os1 g1 R1 r1 ⟨j, p, od, vs, kds, ed, eo, q⟩ => by
    subst ed
    obtain ⟨a, ea, rfl⟩ := r1
    obtain ⟨h1, hp, h2⟩ := R1.own j a _ ea eo
    subst hp
    refine ⟨a, od, vs, rfl, h1, k (Iti a od vs) H1 _ _ os1 g1 R1 (fun bs H2 os s R2 eC i => ?_) q⟩
    obtain ⟨nw, eb, _⟩ := s.pre
    have eb2 : bs[j]? = some a := by rw [eb, List.getElem?_append_left (List.getElem?_eq_some_iff.mp ea).1]; exact ea
    obtain ⟨h3, _, h4⟩ := R2.own j a _ eb2 eC
    refine ⟨fun d hd => ?_, fun hn => ⟨h3, by rw [h4.length]; rw [List.length_map] at hn; exact hn⟩⟩
    rw [List.getElem?_map] at hd
    obtain ⟨kv, hk, rfl⟩ := Option.map_eq_some_iff.mp hd
    obtain ⟨w, e1, e2⟩ := dxp_get h4 hk
    refine ⟨⟨h3, (List.getElem?_eq_some_iff.mp e1).1⟩, fun y H3 hy => ?_⟩
    obtain ⟨T, k2, v2, e3, rfl, hT, rfl⟩ := hy
    rw [e1] at e3
    cases e3
    exact ⟨Go.new hT, R2.new hT, dx_newT R2 hT (.cons (dx_key _) (.cons e2 .nil))⟩
end
section
variable {K : PySem.W.Frag} {X : Xc} {S : Sa} {Q : Sv → Os → Prop} {wi : TI} {g : TG} {tt : TT} {te tk tv : TE}
theorem ew_lcS {vs : List Nat} (hg : Wg g vs) (hm : Mg g) (h : IWs K X wi S fun ds C os => ∃ Pv : Nat → List D → Os → Prop, Pv 0 [] os ∧ (∀ i acc os', Pv i acc os' → C (os' ++ [.ml acc])) ∧
      (∀ i d acc os', ds[i]? = some d → Pv i acc os' → GW K g (.d d) ⟨wipeS S.s vs, os' ++ [.ml acc]⟩ fun S2 => TW K X0 tt S2 fun b os2 =>
        if b = true then EW K X0 te ⟨S2.s, os2⟩ fun y os3 => ∃ z os4, y = .d z ∧ os3 = os4 ++ [.ml acc] ∧ acc.length < sizeLine ∧ Pv (i + 1) (acc ++ [z]) os4 else ∃ os4, os2 = os4 ++ [.ml acc] ∧ Pv (i + 1) acc os4) ∧
      ∀ acc os', Pv ds.length acc os' → Q (.d (.lst acc)) os') : EW K X (tLc wi g tt te vs) S Q := fun as H σ Q' R x k =>
  h as H σ _ R x fun J H1 ds C os1 g1 R1 it ⟨Pv, p0, stay, turn, fin⟩ Dl hD => by
    have R1' := R.go g1 R1
    have sD : Stp as H1 (as ++ [Dl]) (upd H1 Dl (.lst [])) := stp_add hD
    refine ⟨fun i m H2 => m = ds.length - i ∧ i ≤ ds.length ∧ ∃ acc os2, Stp as H1 (as ++ [Dl]) H2 ∧ Re K (as ++ [Dl]) H2 σ ⟨S.s, os2 ++ [.ml acc]⟩ ∧ Pv i acc os2, ⟨_, rfl, Nat.zero_le _, [], os1, sD, ?_, p0⟩, ?_⟩
    · refine ⟨ro_add R1 hD, R1'.slen, fun i d hd => ?_⟩
      obtain ⟨u, e, r⟩ := R1'.slot i d hd
      exact ⟨u, e, (r.wayA hD).go (Go.at (by simp))⟩
    rintro i m H2 ⟨rfl, hi, acc, os2, s2, R2, p⟩
    by_cases hlt : i < ds.length
    · have hd : ds[i]? = some ds[i] := List.getElem?_eq_getElem hlt
      obtain ⟨hgo, hy⟩ := (it _ H2 _ s2 R2.o (stay i acc os2 p) i).1 _ hd
      refine .inr ⟨hgo, fun H' => ∃ acc os3, Stp as H1 (as ++ [Dl]) H' ∧ Re K (as ++ [Dl]) H' σ ⟨S.s, os3 ++ [.ml acc]⟩ ∧ Pv (i + 1) acc os3, fun H' z => ⟨ds.length - (i + 1), by omega, rfl, hlt, z⟩, fun y H3 hyl => ?_⟩
      obtain ⟨g3, R3, r3⟩ := hy y H3 hyl
      have R3' := R2.go g3 R3
      have s3 : Stp as H1 (as ++ [Dl]) H3 := s2.trans (Stp.of_go g3 R3)
      have base := turn i _ acc os2 hd p (as ++ [Dl]) H3 (wipe σ vs) y (fun σ2 H4 => H4 = H3 ∧ ∃ S2, Re K (as ++ [Dl]) H3 σ2 S2 ∧ TW K X0 tt S2 fun b os2 =>
        if b = true then EW K X0 te ⟨S2.s, os2⟩ fun y os3 => ∃ z os4, y = .d z ∧ os3 = os4 ++ [.ml acc] ∧ acc.length < sizeLine ∧ Pv (i + 1) (acc ++ [z]) os4 else ∃ os4, os2 = os4 ++ [.ml acc] ∧ Pv (i + 1) acc os4) (re_wipe R3') r3 fun σ2 S2 R4 q => ⟨rfl, S2, R4, q⟩
      refine hm _ _ _ _ _ ?_ (hg _ _ _ _ base)
      rintro σ2 H4 ⟨⟨rfl, S2, R4, tw⟩, hl, ho⟩
      refine ⟨(wipe_ext hl fun i hi => ho i hi).trans (wipe_ext (wipe_length σ vs) fun i hi => wipe_out1 hi), ?_⟩
      refine tw _ H4 σ2 _ R4 XH.x0 fun b H5 os5 g5 R5 q5 => ?_
      have s5 := s3.trans (Stp.of_go g5 R5)
      cases b with
      | false =>
        obtain ⟨os4, rfl, q6⟩ := (show ∃ os4, os5 = os4 ++ [.ml acc] ∧ Pv (i + 1) acc os4 from q5)
        show ∃ acc os3, _
        exact ⟨acc, os4, s5, R3'.go g5 R5, q6⟩
      | true =>
        show te σ2 H5 _
        refine (show EW K X0 te ⟨S2.s, os5⟩ _ from q5) _ H5 σ2 _ (R4.go g5 R5) XH.x0 fun u H6 e os6 g6 R6 r6 ⟨z, os7, ez, eo, hz, q7⟩ => ?_
        subst ez
        subst eo
        obtain ⟨ws, ew, rw'⟩ := (ro_drop R6).2.1
        refine ⟨ws, ew, by rw [rw'.length]; exact hz, acc ++ [z], os7, ?_, ?_, q7⟩
        · exact (s5.trans (Stp.of_go g6 R6)).trans (Stp.of_go (Go.at (by simp)) (ro_grow R6 ew r6))
        · exact (R3'.go (g5.trans g6) R6).go (Go.at (by simp)) (ro_grow R6 ew r6)
    · have e : i = ds.length := by omega
      subst e
      obtain ⟨Rd, ob, nin⟩ := ro_drop R2.o
      obtain ⟨ws, ew, rw'⟩ := ob
      exact .inl ⟨(it _ H2 _ s2 R2.o (stay _ acc os2 p) _).2 (Nat.le_refl _), k (.ref Dl) H2 (.d (.lst acc)) os2 (g1.trans s2.go) Rd (Dx.lst (.inl ⟨nin, .inl ew⟩) rw') (fin acc os2 p)⟩
/-! ### a dict by a comprehension -/
theorem ro_growD {as : List Addr} {H : Hp} {os : Os} {p : Addr} {vs : List (Key × V)} {kds : List (Key × D)} {key : Key} {v : V} {d : D} (R : Ro K (as ++ [p]) H (os ++ [.md kds])) (e : H p = some (.dK vs)) (r : Dx K (as ++ [p]) H v d) :
    Ro K (as ++ [p]) (upd H p (.dK (putK vs key v))) (os ++ [.md (putD kds key d)]) := by
  have hl : as.length = os.length := by
    have := R.len
    simpa using this
  have hpos : (as ++ [p])[as.length]? = some p := by simp
  obtain ⟨ws, e2, h2⟩ := R.own as.length p (.md kds) hpos (by rw [hl]; simp)
  rw [e] at e2
  cases e2
  have g : Go (as ++ [p]) H (upd H p (.dK (putK vs key v))) := Go.at (by simp)
  have z := ro_set (ob := .md (putD kds key d)) R hpos ⟨putK vs key v, upd_same, DxP.way (Way.of_go g) (h2.put r)⟩
  rw [hl, List.set_append_right _ _ (Nat.le_refl _)] at z
  simpa using z
theorem ew_dc {vs : List Nat} (hg : Wg g vs) (hm : Mg g) (h : IW K X wi S fun ds os => ∃ Pv : Nat → List (Key × D) → Os → Prop, Pv 0 [] os ∧
      (∀ i d acc os', ds[i]? = some d → Pv i acc os' → GW K g (.d d) ⟨wipeS S.s vs, os' ++ [.md acc]⟩ fun S2 => TW K X0 tt S2 fun b os2 =>
        if b = true then EW K X0 tk ⟨S2.s, os2⟩ fun y os3 => EW K X0 tv ⟨S2.s, os3⟩ fun z os4 => ∃ key zd os5, y = .d (keyD key) ∧ z = .d zd ∧ os4 = os5 ++ [.md acc] ∧ acc.length < sizeLine ∧ Pv (i + 1) (putD acc key zd) os5 else ∃ os4, os2 = os4 ++ [.md acc] ∧ Pv (i + 1) acc os4) ∧
      ∀ acc os', Pv ds.length acc os' → Q (.d (.dk acc)) os') : EW K X (tDc wi g tt tk tv vs) S Q := fun as H σ Q' R x k =>
  h as H σ _ R x fun J H1 ds os1 g1 R1 it ⟨Pv, p0, turn, fin⟩ Dl hD => by
    have R1' := R.go g1 R1
    have sD : Stp as H1 (as ++ [Dl]) (upd H1 Dl (.dK [])) := stp_add hD
    refine ⟨fun i m H2 => m = ds.length - i ∧ i ≤ ds.length ∧ ∃ acc os2, Stp as H1 (as ++ [Dl]) H2 ∧ Re K (as ++ [Dl]) H2 σ ⟨S.s, os2 ++ [.md acc]⟩ ∧ Pv i acc os2, ⟨_, rfl, Nat.zero_le _, [], os1, sD, ?_, p0⟩, ?_⟩
    · refine ⟨ro_addD R1 hD, R1'.slen, fun i d hd => ?_⟩
      obtain ⟨u, e, r⟩ := R1'.slot i d hd
      exact ⟨u, e, (r.wayA hD).go (Go.at (by simp))⟩
    rintro i m H2 ⟨rfl, hi, acc, os2, s2, R2, p⟩
    by_cases hlt : i < ds.length
    · have hd : ds[i]? = some ds[i] := List.getElem?_eq_getElem hlt
      obtain ⟨hgo, hy⟩ := (it _ H2 _ s2 R2.o i).1 _ hd
      refine .inr ⟨hgo, fun H' => ∃ acc os3, Stp as H1 (as ++ [Dl]) H' ∧ Re K (as ++ [Dl]) H' σ ⟨S.s, os3 ++ [.md acc]⟩ ∧ Pv (i + 1) acc os3, fun H' z => ⟨ds.length - (i + 1), by omega, rfl, hlt, z⟩, fun y H3 hyl => ?_⟩
      obtain ⟨g3, R3, r3⟩ := hy y H3 hyl
      have R3' := R2.go g3 R3
      have s3 : Stp as H1 (as ++ [Dl]) H3 := s2.trans (Stp.of_go g3 R3)
      have base := turn i _ acc os2 hd p (as ++ [Dl]) H3 (wipe σ vs) y (fun σ2 H4 => H4 = H3 ∧ ∃ S2, Re K (as ++ [Dl]) H3 σ2 S2 ∧ TW K X0 tt S2 fun b os2 =>
        if b = true then EW K X0 tk ⟨S2.s, os2⟩ fun y os3 => EW K X0 tv ⟨S2.s, os3⟩ fun z os4 => ∃ key zd os5, y = .d (keyD key) ∧ z = .d zd ∧ os4 = os5 ++ [.md acc] ∧ acc.length < sizeLine ∧ Pv (i + 1) (putD acc key zd) os5 else ∃ os4, os2 = os4 ++ [.md acc] ∧ Pv (i + 1) acc os4) (re_wipe R3') r3 fun σ2 S2 R4 q => ⟨rfl, S2, R4, q⟩
      refine hm _ _ _ _ _ ?_ (hg _ _ _ _ base)
      rintro σ2 H4 ⟨⟨rfl, S2, R4, tw⟩, hl, ho⟩
      refine ⟨(wipe_ext hl fun i hi => ho i hi).trans (wipe_ext (wipe_length σ vs) fun i hi => wipe_out1 hi), ?_⟩
      refine tw _ H4 σ2 _ R4 XH.x0 fun b H5 os5 g5 R5 q5 => ?_
      have s5 := s3.trans (Stp.of_go g5 R5)
      cases b with
      | false =>
        obtain ⟨os4, rfl, q6⟩ := (show ∃ os4, os5 = os4 ++ [.md acc] ∧ Pv (i + 1) acc os4 from q5)
        show ∃ acc os3, _
        exact ⟨acc, os4, s5, R3'.go g5 R5, q6⟩
      | true =>
        show tk σ2 H5 _
        refine (show EW K X0 tk ⟨S2.s, os5⟩ _ from q5) _ H5 σ2 _ (R4.go g5 R5) XH.x0 fun u H6 e os6 g6 R6 r6 q6 => ?_
        refine q6 _ H6 σ2 _ (R4.go (g5.trans g6) R6) XH.x0 fun w H7 f os7 g7 R7 r7 ⟨key, zd, os8, ey, ez, eo, hz, q7⟩ => ?_
        subst ey
        subst ez
        subst eo
        have hk := key_v r6
        subst hk
        obtain ⟨ws, ew, rw'⟩ := (ro_drop R7).2.1
        refine ⟨ws, key, rfl, ew, by rw [rw'.length]; exact hz, putD acc key zd, os8, ?_, ?_, q7⟩
        · exact ((s5.trans (Stp.of_go g6 R6)).trans (Stp.of_go g7 R7)).trans (Stp.of_go (Go.at (by simp)) (ro_growD R7 ew r7))
        · exact (R3'.go ((g5.trans g6).trans g7) R7).go (Go.at (by simp)) (ro_growD R7 ew r7)
    · have e : i = ds.length := by omega
      subst e
      obtain ⟨Rd, ob, nin⟩ := ro_drop R2.o
      obtain ⟨ws, ew, rw'⟩ := ob
      exact .inl ⟨(it _ H2 _ s2 R2.o _).2 (Nat.le_refl _), k (.ref Dl) H2 (.d (.dk acc)) os2 (g1.trans s2.go) Rd (Dx.dk nin (.inl ew) rw') (fin acc os2 p)⟩
end
/-! ### a def that makes things of the store -/
abbrev FGr := List Sv → Os → (Sv → Os → Prop) → Prop
def spG (K : PySem.W.Frag) (f : FGr) : Sp := fun vs H Q _ => ∃ (as : List Addr) (os : Os) (ds : List Sv) (QG : Sv → Os → Prop), Ro K as H os ∧ SvA K as H vs ds ∧ f ds os QG ∧
  ∀ bs v H' d os', Stp as H bs H' → Ro K bs H' os' → SvR K bs H' v d → QG d os' → Q v H'
theorem readG_of {K : PySem.W.Frag} {N : List Str} {f : FGr} {t : TS} {vs : List V} {H : Hp} {Q : VK} {E : XK} (h : spG K f vs H Q E)
    (w : ∀ ds os QG, f ds os QG → W K X0 t { nx := fun S => QG (.d .non) S.os, rt := QG } ⟨startS N ds, os⟩) : t { nx := fun _ H' => Q .non H', rt := Q } (L2.start N vs) H := by
  obtain ⟨as, os, ds, QG, R, r, hf, k⟩ := h
  exact w ds os QG hf as H _ _ (re_start R r) XS.x0 (fun bs H' σ' S' s R' q => k bs .non H' (.d .non) _ s R'.o Dx.non q) (fun bs H' v d os' s R' r' q => k bs v H' d os' s R' r' q) (fun _ _ _ _ _ _ q => q.elim) fun _ _ _ _ _ _ q => q.elim
section
variable {K : PySem.W.Frag} {X : Xc} {S : Sa} {Q : Sv → Os → Prop} {ta : TA} {E : Ea}
theorem ro_mr {as : List Addr} {H : Hp} {os : Os} {C : Addr} (R : Ro K as H (os ++ [.mi C []])) : Ro K as H (os ++ [.mr C []]) := by
  refine ⟨R.nd, by simpa using R.len, fun k a ob h1 h2 => ?_⟩
  by_cases hk : k < os.length
  · rw [List.getElem?_append_left hk] at h2
    exact R.own k a ob h1 (by rw [List.getElem?_append_left hk]; exact h2)
  · have hl := (List.getElem?_eq_some_iff.mp h2).1
    rw [List.length_append] at hl
    simp at hl
    have e : k = os.length := by omega
    subst e
    simp at h2
    subst h2
    obtain ⟨dx, fs, z1, z2, z3, z4⟩ := R.own os.length a (.mi C []) h1 (by simp)
    cases z4
    exact ⟨dx, z1, z2, z3⟩
/-- x = C(..), the instance and what it holds are things of the store -/
theorem w_asgMakeG {C : Addr} {f : FGr} {E0 : XK} {i : Nat} (h : AW K X ta S fun ds os => f (.o os.length :: ds) (os ++ [.mr C []]) fun d os' => d = .d .non ∧ E.nx ⟨S.s.set i (some (.o os.length)), os'⟩) : W K X (tAsg (tMake C (spG K f) [] E0 ta) (gName i)) E S := fun as H σ D R x n r b c =>
  h as H σ _ R (x.h R) fun vs H1 ds os1 g1 R1 r1 q1 x0 dx hx hdx hne => by
    have R2 := ro_mr (ro_addI (C := C) R1 hx hdx hne)
    have g2 : Go as H1 (upd (upd H1 dx (.own x0)) x0 (.ins C dx [])) := (Go.new hdx).trans (Go.new (by rw [upd_ne (Ne.symm hne)]; exact hx))
    have s2 : Stp as H1 (as ++ [x0]) (upd (upd H1 dx (.own x0)) x0 (.ins C dx [])) := ⟨⟨[x0], rfl, fun a ha => by rw [List.mem_singleton.mp ha]; exact hx⟩, g2, fun a ha => by
      by_cases e1 : a = x0
      · rw [e1]; exact hx
      · rw [upd_ne e1] at ha
        by_cases e2 : a = dx
        · rw [e2]; exact hdx
        · rw [upd_ne e2] at ha
          exact ha⟩
    have rs : ∀ {us : List V} {es : List Sv}, SvA K as H1 us es → SvA K (as ++ [x0]) (upd (upd H1 dx (.own x0)) x0 (.ins C dx [])) us es := fun {us es} r => by
      induction r with
      | nil => exact .nil
      | cons h _ ih => exact .cons (h.stp s2) ih
    refine ⟨as ++ [x0], os1 ++ [.mr C []], .o os1.length :: ds, _, R2, .cons ⟨x0, by rw [← R1.len]; simp, rfl⟩ (rs r1).nilr, q1, fun bs v H' d os' s3 R3 r3 ⟨ed, q⟩ => ?_⟩
    subst ed
    cases r3
    have sN := ((Stp.of_go g1 R1).trans s2).trans s3
    obtain ⟨nw, eb, _⟩ := s3.pre
    refine ⟨rfl, n bs H' _ _ sN (Re.set (S := ⟨S.s, os'⟩) i ⟨R3, R.slen, fun k d hd => ?_⟩ (v := .ref x0) (d := .o os1.length) ⟨x0, ?_, rfl⟩) q⟩
    · obtain ⟨u, e, z⟩ := R.slot k d hd
      exact ⟨u, e, z.stp sN⟩
    · rw [eb, List.append_assoc, List.getElem?_append_right (by rw [R1.len]; exact Nat.le_refl _), R1.len]
      simp
/-- x.m(..), x an instance of the store -/
theorem ew_meth {C : Addr} {m : Str} {f : FD} {tx : TE} (h : EW K X tx S fun x os1 => ∃ j fs, x = .o j ∧ os1[j]? = some (.mr C fs) ∧ fs.lookup m = none ∧ AW K X ta ⟨S.s, os1⟩ fun ds os2 => f (.o j :: ds) os2 (fun d os' => Q (.d d) os') fun _ _ _ => False) :
    EW K X (tMeth C m (spD K f) [] E0 tx ta) S Q := fun as H σ Q' R x k =>
  h as H σ _ R x fun v H1 d os1 g1 R1 r1 ⟨j, fs, ed, eo, hm, q1⟩ => by
    subst ed
    obtain ⟨a, ea, rfl⟩ := r1
    obtain ⟨dx, h1, h2, h3⟩ := R1.own j a _ ea eo
    refine ⟨a, dx, _, rfl, h1, lookup_refsN hm, q1 as H1 σ _ (R.go g1 R1) (x.go g1 R1) fun vs H2 ds os2 g2 R2 r2 q2 => ?_⟩
    exact ⟨as, os2, .o j :: ds, _, _, R2, .cons ⟨a, ea, rfl⟩ r2.nilr, q2, fun v H3 d os3 g3 R3 r3 q3 => k v H3 (.d d) os3 ((g1.trans g2).trans g3) R3 r3 q3, fun _ _ _ _ _ _ _ _ _ _ _ z => z.elim⟩
end
/-! ### a dict that changes is handed out as data -/
def RetOkD (n : Nat) (QA : D → Os → Prop) : Sv → Os → Prop := fun x os' => match x with
  | .d d => QA d (os'.take n)
  | .o k => n ≤ k ∧ ∃ xs, os'[k]? = some (.md xs) ∧ QA (.dk xs) (os'.take n)
  | .fn _ _ => False
theorem ret_backD {K : PySem.W.Frag} {as bs : List Addr} {H H' : Hp} {os os' : Os} {QA : D → Os → Prop} {v : V} {x : Sv} {Q : VK} (s : Stp as H bs H') (n : as.length = os.length) (R : Ro K bs H' os') (r : SvR K bs H' v x) (q : RetOkD os.length QA x os')
    (k : ∀ v H' d os', Go as H H' → Ro K as H' os' → Dx K as H' v d → QA d os' → Q v H') : Q v H' := by
  cases x with
  | d d => exact k v H' d _ s.go (R.back s n) (Dx.way (Way.of_sub s.sub) r) q
  | o j =>
    obtain ⟨hj, xs, e, q⟩ := q
    obtain ⟨a, ea, rfl⟩ := r
    obtain ⟨vs, h1, h2⟩ := R.own j a _ ea e
    obtain ⟨nw, eb, hf⟩ := s.pre
    have ha : a ∉ as := fun z => by
      obtain ⟨i, hi, ei⟩ := List.mem_iff_getElem.mp z
      have h3 : bs[i]? = some a := by rw [eb, List.getElem?_append_left hi, List.getElem?_eq_getElem hi, ei]
      have h4 : i = j := by
        obtain ⟨l1, m1⟩ := List.getElem?_eq_some_iff.mp h3
        obtain ⟨l2, m2⟩ := List.getElem?_eq_some_iff.mp ea
        exact (List.getElem_inj R.nd).mp (m1.trans m2.symm)
      omega
    exact k _ H' _ _ s.go (R.back s n) (.dk ha (.inl h1) (h2.way (Way.of_sub s.sub))) q
  | fn f r => exact q.elim
theorem readD_of {K : PySem.W.Frag} {N : List Str} {f : FD} {t : TS} {vs : List V} {H : Hp} {Q : VK} {E : XK} (h : spD K f vs H Q E)
    (w : ∀ ds os QA EA, f ds os QA EA → W K ⟨fun cls d _ H => E cls d H, fun C fds S => EA C fds (S.os.take os.length)⟩ t { nx := fun S => RetOk os.length QA (.d .non) S.os, rt := RetOkD os.length QA } ⟨startS N ds, os⟩) : t { nx := fun _ H' => Q .non H', rt := Q } (L2.start N vs) H := by
  obtain ⟨as, os, ds, QA, EA, R, r, hf, kq, ke⟩ := h
  refine w ds os QA EA hf as H _ _ (re_start R r) (fun bs H' σ' S' C dd fs fds s R' n e r' z => ?_) (fun bs H' σ' S' s R' q => ?_) (fun bs H' v d os' s R' r' q => ?_) (fun _ _ _ _ _ _ q => q.elim) fun _ _ _ _ _ _ q => q.elim
  · exact ke C dd H' fs fds _ s.go (R'.o.back s R.len) n e (DxF.way (Way.of_sub s.sub) r') z
  · exact ret_back s R.len R'.o (v := .non) (x := .d .non) Dx.non q kq
  · exact ret_backD s R.len R' r' q kq
theorem cw_minI {K : PySem.W.Frag} {os : Os} {Q : Sv → Os → Prop} {ns : List Int} (hn : 0 < ns.length) (q : ∀ m ∈ ns, (∀ y ∈ ns, m ≤ y) → Q (.d (.int m)) os) : CW K (rMin K) [.d (.lst (ns.map D.int))] os Q := fun as H vs Q' R r k => by
  cases r with
  | cons h t =>
    cases t
    cases (show Dx K as H _ (.lst (ns.map D.int)) from h) with
    | @lst a xs _ hl hr =>
      have e := DxA.of_ints hr
      subst e
      exact ⟨a, ns, rfl, hl.sq, hn, fun m hm hle => k _ H (.d (.int m)) os (Go.refl _ _) R (Dx.int m) (q m hm hle)⟩
/-- x = {} -/
theorem w_newD {K : PySem.W.Frag} {X : Xc} {S : Sa} {E : Ea} {i : Nat} (q : E.nx ⟨S.s.set i (some (.o S.os.length)), S.os ++ [.md []]⟩) : W K X (tAsg tDNewK (gName i)) E S := fun as H σ D R x n r b c => by
  intro p hp
  have s2 : Stp as H (as ++ [p]) (upd H p (.dK [])) := stp_add hp
  have R2 : Re K (as ++ [p]) (upd H p (.dK [])) σ ⟨S.s, S.os ++ [.md []]⟩ := ⟨ro_addD R.o hp, R.slen, fun j d hd => by
    obtain ⟨u, e, z⟩ := R.slot j d hd
    exact ⟨u, e, z.stp s2⟩⟩
  exact n _ _ _ _ s2 (R2.set i (v := .ref p) (d := .o S.os.length) ⟨p, by rw [← R.o.len]; simp, rfl⟩) q
end Br

/-! BrLP: x, y = {}, e; x, y = f(..), e, f making a thing; what a dict tells behind a store. -/
namespace Br
open PySem PySem.Spec PyProof.Rows L2
section
variable {K : PySem.W.Frag} {X : Xc} {S : Sa} {E : Ea} {te : TE} {ta : TA}
theorem w_parD {i j : Nat} (h : EW K X te ⟨S.s, S.os ++ [.md []]⟩ fun y os2 => E.nx ⟨(S.s.set i (some (.o S.os.length))).set j (some y), os2⟩) : W K X (tPar i j (tCons tDNewK (tCons te tNil))) E S := fun as H σ D R x n r b c => fun p hp => by
  have s2 : Stp as H (as ++ [p]) (upd H p (.dK [])) := stp_add hp
  have R2 : Re K (as ++ [p]) (upd H p (.dK [])) σ ⟨S.s, S.os ++ [.md []]⟩ := ⟨ro_addD R.o hp, R.slen, fun k d hd => by
    obtain ⟨u, e, z⟩ := R.slot k d hd
    exact ⟨u, e, z.stp s2⟩⟩
  refine h (as ++ [p]) _ σ _ R2 ((x.stp s2).h R2) fun u H2 d os2 g2 R3 r2 q => ⟨.ref p, u, rfl, ?_⟩
  have hp2 : SvR K (as ++ [p]) H2 (.ref p) (.o S.os.length) := ⟨p, by rw [← R.o.len]; simp, rfl⟩
  exact n _ _ _ _ (s2.trans (Stp.of_go g2 R3)) (((R2.go g2 R3).set i hp2).set j r2) q
theorem w_parN {i j : Nat} {f : FN} (h : AW K X ta S fun ds os => f ds os fun ob os' => EW K X te ⟨S.s, os' ++ [ob]⟩ fun y os2 => E.nx ⟨(S.s.set i (some (.o os'.length))).set j (some y), os2⟩) : W K X (tPar i j (tCons (tCall (spN K f) [] E0 ta) (tCons te tNil))) E S := fun as H σ D R x n r b c =>
  h as H σ _ R (x.h R) fun vs H1 ds os1 g1 R1 r1 q1 => ⟨as, os1, ds, _, R1, r1.nilr, q1, fun p H2 ob os2 s2 R2 q2 => by
    have s1 : Stp as H as H1 := Stp.of_go g1 R1
    have hl : as.length = os2.length := by
      have := R2.len
      simpa using this
    have R3 : Re K (as ++ [p]) H2 σ ⟨S.s, os2 ++ [ob]⟩ := ⟨R2, R.slen, fun j d hd => by
      obtain ⟨u, e, z⟩ := R.slot j d hd
      exact ⟨u, e, z.stp (s1.trans s2)⟩⟩
    refine q2 (as ++ [p]) _ σ _ R3 ((x.stp (s1.trans s2)).h R3) fun u H3 d os3 g3 R4 r3 q3 => ⟨.ref p, u, rfl, ?_⟩
    have hp2 : SvR K (as ++ [p]) H3 (.ref p) (.o os2.length) := ⟨p, by rw [← hl]; simp, rfl⟩
    exact n _ _ _ _ ((s1.trans s2).trans (Stp.of_go g3 R4)) (((R3.go g3 R4).set i hp2).set j r3) q3⟩
end
theorem look_cons {a : Key} {b : D} {r : List (Key × D)} {k : Key} : lookD ((a, b) :: r) k = if a = k then some b else lookD r k := by
  unfold lookD
  rw [List.find?_cons]
  by_cases h : a = k
  · rw [if_pos h]
    simp [h]
  · rw [if_neg h]
    simp [h]
theorem look_map {k : Key} {v : D} {k2 : Key} : ∀ {kvs : List (Key × D)}, lookD (kvs.map fun kv => if kv.1 = k then (kv.1, v) else kv) k2 = if k2 = k ∧ (kvs.any fun kv => decide (kv.1 = k)) = true then some v else lookD kvs k2
  | [] => by
    rw [if_neg (by rintro ⟨_, h⟩; cases h)]
    rfl
  | (a, b) :: r => by
    have ih := look_map (k := k) (v := v) (k2 := k2) (kvs := r)
    rw [List.map_cons, List.any_cons, look_cons (a := a) (b := b)]
    show lookD ((if a = k then (a, v) else (a, b)) :: _) k2 = if k2 = k ∧ (decide (a = k) || r.any fun kv => decide (kv.1 = k)) = true then some v else if a = k2 then some b else lookD r k2
    by_cases h1 : a = k
    · rw [if_pos h1, look_cons, ih]
      by_cases h2 : a = k2
      · rw [if_pos h2, if_pos ⟨h2 ▸ h1, by rw [decide_eq_true h1]; rfl⟩]
      · rw [if_neg h2, if_neg h2, if_neg fun z => h2 (h1.trans z.1.symm), if_neg fun z => h2 (h1.trans z.1.symm)]
    · rw [if_neg h1, look_cons, ih, decide_eq_false h1, Bool.false_or]
      by_cases h2 : a = k2
      · rw [if_pos h2, if_pos h2, if_neg fun z => h1 (h2.trans z.1)]
      · rw [if_neg h2, if_neg h2]
theorem look_app {k : Key} {v : D} {k2 : Key} : ∀ {kvs : List (Key × D)}, (kvs.any fun kv => decide (kv.1 = k)) = false → lookD (kvs ++ [(k, v)]) k2 = if k2 = k then some v else lookD kvs k2
  | [], _ => by
    rw [List.nil_append, look_cons]
    by_cases h : k = k2
    · rw [if_pos h, if_pos h.symm]
    · rw [if_neg h, if_neg fun z => h z.symm]
  | (a, b) :: r, h => by
    rw [List.any_cons, Bool.or_eq_false_iff] at h
    have h1 : ¬ a = k := of_decide_eq_false h.1
    rw [List.cons_append, look_cons, look_cons, look_app h.2]
    by_cases h2 : a = k2
    · rw [if_pos h2, if_pos h2, if_neg fun z => h1 (h2.trans z)]
    · rw [if_neg h2, if_neg h2]
theorem look_put {kvs : List (Key × D)} {k k2 : Key} {v : D} : lookD (putD kvs k v) k2 = if k2 = k then some v else lookD kvs k2 := by
  unfold putD
  cases h : kvs.any fun kv => decide (kv.1 = k) with
  | true =>
    rw [if_pos rfl, look_map, h]
    by_cases h2 : k2 = k
    · rw [if_pos ⟨h2, rfl⟩, if_pos h2]
    · rw [if_neg fun z => h2 z.1, if_neg h2]
  | false =>
    rw [if_neg (by decide)]
    exact look_app h
theorem put_len {kvs : List (Key × D)} {k : Key} {v : D} : (putD kvs k v).length ≤ kvs.length + 1 := by
  unfold putD
  split
  · rw [List.length_map]
    omega
  · rw [List.length_append]
    exact Nat.le_refl _
end Br

/-! BrLQ: a list of the store is shown; a list made and told by a conditional. -/
namespace Br
open PySem PySem.Spec PyProof.Rows L2
section
variable {K : PySem.W.Frag} {X : Xc} {S : Sa}
theorem cw_reprO {os : Os} {Q : Sv → Os → Prop} {M k : Nat} {xs : List D} (hk : os[k]? = some (.ml xs)) (hM : M ≤ 10 ^ 200) (h : (D.lst xs).fit M = true) (hl : (D.lst xs).ln ≤ 10000000) (hd : (D.lst xs).dpt ≤ 60) (q : Q (.d (.str (shownD (.lst xs)))) os) : CW K (rReprA K) [.o k] os Q := by
  obtain ⟨p, e, h1, h2, h3⟩ := fit_pyW hM (.lst xs) h
  have es : shownD (.lst xs) = p.shown := by
    unfold shownD
    rw [e]
  rw [es] at q
  exact fun as H vs Q' R r kk => by
    cases r with
    | cons h t =>
      cases t
      obtain ⟨a, ea, rfl⟩ := h
      obtain ⟨ws, q1, q2⟩ := R.own k a _ ea hk
      have hx : Dx K [] H (.ref a) (.lst xs) := .lst (.inl ⟨List.not_mem_nil, .inl q1⟩) (DxA.way (Way.of_sub (fun x hx => (List.not_mem_nil hx).elim)) q2)
      exact ⟨[], _, _, p, rfl, hx, e, h1, by omega, Nat.le_trans h3 (Nat.le_trans hl (by decide)), kk _ H (.d (.str _)) os (Go.refl _ _) R (.str _) q⟩
theorem ews_if {t : TT} {ta tb : TE} {Q : RS} (h : TW K X t S fun b os1 => if b = true then EWS K X ta ⟨S.s, os1⟩ Q else EWS K X tb ⟨S.s, os1⟩ Q) : EWS K X (tIf t ta tb) S Q := fun as H σ Q' R x k =>
  h as H σ _ R x fun b H1 os1 g1 R1 q1 => by
    cases b with
    | true =>
      show ta σ H1 Q'
      exact (show EWS K X ta ⟨S.s, os1⟩ Q from q1) as H1 σ Q' (R.go g1 R1) (x.go g1 R1) fun z bs H3 f os3 s3 R3 r3 q3 => k z bs H3 f os3 ((Stp.of_go g1 R1).trans s3) R3 r3 q3
    | false =>
      show tb σ H1 Q'
      exact (show EWS K X tb ⟨S.s, os1⟩ Q from q1) as H1 σ Q' (R.go g1 R1) (x.go g1 R1) fun z bs H3 f os3 s3 R3 r3 q3 => k z bs H3 f os3 ((Stp.of_go g1 R1).trans s3) R3 r3 q3
theorem ews_lst {tl : TA} {Q : RS} (h : AW K X tl S fun xs os => ∃ ds, unD xs = some ds ∧ ds.length ≤ sizeLine ∧ Q (.o os.length) (os ++ [.ml ds])) : EWS K X (tLst tl) S Q := fun as H σ Q' R x k =>
  h as H σ _ R x fun vs H1 xs os1 g1 R1 r1 ⟨ds, e, hl, q⟩ => by
    have hd := (unD_all e).dx r1
    refine ⟨by rw [hd.length]; exact hl, fun p hp => ?_⟩
    exact k (.ref p) (as ++ [p]) _ (.o os1.length) _ ((Stp.of_go g1 R1).trans (stp_add hp)) (ro_addL R1 hp hd) ⟨p, by rw [← R1.len]; simp, rfl⟩ q
end
end Br

/-! BrSt: x, *r = .., of a list. -/
namespace Br
open PySem PySem.Spec PyProof.Rows L2
section
variable {prog : Program} {w : World} {A : Around} {E : Value → Shared → Prop} {s : Shared}
theorem walks_from (hh : A.handled = none) (I ax : Addr) (hne : ax ≠ I) (items : Array Value) (j : Nat) (hj : j ≤ items.size) :
    Walks prog w A I [I, ax] [I] (items.size - j) (fun i v => items[j + i]? = some v) (fun i h => h.IsListIter I ax (j + i) ∧ h.IsList ax items) :=
  have W := Walks.list (prog := prog) (w := w) hh I ax hne items
  { sub := W.sub
    frame := fun i h h' st hk => W.frame (j + i) h h' st hk
    item := fun i s Q E hi st hQ => W.item (j + i) s Q E (by omega) st fun v h' tk p st' k => hQ v h' tk p st' k
    done := fun s Q E st hQ => W.done s Q E (by rw [show j + (items.size - j) = items.size by omega] at st; exact st) hQ
    self := fun i s Q E st hQ => W.self (j + i) s Q E st hQ }
theorem star_items {l : Addr} {items : Array Value} {Q : List Value → Shared → Prop} (hh : A.handled = none) (hl : s.heap.IsList l items) (h0 : 0 < items.size) (hz : items.size ≤ sizeLine)
    (hQ : ∀ s' : Shared, (∀ b o, s.heap.get? b = some o → s'.heap.get? b = some o) → s'.gens = s.gens → s'.drawn = s.drawn → s'.os = s.os → Q [items[0], .ref s'.heap.objs.size] { s' with heap := s'.heap.push { cls := .type "list", data := .seq (items.toList.drop 1).toArray } }) :
    wpAny (model prog w) A (unpackItems (.ref l) 2 (some 1)) Q E s := by
  have hlt : l ≠ s.heap.objs.size := by obtain ⟨o, ho, _⟩ := hl; exact Nat.ne_of_lt (Heap.lt_size ho)
  unfold unpackItems
  refine wpAny_bind ?_
  · unfold notIterableAtAll
    refine wpAny_bind (wpAny_specialOf hl.typeIs slot_list_iter.lookup ?_)
    refine wpAny_pure ?_
    simp only [Bool.false_eq_true, if_false]
    refine wpAny_bind (wpAny_holding (wpAny_pyIter_list hl ?_))
    refine wpAny_bind (wpAny_holding (PySem.W.kun_draw hlt 1 0 _ _ ⟨_, Heap.get?_push_size _ rfl, rfl, rfl⟩ (hl.push _) (by omega) fun h₁ hit₁ hs₁ => ?_))
    have hall : List.take 1 (List.drop 0 items.toList) = [items[0]] := by
      rw [List.drop_zero]
      have : items.toList = items[0] :: items.toList.drop 1 := by
        have := List.drop_eq_getElem_cons (l := items.toList) (i := 0) (by simpa using h0)
        simpa using this
      rw [this]
      rfl
    rw [hall, if_neg (by simp)]
    have hl₁ : h₁.IsList l items := (hl.push _).extBut hs₁.extBut hlt
    have nI : s.heap.objs.size < h₁.objs.size := by obtain ⟨o, ho, _⟩ := hit₁; exact Heap.lt_size ho
    have nl : l < h₁.objs.size := by obtain ⟨o, ho, _⟩ := hl₁; exact Heap.lt_size ho
    refine wpAny_bind (wpAny_holding (wpAny_collect_iter (T := "list_iterator") (.inr (.inr (.inl rfl))) (walks_from (A := A.in1) hh s.heap.objs.size l hlt items 1 h0).toS (fun i s st => st.1.typeIs) ⟨hit₁, hl₁⟩ (fun b hb => ?_) (by simp) (fun s' acc hm hacc => ?_) (by omega)))
    · simp only [List.mem_cons, List.not_mem_nil, or_false] at hb
      rcases hb with rfl | rfl
      · exact nI
      · exact nl
    · have ea : acc.toList = items.toList.drop 1 := by
        refine List.ext_getElem? fun i => ?_
        rw [Array.getElem?_toList, List.getElem?_drop, Array.getElem?_toList]
        by_cases hi : i < acc.size
        · have := hacc.2 i acc[i] (Array.getElem?_eq_getElem hi)
          rw [Array.getElem?_eq_getElem hi, this]
        · have h2 := hacc.1
          rw [Array.getElem?_eq_none (by omega), Array.getElem?_eq_none (by omega)]
      have kept : ∀ b o, s.heap.get? b = some o → s'.heap.get? b = some o := fun b o e => by
        have hb : b ≠ s.heap.objs.size := Nat.ne_of_lt (Heap.lt_size e)
        exact hm.heap b o (fun z => hb (List.mem_singleton.mp z)) (hs₁.extBut b o hb (Heap.get?_push_of_some _ e))
      rw [ea]
      have le : (items.toList.drop 1).length ≤ sizeLine := by rw [List.length_drop, Array.length_toList]; omega
      rw [if_neg (by omega), Nat.sub_self, Nat.sub_zero, List.take_length]
      refine wpAny_bind (wpAny_newList (wpAny_pure ?_) le)
      rw [List.drop_length]
      exact hQ s' kept hm.gens hm.drawn hm.os
end
section
variable {X : Cx}
/-- x, *r = .. -/
def gStar (K : PySem.W.Frag) (t : TGs) : TG := fun v σ H Q => ∃ a x xs, v = .ref a ∧ SqL K H a (x :: xs) ∧ ∀ p, H p = none → t [x, .ref p] σ (upd H p (.lst xs)) Q
theorem pg_star {e1 e2 : Expr} {p2 pos : Pos} {k : Nat} {t : TGs} (hc : X.calm = true) (h : PGs X [e1, e2] t)
    (hs : assignEach [e1, .Starred e2 p2] X.env = [(false, assign e1 X.env), (true, assign e2 X.env)] := by rfl) (hs2 : (assignEach [e1, e2] X.env).map (·.2) = [assign e1 X.env, assign e2 X.env] := by rfl) : PG X (.Tuple [e1, .Starred e2 p2] k pos) (gStar X.K t) := by
  refine ⟨fun pins s σ H v u Q I r hw => ?_⟩
  obtain ⟨a, x, xs, rfl, hq, hw⟩ := hw
  cases r
  obtain ⟨its, rv, ht, hz⟩ := I.list hq
  obtain ⟨o, n, e0, e1', e2', e3⟩ := ht
  rw [assign_Tuple]
  refine wpAny_bind (wpAny_standAt ?_)
  unfold unpack
  rw [hs]
  cases rv with
  | @cons _ u _ us ru rus =>
    have hl := rus.length
    have hz' : (u :: us).length ≤ sizeLine := by
      rw [List.length_cons, ← hl]
      simpa using hz
    refine wpAny_bind (wpAny_holding (star_items (l := a) (items := (u :: us).toArray) (I.ok.hd hc) ⟨o, e0, e1', n, e3⟩ (by simp) (by simpa using hz') fun s' kept eg ed eo => ?_))
    have es : s' = { s with heap := s'.heap, toks := s'.toks } := by
      obtain ⟨h', g', d', k', o'⟩ := s'
      cases eg
      cases ed
      cases eo
      rfl
    have I1 : Inv X pins σ H s' := by
      rw [es]
      exact I.kept kept
    have hp : H s'.heap.objs.size = none := I1.hok.fresh (Nat.le_refl _)
    have I2 := I1.laid (a := s'.heap.objs.size) (o := .lst xs) (t' := s'.toks) (h' := s'.heap.push { cls := .type "list", data := .seq us.toArray }) (fun b u e => Heap.get?_push_of_some _ e) (Nat.le_refl _) ⟨by simp at hz; omega, us, 0, rus, Heap.get?_push_size _ rfl⟩
    have run := h.run pins _ σ _ [x, .ref s'.heap.objs.size] [u, .ref s'.heap.objs.size] Q I2 (.cons ru (.cons rfl .nil)) (hw _ hp)
    rw [hs2] at run
    exact run
end
section
variable {K : PySem.W.Frag} {X : Xc} {S : Sa}
theorem w_asgStar {i j : Nat} {te : TE} {E : Ea} (h : EW K X te S fun d os => ∃ x xs, d = .d (.lst (x :: xs)) ∧ E.nx ⟨(S.s.set i (some (.d x))).set j (some (.d (.lst xs))), os⟩) : W K X (tAsg te (gStar K (gCons (gName i) (gCons (gName j) gNil)))) E S := fun as H σ D R x n r b c =>
  h as H σ _ R (x.h R) fun v H1 d os1 g1 R1 r1 ⟨y, ys, ed, q⟩ => by
    subst ed
    cases r1 with
    | @lst a vs _ hl hr =>
      cases hr with
      | @cons v1 vs1 _ _ h1 h2 =>
        refine ⟨a, v1, vs1, rfl, hl.sq, fun p hp => ⟨_, _, rfl, ⟨_, _, rfl, ⟨rfl, ?_⟩⟩⟩⟩
        have g2 : Go as H1 (upd H1 p (.lst vs1)) := Go.new hp
        have R2 : Ro K as (upd H1 p (.lst vs1)) os1 := R1.new hp
        have g3 := g1.trans g2
        have RR := R.go g3 R2
        exact n as _ _ _ (Stp.of_go g3 R2) ((RR.set i (show SvR K as _ v1 (.d y) from Dx.way (Way.of_go g2) h1)).set j (show SvR K as _ (.ref p) (.d (.lst ys)) from dx_newL R1 hp h2)) q
theorem dxa_strs {as : List Addr} {H : Hp} (ys : List Str) : DxA K as H (ys.map V.str) (ys.map D.str) := by
  induction ys with
  | nil => exact .nil
  | cons y r ih => exact .cons (.str y) ih
/-- x.split(sep) -/
theorem ew_split {to te : TE} {Q : Sv → Os → Prop} (h : EW K X to S fun x os1 => ∃ a, x = .d (.str a) ∧ EW K X te ⟨S.s, os1⟩ fun y os2 => ∃ b, y = .d (.str b) ∧ (b.length == 0) = false ∧ a.length + 2 ≤ sizeLine ∧ Q (.d (.lst ((Txt.split a b).map D.str))) os2) :
    EW K X (tM1 (fun x xs H Q => ∃ a b, x = .str a ∧ xs = [.str b] ∧ (b.length == 0) = false ∧ a.length + 2 ≤ sizeLine ∧ rNewStrs (Txt.split a b) H Q) to te) S Q := fun as H σ Q' R x k =>
  h as H σ _ R x fun v H1 d os1 g1 R1 r1 ⟨a, ed, h2⟩ => by
    subst ed
    cases r1
    refine ⟨⟨a, rfl⟩, h2 as H1 σ _ (R.go g1 R1) (x.go g1 R1) fun u H2 y os2 g2 R2 r2 ⟨b, ey, hb, hl, q⟩ => ?_⟩
    subst ey
    cases r2
    exact ⟨a, b, rfl, rfl, hb, hl, fun p hp => k (.ref p) _ (.d (.lst ((Txt.split a b).map D.str))) os2 ((g1.trans g2).trans (Go.new hp)) (R2.new hp) (dx_newL R2 hp (dxa_strs _)) q⟩
/-- x.removeprefix(y) -/
theorem ew_rmpre {to te : TE} {Q : Sv → Os → Prop} (h : EW K X to S fun x os1 => ∃ a, x = .d (.str a) ∧ EW K X te ⟨S.s, os1⟩ fun y os2 => ∃ b, y = .d (.str b) ∧ a.length ≤ sizeLine ∧ Q (.d (.str (Txt.removeprefix a b))) os2) :
    EW K X (tM1 (fun x xs H Q => ∃ a b, x = .str a ∧ xs = [.str b] ∧ a.length ≤ sizeLine ∧ Q (.str (Txt.removeprefix a b)) H) to te) S Q := fun as H σ Q' R x k =>
  h as H σ _ R x fun v H1 d os1 g1 R1 r1 ⟨a, ed, h2⟩ => by
    subst ed
    cases r1
    refine ⟨⟨a, rfl⟩, h2 as H1 σ _ (R.go g1 R1) (x.go g1 R1) fun u H2 y os2 g2 R2 r2 ⟨b, ey, hl, q⟩ => ?_⟩
    subst ey
    cases r2
    exact ⟨a, b, rfl, rfl, hl, k (.str _) H2 (.d (.str (Txt.removeprefix a b))) os2 (g1.trans g2) R2 (.str _) q⟩
end
section
variable {X : Cx} {o e : Expr} {to te : TE}
theorem pe_rmpre {apos pos : Pos} (ho : PE X o to) (he : PE X e te) (hs : starEach [e] X.env = [(false, eval e X.env)] := by rfl) (hbase : attributeBase o "removeprefix" X.env (eval o X.env) = eval o X.env := by rfl) (hline : (apos.endLine == pos.line) = true := by rfl) :
    PE X (.Call (.Attribute o "removeprefix" apos) [e] [] pos) (tM1 (fun x xs H Q => ∃ a b, x = .str a ∧ xs = [.str b] ∧ a.length ≤ sizeLine ∧ Q (.str (Txt.removeprefix a b)) H) to te) :=
  pe_m1 F.slot_str_removeprefix F.type_str_removeprefix mt_removeprefix ho he hs hbase hline
end
end Br

/-! BrSu: a text's signs as a list, int of a text, joined lists of the store, x = xs + ys that changes. -/
namespace Br
open PySem PySem.Spec PyProof.Rows L2
/-- a text's signs -/
def sgn (z : Str) : List Str := z.cps.toList.map fun c => ⟨#[c]⟩
def rListS : List V → Hp → VK → Prop := fun xs H Q => ∃ z : Str, xs = [.str z] ∧ z.length ≤ sizeLine ∧ ∀ l, H l = none → Q (.ref l) (upd H l (.lst ((sgn z).map V.str)))
section
variable {X : Cx}
theorem call_listS (hc : X.calm = true) : CallR X (.type "list") rListS := by
  intro pins s σ H xs us Q I r h
  obtain ⟨z, rfl, hz, q⟩ := h
  obtain ⟨u, rfl, t, rfl⟩ := vals1 r
  refine call_list_str (I.ok.hd hc) z t (fun h' tk acc' c' kp e hacc => ?_) hz
  have hv : Vals ((sgn z).map V.str) acc'.toList := by
    refine vals_of_at (by have h1 := hacc.1; unfold sgn; simp [h1]) fun j x u hx hu => ?_
    rw [List.getElem?_map] at hx
    obtain ⟨y, hy, rfl⟩ := Option.map_eq_some_iff.mp hx
    unfold sgn at hy
    rw [List.getElem?_map] at hy
    obtain ⟨c, hcc, rfl⟩ := Option.map_eq_some_iff.mp hy
    obtain ⟨c2, t2, h1, rfl⟩ := hacc.2 j u (by rw [← Array.getElem?_toList]; exact hu)
    rw [Array.getElem?_toList] at hcc
    rw [hcc] at h1
    cases h1
    exact ⟨t2, rfl⟩
  have hl : ((sgn z).map V.str).length ≤ sizeLine := by
    rw [List.length_map]
    unfold sgn
    rw [List.length_map, Array.length_toList]
    exact hz
  exact ⟨.ref s.heap.objs.size, _, I.laid (t' := tk) kp (Nat.le_refl _) (show ObjOk X.prog X.w _ h' _ (.lst ((sgn z).map V.str)) from ⟨hl, acc'.toList, c', hv, by simpa using e⟩), rfl, q _ (I.hok.fresh (Nat.le_refl _))⟩
end
section
variable {K : PySem.W.Frag} {X : Xc} {S : Sa} {os : Os}
theorem cw_listS {z : Str} {Q : Sv → Os → Prop} (hz : z.length ≤ sizeLine) (q : Q (.d (.lst ((sgn z).map D.str))) os) : CW K rListS [.d (.str z)] os Q := fun as H vs Q' R r k => by
  cases r with
  | cons h t =>
    cases t
    cases h
    exact ⟨z, rfl, hz, fun p hp => k (.ref p) _ (.d (.lst ((sgn z).map D.str))) os (Go.new hp) (R.new hp) (dx_newL R hp (dxa_strs _)) q⟩
def rIntS : List V → Hp → VK → Prop := fun xs H Q => ∃ a n, xs = [.str a] ∧ PySem.intText? a = some n ∧ a.length ≤ 640 ∧ Q (.int n) H
theorem cw_intS {z : Str} {n : Int} {Q : Sv → Os → Prop} (hn : PySem.intText? z = some n) (hz : z.length ≤ 640) (q : Q (.d (.int n)) os) : CW K rIntS [.d (.str z)] os Q := fun as H vs Q' R r k => by
  cases r with
  | cons h t =>
    cases t
    cases h
    exact ⟨z, n, rfl, hn, hz, k (.int n) H (.d (.int n)) os (Go.refl _ _) R (.int n) q⟩
/-- x = xs + ys, a list that changes -/
theorem w_asgCatO {i : Nat} {ta tb : TE} {E : Ea} (h : EW K X ta S fun x os1 => EW K X tb ⟨S.s, os1⟩ fun y os2 => ∃ xs ys, x = .d (.lst xs) ∧ y = .d (.lst ys) ∧ xs.length + ys.length ≤ sizeLine ∧ E.nx ⟨S.s.set i (some (.o os2.length)), os2 ++ [.ml (xs ++ ys)]⟩) : W K X (tAsg (tOp (rCatL K) ta tb) (gName i)) E S := fun as H σ D R x n r b c =>
  h as H σ _ R (x.h R) fun v H1 d os1 g1 R1 r1 q1 => q1 as H1 σ _ (R.go g1 R1) ((x.h R).go g1 R1) fun u H2 e os2 g2 R2 r2 ⟨xs, ys, ed, ee, hl, q⟩ => by
    subst ed ee
    have r1 := r1.go g2
    cases r1 with
    | @lst a vs _ hl1 hr1 =>
      cases r2 with
      | @lst a2 us _ hl2 hr2 =>
        refine ⟨a, a2, vs, us, rfl, rfl, hl1.sq, hl2.sq, by rw [hr1.length, hr2.length]; exact hl, fun p hp => ?_⟩
        have hd : DxA K as H2 (vs ++ us) (xs ++ ys) := hr1.app hr2
        have R3 := ro_addL R2 hp hd
        have g := g1.trans g2
        have sN := (Stp.of_go g R2).trans (stp_add (o := .lst (vs ++ us)) hp)
        have RR : Re K (as ++ [p]) (upd H2 p (.lst (vs ++ us))) σ ⟨S.s, os2 ++ [.ml (xs ++ ys)]⟩ := ⟨R3, R.slen, fun j d hd => by
          obtain ⟨u, e, z⟩ := R.slot j d hd
          exact ⟨u, e, z.stp sN⟩⟩
        exact n _ _ _ _ sN (RR.set i (v := .ref p) (d := .o os2.length) ⟨p, by rw [← R2.len]; simp, rfl⟩) q
theorem dxa_unstr {as : List Addr} {H : Hp} : ∀ {vs : List V} {ys : List Str}, DxA K as H vs (ys.map D.str) → vs = ys.map V.str
  | [], [], _ => rfl
  | _ :: _, [], h => by cases h
  | [], _ :: _, h => by cases h
  | v :: vs, y :: ys, h => by
    cases h with
    | cons h1 h2 =>
      cases h1
      rw [dxa_unstr h2]
      rfl
/-- x.join(xs), xs a list of the store -/
theorem ew_joinO {to te : TE} {Q : Sv → Os → Prop} (h : EW K X to S fun x os => ∃ a : Str, x = .d (.str a) ∧ EW K X te ⟨S.s, os⟩ fun y os2 => ∃ (k : Nat) (ys : List Str), y = .o k ∧ os2[k]? = some (.ml (ys.map D.str)) ∧ (ys.map (·.length)).sum + ys.length * a.length ≤ 16777216 ∧ Q (.d (.str (Txt.join a ys))) os2) : EW K X (tJn K to te) S Q := fun as H σ Q' R x k =>
  h as H σ _ R x fun v H1 d os1 g1 R1 r1 ⟨a, ed, h2⟩ => by
    subst ed
    cases r1
    refine ⟨⟨a, rfl⟩, h2 as H1 σ _ (R.go g1 R1) (x.go g1 R1) fun u H2 y os2 g2 R2 r2 ⟨j, ys, ey, eo, hl, q⟩ => ?_⟩
    subst ey
    obtain ⟨b, vs, rfl, hs, hr⟩ := o_list R2 r2 eo
    have e := dxa_unstr hr
    subst e
    exact ⟨a, b, ys, rfl, rfl, .inl hs, hl, k (.str _) H2 (.d (.str (Txt.join a ys))) os2 (g1.trans g2) R2 (.str _) q⟩
end
end Br

/-! BrSv: a text times a number. -/
namespace Br
open PySem PySem.Spec PyProof.Rows L2
def rMulS : R2 := fun x y H Q => ∃ z n, x = .str z ∧ y = .int n ∧ MulOk z n ∧ Q (.str (Txt.mul z n)) H
section
variable {X : Cx}
theorem op_mulS : OpR X (binaryOp .Mult) rMulS := by
  intro pins s σ H x y v u Q I rx ry h
  obtain ⟨z, n, rfl, rfl, hz, q⟩ := h
  obtain ⟨t, rfl⟩ := rx
  obtain ⟨t', rfl⟩ := ry
  exact SB.mul hz (fun t' tk => ⟨.str (Txt.mul z n), H, I.tok _, ⟨_, rfl⟩, q⟩)
end
theorem bw_mulS {K : PySem.W.Frag} {os : Os} {Q : Sv → Os → Prop} {z : Str} {n : Int} (c : MulOk z n) (q : Q (.d (.str (Txt.mul z n))) os) : BW K rMulS (.d (.str z)) (.d (.int n)) os Q :=
  bw_pure (fun as H v u Q' R rx ry k => by
    cases rx
    cases ry
    exact ⟨z, n, rfl, rfl, c, k _ (.str _)⟩) q
theorem mul_4400 : MulOk "0" 4400 ∧ (Txt.mul "0" 4400).length = 4400 := by
  refine ⟨⟨by decide, fun _ _ => by decide +kernel, fun _ _ => by decide +kernel⟩, by decide +kernel⟩
end Br

/-! BrRC: what is read as a list, data or a thing of the store; a def that may raise but doesn't here. -/
namespace Br
open PySem PySem.Spec PyProof.Rows L2
def lstS : Sv → Os → Option (List D)
  | .d (.lst ds), _ => some ds
  | .o k, os => os[k]?.bind fun ob => match ob with
    | .ml ds => some ds
    | _ => none
  | _, _ => none
section
variable {K : PySem.W.Frag} {as : List Addr} {H : Hp} {os : Os} {v : V} {x : Sv} {ds : List D}
theorem lst_rd (R : Ro K as H os) (r : SvR K as H v x) (e : lstS x os = some ds) : ∃ a vs, v = .ref a ∧ SqL K H a vs ∧ DxA K as H vs ds := by
  cases x with
  | d y =>
    cases y with
    | lst d2 =>
      cases e
      cases (show Dx K as H v (.lst ds) from r) with
      | @lst a vs _ hl hr => exact ⟨a, vs, rfl, hl.sq, hr⟩
    | _ => cases e
  | o k =>
    obtain ⟨a, ea, rfl⟩ := r
    have e1 : (os[k]?.bind fun ob => match ob with | .ml ds => some ds | _ => none) = some ds := e
    obtain ⟨ob, eo, ek⟩ := Option.bind_eq_some_iff.mp e1
    cases ob with
    | ml d2 =>
      cases ek
      obtain ⟨vs, h1, h2⟩ := R.own k a _ ea eo
      exact ⟨a, vs, rfl, .inl (.inl h1), h2⟩
    | _ => cases ek
  | fn f r => cases e
theorem lst_at {k : Nat} (h : os[k]? = some (.ml ds)) : lstS (.o k) os = some ds := by
  show os[k]?.bind _ = _
  rw [h]
  rfl
theorem lst_app {l : Os} (h : lstS x os = some ds) : lstS x (os ++ l) = some ds := by
  cases x with
  | d z => cases z <;> first | exact h | cases h
  | o k =>
    have e1 : (os[k]?.bind fun ob => match ob with | .ml ds => some ds | _ => none) = some ds := h
    obtain ⟨ob, e2, e3⟩ := Option.bind_eq_some_iff.mp e1
    show ((os ++ l)[k]?.bind _) = _
    rw [List.getElem?_append_left (List.getElem?_eq_some_iff.mp e2).1, e2]
    exact e3
  | fn a b => cases h
theorem lst_set {k : Nat} {ob : Ob} (h : lstS x os = some ds) (hne : x ≠ .o k) : lstS x (os.set k ob) = some ds := by
  cases x with
  | d z => cases z <;> first | exact h | cases h
  | o j =>
    show ((os.set k ob)[j]?.bind _) = _
    rw [List.getElem?_set_ne (fun e => hne (by rw [e]))]
    exact h
  | fn a b => cases h
end
section
variable {K : PySem.W.Frag} {X : Xc} {S : Sa} {os : Os} {Q : Sv → Os → Prop} {x : Sv} {ds : List D} {te : TE}
theorem cw_lenS2 (e : lstS x os = some ds) (q : Q (.d (.int (ds.length : Int))) os) : CW K (rLen K) [x] os Q :=
  cw_pure (fun as H vs Q' R r k => by
    cases r with
    | cons h t =>
      cases t
      obtain ⟨a, ws, rfl, hs, hr⟩ := lst_rd R h e
      refine ⟨a, ws, rfl, .inl hs, ?_⟩
      rw [hr.length]
      exact k _ (.int _)) q
theorem bw_ixS2 {i : Int} {z : D} (e : lstS x os = some ds) (h : L2.atI ds i = some z) (q : Q (.d z) os) : BW K (rIxL K) x (.d (.int i)) os Q :=
  bw_pure (fun as H v u Q' R rx ry k => by
    cases ry
    obtain ⟨a, ws, rfl, hs, hr⟩ := lst_rd R rx e
    obtain ⟨u, e1, r⟩ := hr.atI h
    exact ⟨a, ws, i, u, rfl, rfl, hs, e1, k _ r⟩) q
theorem cw_lstS2 (e : lstS x os = some ds) (q : Q (.d (.lst ds)) os) : CW K (rListOf K) [x] os Q :=
  cw_new (fun as H vs Q' R r k1 k2 => by
    cases r with
    | cons h t =>
      cases t
      obtain ⟨a, ws, rfl, hs, hr⟩ := lst_rd R h e
      exact ⟨a, ws, rfl, .inl hs, fun l hl => k1 l _ hl (dx_newL R hl hr)⟩) q
theorem sw_S2 {lo hi : Option Int} (e : lstS x os = some ds) (q : Q (.d (.lst (cutD ds lo hi))) os) : SW K (rSlL K) x lo hi os Q := fun as H v Q' R r k => by
  obtain ⟨a, ws, rfl, hs, hr⟩ := lst_rd R r e
  exact ⟨a, ws, rfl, hs, fun p hp => k _ _ (.d (.lst _)) os (Go.new hp) (R.new hp) (dx_newL R hp (cut_dx hr lo hi)) q⟩
theorem ew_revS2 (h : EW K X te S fun x os => ∃ xs, lstS x os = some xs ∧ Q (.d (.lst xs.reverse)) os) : EW K X (tRevL K te) S Q := fun as H σ Q' R x k =>
  h as H σ _ R x fun v H1 d os1 g1 R1 r1 ⟨xs, e, q⟩ => by
    obtain ⟨a, ws, rfl, hs, hr⟩ := lst_rd R1 r1 e
    exact ⟨_, _, rfl, hs, fun p hp => k (.ref p) _ (.d (.lst xs.reverse)) os1 (g1.trans (Go.new hp)) (R1.new hp) (dx_newL R1 hp hr.rev) q⟩
end
section
variable {K : PySem.W.Frag} {X : Xc} {S : Sa} {Q : Sv → Os → Prop} {ta : TA} {f : FD}
/-- a def that may raise, but not here -/
theorem ew_callS00 (h : AW K X ta S fun ds os => f ds os (fun d os' => Q (.d d) os') fun _ _ _ => False) : EW K X (tCallS (spD K f) (WE fun _ _ _ _ => False) ta) S Q := fun as H σ Q' R x k =>
  h as H σ _ R x fun vs H1 ds os1 g1 R1 r1 q1 => ⟨as, os1, ds, _, _, R1, r1, q1, fun v H2 d os2 g2 R2 r2 q2 => k v H2 (.d d) os2 (g1.trans g2) R2 r2 q2, fun _ _ _ _ _ _ _ _ _ _ _ z => z.elim⟩
end
section
variable {K : PySem.W.Frag} {X : Xc} {S : Sa} {E : Ea} {tl : TA}
/-- x, y = [e, ..], [], lists that change -/
theorem w_parDL {i j : Nat} (h : AW K X tl S fun xs os => ∃ ds, unD xs = some ds ∧ ds.length ≤ sizeLine ∧ E.nx ⟨(S.s.set i (some (.o os.length))).set j (some (.o (os.length + 1))), os ++ [.ml ds] ++ [.ml []]⟩) : W K X (tPar i j (tCons (tLst tl) (tCons (tLst tNil) tNil))) E S := fun as H σ D R x n r b c =>
  h as H σ _ R (x.h R) fun vs H1 xs os1 g1 R1 r1 ⟨ds, e, hl, q⟩ => by
    have hd := (unD_all e).dx r1
    refine ⟨by rw [hd.length]; exact hl, fun p hp => ⟨Nat.zero_le _, fun p2 hp2 => ⟨.ref p, .ref p2, rfl, ?_⟩⟩⟩
    have R2 := ro_addL R1 hp hd
    have s2 : Stp as H1 (as ++ [p]) (upd H1 p (.lst vs)) := stp_add hp
    have sN := (Stp.of_go g1 R1).trans s2
    have RR : Re K (as ++ [p]) (upd H1 p (.lst vs)) σ ⟨S.s, os1 ++ [.ml ds]⟩ := ⟨R2, R.slen, fun k d hd => by
      obtain ⟨u, e, z⟩ := R.slot k d hd
      exact ⟨u, e, z.stp sN⟩⟩
    have s3 : Stp (as ++ [p]) (upd H1 p (.lst vs)) (as ++ [p] ++ [p2]) (upd (upd H1 p (.lst vs)) p2 (.lst [])) := stp_add hp2
    have R3 : Re K (as ++ [p] ++ [p2]) (upd (upd H1 p (.lst vs)) p2 (.lst [])) σ ⟨S.s, os1 ++ [.ml ds] ++ [.ml []]⟩ := ⟨ro_add R2 hp2, RR.slen, fun k d hd => by
      obtain ⟨u, e, z⟩ := RR.slot k d hd
      exact ⟨u, e, z.stp s3⟩⟩
    have h1 : SvR K (as ++ [p] ++ [p2]) (upd (upd H1 p (.lst vs)) p2 (.lst [])) (.ref p) (.o os1.length) := ⟨p, by rw [← R1.len]; simp, rfl⟩
    have h2 : SvR K (as ++ [p] ++ [p2]) (upd (upd H1 p (.lst vs)) p2 (.lst [])) (.ref p2) (.o (os1.length + 1)) := ⟨p2, by rw [← R1.len]; simp, rfl⟩
    exact n _ _ _ _ (sN.trans s3) ((R3.set i h1).set j h2) q
end
end Br

/-! BrSw: a new list of the store as data within an expression; == and != of lists wherever they stand. -/
namespace Br
open PySem PySem.Spec PyProof.Rows L2
section
variable {K : PySem.W.Frag} {X : Xc} {S : Sa} {os : Os} {Q : Sv → Os → Prop} {te : TE} {x y : Sv} {xs : List D}
theorem ew_ofR (h : EWS K X te S (RetOk S.os.length fun d os' => Q (.d d) os')) : EW K X te S Q := fun as H σ Q' R x k =>
  h as H σ Q' R x fun v bs H' y os' s R' r q => ret_back s R.o.len R' r q fun v H' d os' g R2 r2 q2 => k v H' (.d d) os' g R2 r2 q2
theorem bw_neL {ps : List PyData} (ex : lstS x os = some xs) (ey : lstS y os = some xs) (hp : D.pys xs = some ps) (sh : SeqAt.shaped (.list ps) = true) (q : Q (.d (.bl false)) os) : BW K (rNeD K) x y os Q :=
  bw_pure (fun as H v u Q' R rx ry k => by
    obtain ⟨a, ws, rfl, hs, hr⟩ := lst_rd R rx ex
    obtain ⟨b, us, rfl, hs2, hr2⟩ := lst_rd R ry ey
    have e : (!PyData.eqv (.list ps) (.list ps)) = false := by rw [SeqAt.eqv_refl _ (SeqAt.canLay_of_shaped sh)]; rfl
    exact ⟨.list ps, .list ps, .lst hs (DxA.dp1 xs _ ps hr hp), .lst hs2 (DxA.dp1 xs _ ps hr2 hp), sh, sh, by rw [e]; exact k _ (.bl _)⟩) q
end
section
variable {K : PySem.W.Frag} {X : Xc} {S : Sa} {wi : TI} {g : TG} {tt : TT} {te : TE}
theorem w_forS {E : Ea} {tb : TS} (h : IWs K X wi S fun ds C os => ∃ Pv : Nat → Sa → Prop, Pv 0 ⟨S.s, os⟩ ∧ (∀ i S', Pv i S' → C S'.os) ∧
      (∀ i d S', ds[i]? = some d → Pv i S' → GW K g (.d d) S' (W K X tb { nx := Pv (i + 1), ct := Pv (i + 1), bk := E.nx, rt := E.rt })) ∧ ∀ S', Pv ds.length S' → E.nx S') : W K X (tFor wi g tb) E S := fun as H σ D R x n r b c =>
  h as H σ _ R (x.h R) fun J H1 ds C os1 g1 R1 it ⟨Pv, p0, stay, turn, fin⟩ => by
    have s1 : Stp as H as H1 := Stp.of_go g1 R1
    refine ⟨fun i m σ H2 => m = ds.length - i ∧ i ≤ ds.length ∧ ∃ bs S', Stp as H1 bs H2 ∧ Re K bs H2 σ S' ∧ Pv i S', ⟨_, rfl, Nat.zero_le _, as, _, Stp.refl, R.go g1 R1, p0⟩, ?_⟩
    rintro i m σ2 H2 ⟨rfl, hi, bs, S2, s2, R2, p⟩
    by_cases hlt : i < ds.length
    · have hd : ds[i]? = some ds[i] := List.getElem?_eq_getElem hlt
      obtain ⟨hgo, hy⟩ := (it bs H2 S2.os s2 R2.o (stay _ _ p) i).1 _ hd
      refine .inr ⟨hgo, fun σ' H' => ∃ cs S', Stp as H1 cs H' ∧ Re K cs H' σ' S' ∧ Pv (i + 1) S', fun σ' H' z => ⟨ds.length - (i + 1), by omega, rfl, hlt, z⟩, fun y H3 hyl => ?_⟩
      obtain ⟨g3, R3, r3⟩ := hy y H3 hyl
      have s3 : Stp bs H2 bs H3 := Stp.of_go g3 R3
      refine turn i _ S2 hd p bs H3 σ2 y _ (R2.go g3 R3) r3 fun σ4 S4 R4 w => ?_
      refine w bs H3 σ4 _ R4 ((x.stp s1).stp (s2.trans s3)) (fun cs H5 σ5 S5 s5 R5 q5 => ⟨cs, S5, (s2.trans s3).trans s5, R5, q5⟩) (fun cs H5 v d os5 s5 R5 r5 q5 => r cs H5 v d os5 (((s1.trans s2).trans s3).trans s5) R5 r5 q5)
        (fun cs H5 σ5 S5 s5 R5 q5 => n cs H5 σ5 S5 (((s1.trans s2).trans s3).trans s5) R5 q5) (fun cs H5 σ5 S5 s5 R5 q5 => ⟨cs, S5, (s2.trans s3).trans s5, R5, q5⟩)
    · have e : i = ds.length := by omega
      subst e
      exact .inl ⟨(it bs H2 S2.os s2 R2.o (stay _ _ p) _).2 (Nat.le_refl _), n bs H2 σ2 S2 (s1.trans s2) R2 (fin S2 p)⟩
theorem iws_listO {tl : TE} {Q : List D → (Os → Prop) → Os → Prop} (h : EW K X tl S fun x os => ∃ j ds, x = .o j ∧ os[j]? = some (.ml ds) ∧ Q ds (fun os => os[j]? = some (.ml ds)) os) : IWs K X (iList K tl) S Q := fun as H σ R' R x k =>
  h as H σ _ R x fun v H1 d os1 g1 R1 r1 ⟨j, ds, ed, eo, q⟩ => by
    subst ed
    obtain ⟨a, ea, rfl⟩ := r1
    obtain ⟨xs, h1, h2⟩ := R1.own j a _ ea eo
    refine ⟨a, rfl, ⟨xs, .inl (.inl h1)⟩, k (Itl K a) H1 ds _ os1 g1 R1 (fun bs H2 os s R2 eC i => ?_) q⟩
    obtain ⟨nw, eb, _⟩ := s.pre
    have eb2 : bs[j]? = some a := by rw [eb, List.getElem?_append_left (List.getElem?_eq_some_iff.mp ea).1]; exact ea
    obtain ⟨ys, h3, h4⟩ := R2.own j a _ eb2 eC
    have hs : SqL K H2 a ys := .inl (.inl h3)
    refine ⟨fun d hd => ?_, fun hn => ⟨ys, hs, by rw [h4.length]; exact hn⟩⟩
    obtain ⟨u, e1, e2⟩ := h4.get hd
    refine ⟨⟨ys, u, hs, e1⟩, fun y H3 hy => ?_⟩
    obtain ⟨rfl, hy⟩ := hy
    have z := hy ys hs
    rw [e1] at z
    cases z
    exact ⟨Go.refl _ _, R2, e2⟩
end
section
variable {K : PySem.W.Frag} {X : Xc} {S : Sa} {Q : Sv → Os → Prop} {ta : TA} {f : FS}
theorem ews_callS00 {Q : RS} (h : AW K X ta S fun ds os => f ds os Q fun _ _ _ => False) : EWS K X (tCallS (spS K f) (WE fun _ _ _ _ => False) ta) S Q := fun as H σ Q' R x k =>
  h as H σ _ R x fun vs H1 ds os1 g1 R1 r1 q1 => ⟨as, os1, ds, _, _, R1, r1, q1, fun v bs H2 d os2 s2 R2 r2 q2 => k v bs H2 d os2 ((Stp.of_go g1 R1).trans s2) R2 r2 q2,
    fun _ _ _ _ _ _ _ _ _ _ _ z => z.elim⟩
theorem ew_callNS0 {f : FD} {n m : Nat} {gV : List V → List V → List V} {gS : List Sv → List Sv → List Sv} {tl tk : TA} (hg : ∀ as H vs zs ds es, SvA K as H vs ds → SvA K as H zs es → SvA K as H (gV vs zs) (gS ds es))
    (h : AW K X tl S fun ds os => ds.length = n ∧ AW K X tk ⟨S.s, os⟩ fun es os2 => es.length = m ∧ f (gS ds es) os2 (fun d os' => Q (.d d) os') fun _ _ _ => False) : EW K X (tCallNS n m (spD K f) gV (WE fun _ _ _ _ => False) tl tk) S Q := fun as H σ Q' R x k =>
  h as H σ _ R x fun vs H1 ds os1 g1 R1 r1 ⟨l1, q1⟩ => q1 as H1 σ _ (R.go g1 R1) (x.go g1 R1) fun zs H2 es os2 g2 R2 r2 ⟨l2, q2⟩ =>
    ⟨by rw [r1.length]; exact l1, by rw [r2.length]; exact l2, as, os2, _, _, _, R2, hg _ _ _ _ _ _ (r1.go g2) r2, q2, fun v H3 d os3 g3 R3 r3 q3 => k v H3 (.d d) os3 ((g1.trans g2).trans g3) R3 r3 q3, fun _ _ _ _ _ _ _ _ _ _ _ z => z.elim⟩
/-- x, y = (), [], the list changes -/
theorem w_parTL {E : Ea} {i j : Nat} (h : E.nx ⟨(S.s.set i (some (.d (.tup [])))).set j (some (.o S.os.length)), S.os ++ [.ml []]⟩) : W K X (tPar i j (tCons (tTup tNil) (tCons (tLst tNil) tNil))) E S := fun as H σ D R x n r b c => by
  refine ⟨Nat.zero_le _, fun p hp => ⟨Nat.zero_le _, fun p2 hp2 => ⟨.ref p, .ref p2, rfl, ?_⟩⟩⟩
  have g1 : Go as H (upd H p (.tup [])) := Go.new hp
  have R1 : Ro K as (upd H p (.tup [])) S.os := R.o.new hp
  have s1 := Stp.of_go g1 R1
  have RR := R.go g1 R1
  have d1 : SvR K as (upd H p (.tup [])) (.ref p) (.d (.tup [])) := dx_newT R.o hp .nil
  have s3 : Stp as (upd H p (.tup [])) (as ++ [p2]) (upd (upd H p (.tup [])) p2 (.lst [])) := stp_add hp2
  have R3 : Re K (as ++ [p2]) (upd (upd H p (.tup [])) p2 (.lst [])) σ ⟨S.s, S.os ++ [.ml []]⟩ := ⟨ro_add R1 hp2, RR.slen, fun k d hd => by
    obtain ⟨u, e, z⟩ := RR.slot k d hd
    exact ⟨u, e, z.stp s3⟩⟩
  have h2 : SvR K (as ++ [p2]) (upd (upd H p (.tup [])) p2 (.lst [])) (.ref p2) (.o S.os.length) := ⟨p2, by rw [← R.o.len]; simp, rfl⟩
  exact n _ _ _ _ (s1.trans s3) ((R3.set i (d1.stp s3)).set j h2) h
end
end Br

/-! BrV: the head read by a Hook: defs, written tables with text keys, written tables with None among the keys. -/
namespace Br
open PySem PySem.Spec PyProof.Rows L2
theorem fun_D {K : PySem.W.Frag} {x qual : Str} {st : Stmt} {f : Addr} {fd : FuncData} (F : FunD K x qual (defArgs st) (defBody st) (defScope st) [] [] f fd) : Fun K x qual st f fd := by
  obtain ⟨oc, od, dV, kV, doc, pm, an, cdv, ct, osl, rfl, lk, hcd, hD, _⟩ := F.ex
  rcases hD with ⟨_, rfl⟩ | ⟨e, _⟩
  · exact fun_mk lk hcd F.kp
  · exact absurd rfl e
theorem walkGE {l : PySem.W.OpenLaw} {n k : Nat} {q : Program} {loose : List Str} {XP : (Str → Option Value) → Heap → Prop} {YP : World → Heap → Prop} {d : DefRec} {x : Str}
    (hn : l.most = some n) (hn2 : n ≤ sizeLine) (hdf : d.params.defaults = []) (room : Room k callerA)
    (F : ∀ (w : World) (mg : Str → Option Value) (fa : Addr) (h : Heap), YP w h → h.Ns mainGlobals mg → mg d.name = some (.ref fa) →
      ∃ (K : PySem.W.Frag) (fd : FuncData) (sp : Sp), K.In h ∧ (∀ (s : Shared) (u : Value), BindsTo s fd ⟨[u], []⟩ [(x, u)]) ∧
        (∀ (H : Hp) (a : Addr) (ns : List Int), ns.length ≤ n → SqL K H a (ns.map V.int) → sp [.ref a] H (fun v _ => v = .bl true) fun _ _ _ => False) ∧
        ∀ base : Heap, K.In base → base.Ns mainGlobals mg → FnG l.prog w K mg base k fa fd [x] sp) :
    PySem.W.WalkO q loose XP YP l.row.toRowW d [] (fun f vs => PySem.call f vs) := by
  refine Att.attach_call hn hdf ?_
  intro w s₀ s₁ mg mb fa o pm cd doc a vs ns G Y _ _ _ named obj nums len gens
  obtain ⟨K, fd, sp, inK, binds, promise, hF⟩ := F w mg fa _ Y G.T.g named
  exact called inK G.T.g G.T.b G.T.builtins G.T.nolimit gens obj nums (Nat.le_trans len hn2) room (fun base kb nb _ => hF base kb nb) binds fun H seq => promise H a ns len seq
/-! ### a written dict with None among its keys -/
def keyOfN (e : DictEntry) : Option (Option Str × Int) := match e.key with
  | .none => some (none, e.hash)
  | .str x _ => some (some x, e.hash)
  | _ => none
def keyInN (P : Params) : Option Str → Option (Option Str × Int)
  | none => some (none, reduceHash 0xFCA86420)
  | some x => some (some x, PyData.keyHash P x)
def dicN (K : PySem.W.Frag) (a : Addr) : Option (List (Option (Option Str × Int))) := match K.lookup a with
  | some ⟨.type c, none, .dict es _, sl⟩ => (match decide (c = "dict") && sl.isEmpty with
    | true => some (es.toList.map keyOfN)
    | false => none)
  | _ => none
def ndOk (K : PySem.W.Frag) (a : Addr) (tb : List (Option Str × D)) : Bool := match K.lookup a with
  | some ⟨_, _, .dict es _, _⟩ => keysOkN K es.toList tb
  | _ => false
theorem keysN_of {P : Params} : ∀ {l : List DictEntry} {ks : List (Option Str)}, l.map keyOfN = ks.map (keyInN P) → KeysN P l
  | [], _, _ => trivial
  | _ :: _, [], h => by cases h
  | e :: r, k :: ks, h => by
    have h1 : keyOfN e :: r.map keyOfN = keyInN P k :: ks.map (keyInN P) := h
    injection h1 with h2 h3
    refine ⟨?_, keysN_of h3⟩
    unfold keyOfN at h2
    cases ek : e.key with
    | none =>
      rw [ek] at h2
      cases k with
      | none => exact .inl ⟨rfl, (Prod.mk.inj (Option.some.inj h2)).2⟩
      | some x => exact nomatch (Prod.mk.inj (Option.some.inj h2)).1
    | str y t =>
      rw [ek] at h2
      cases k with
      | none => exact nomatch (Prod.mk.inj (Option.some.inj h2)).1
      | some x =>
        obtain ⟨h5, h6⟩ := Prod.mk.inj (Option.some.inj h2)
        cases h5
        exact .inr ⟨_, t, rfl, h6⟩
    | _ =>
      rw [ek] at h2
      cases k <;> cases h2
theorem dicN_ok {K : PySem.W.Frag} {w : World} {a : Addr} {tb : List (Option Str × D)} (h : dicN K a = some ((tb.map (·.1)).map (keyInN w.params))) (c : ndOk K a tb = true) : NDict K w a tb := by
  unfold dicN at h
  unfold ndOk at c
  cases q : K.lookup a with
  | none =>
    rw [q] at h
    cases h
  | some o =>
    obtain ⟨oc, od, dt, osl⟩ := o
    rw [q] at h c
    cases oc with
    | type y =>
      cases od with
      | none =>
        cases dt with
        | dict es n =>
          have h1 : (match decide (y = "dict") && osl.isEmpty with
            | true => some (es.toList.map keyOfN)
            | false => none) = some ((tb.map (·.1)).map (keyInN w.params)) := h
          cases z : decide (y = "dict") && osl.isEmpty with
          | false =>
            rw [z] at h1
            cases h1
          | true =>
            rw [z] at h1
            obtain ⟨z1, z2⟩ := He.ba z
            have e1 : y = "dict" := of_decide_eq_true z1
            have e2 : osl = #[] := Array.isEmpty_iff.mp z2
            subst e1 e2
            exact ⟨⟨es, n, q, keysN_of (Option.some.inj h1), c⟩⟩
        | _ => cases h
      | some b => cases dt <;> cases h
    | _ => cases od <;> cases dt <;> cases h
/-! ### the Hook -/
abbrev TabD : Type := Str × List (Str × D)
abbrev TabN : Type := Str × List (Option Str × D)
def tabT (t : TabD) : He.Tab := (fun K => He.ga K t.1, t.2.map (·.1))
def sysB (K : PySem.W.Frag) : Bool := match K.lookup sysModules with
  | some ⟨.type c, _, _, _⟩ => !decide (c = "list")
  | _ => false
theorem sysB_ok {K : PySem.W.Frag} (h : sysB K = true) : SysOk K := by
  unfold sysB at h
  cases q : K.lookup sysModules with
  | none =>
    rw [q] at h
    cases h
  | some o =>
    obtain ⟨oc, od, dt, osl⟩ := o
    rw [q] at h
    cases oc with
    | type c =>
      have h1 : (!decide (c = "list")) = true := h
      refine ⟨_, q, fun e => ?_⟩
      have e2 : c = "list" := Value.type.inj e
      rw [e2] at h1
      exact absurd h1 (by decide)
    | _ => cases h
abbrev AlM : Type := He.AlT × (Bool × List (Option (List (Option (Option Str × Int)))))
def obsM (fa : List He.Fa) (fn : List He.DefD) (ts : List TabD) (ns : List TabN) (K : PySem.W.Frag) : AlM :=
  (He.obsT fa fn (ts.map tabT) K, (sysB K && ((ts.all fun t => kdOk K (He.ga K t.1) t.2) && ns.all fun t => ndOk K (He.ga K t.1) t.2), ns.map fun t => dicN K (He.ga K t.1)))
def valM (fn : List He.DefD) (ts : List TabD) (ns : List TabN) (w : World) : AlM := (He.valT fn (ts.map tabT) w, (true, ns.map fun t => some ((t.2.map (·.1)).map (keyInN w.params))))
def frM (n : Nat) (g : Addr → Option Obj) : PySem.W.Frag := He.frG g (sysModules :: He.asD g n)
def obsMG (n : Nat) (fa : List He.Fa) (fn : List He.DefD) (ts : List TabD) (ns : List TabN) (g : Addr → Option Obj) : AlM := obsM fa fn ts ns (frM n g)
def SaysM (fa : List He.Fa) (fn : List He.DefD) (ts : List TabD) (ns : List TabN) (w : World) (K : PySem.W.Frag) : Prop := obsM fa fn ts ns K = valM fn ts ns w
def hookM (n : Nat) (fa : List He.Fa) (fn : List He.DefD) (ts : List TabD) (ns : List TabN) : PySem.W.Hook where
  α := AlM
  obs := fun s => obsMG n fa fn ts ns s.heap.get?
  val := fun w => valM fn ts ns w
  says := fun w h => ∃ K : PySem.W.Frag, K.In h ∧ SaysM fa fn ts ns w K
  of := fun _ _ e => ⟨_, He.frG_in, e⟩
  keeps := fun _ _ _ ⟨K, hK, c⟩ k => ⟨K, PySem.W.Frag.In.keeps hK k, c⟩
theorem obsMG_eq {n : Nat} {fa : List He.Fa} {fn : List He.DefD} {ts : List TabD} {ns : List TabN} {g : Addr → Option Obj} {s : Shared} (h : ∀ a, g a = s.heap.get? a) : obsMG n fa fn ts ns g = (hookM n fa fn ts ns).obs s := by
  have e : g = s.heap.get? := funext h
  rw [e] <;> rfl
section
variable {fa : List He.Fa} {fn : List He.DefD} {ts : List TabD} {ns : List TabN} {w : World} {K : PySem.W.Frag}
theorem SaysM.t (c : SaysM fa fn ts ns w K) : He.SaysT fa fn (ts.map tabT) w K := congrArg (fun z : AlM => z.1) c
theorem SaysM.d (c : SaysM fa fn ts ns w K) : He.SaysD fa fn K := c.t.d
theorem SaysM.b (c : SaysM fa fn ts ns w K) : (sysB K && ((ts.all fun t => kdOk K (He.ga K t.1) t.2) && ns.all fun t => ndOk K (He.ga K t.1) t.2)) = true := congrArg (fun z : AlM => z.2.1) c
theorem SaysM.sys (c : SaysM fa fn ts ns w K) : SysOk K := sysB_ok (He.ba c.b).1
theorem SaysM.tab (c : SaysM fa fn ts ns w K) (i : Nat) {t : TabD} (h : ts[i]? = some t := by rfl) : ∃ es n, KDict K w (He.ga K t.1) es n :=
  He.SaysT.tab c.t i (t := tabT t) (by rw [List.getElem?_map, h]; rfl)
theorem SaysM.kd (c : SaysM fa fn ts ns w K) (i : Nat) {t : TabD} (h : ts[i]? = some t := by rfl) : kdOk K (He.ga K t.1) t.2 = true :=
  List.all_eq_true.mp (He.ba (He.ba c.b).2).1 t (List.mem_of_getElem? h)
theorem SaysM.nd (c : SaysM fa fn ts ns w K) (i : Nat) {t : TabN} (h : ns[i]? = some t := by rfl) : NDict K w (He.ga K t.1) t.2 := by
  have e : ns.map (fun t => dicN K (He.ga K t.1)) = ns.map fun t => some ((t.2.map (·.1)).map (keyInN w.params)) := congrArg (fun z : AlM => z.2.2) c
  have e2 : (ns.map fun t => dicN K (He.ga K t.1))[i]? = (ns.map fun t => some ((t.2.map (·.1)).map (keyInN w.params)))[i]? := by rw [e]
  rw [List.getElem?_map, List.getElem?_map, h] at e2
  exact dicN_ok (Option.some.inj e2) (List.all_eq_true.mp (He.ba (He.ba c.b).2).2 t (List.mem_of_getElem? h))
end
end Br

/-! BrS: small trees run at the top, behind any continuation; a dict with None and texts as keys filled. -/
namespace BrTop
open PySem PySem.W PySem.Calls PyProof.Rows
/-- the place of such a run: the program, the world, the top's own code and frame -/
structure At where
  P : Program
  w : World
  n0 : Nat
  ann : Option Value
  c0 : Code
  B0 : Frame
  hB : splitAtGen [B0] = none
  ok : ∀ (cur : Sem Fin) (pos : Pos), (match cur with
    | .load .. | .rule .. | .at .. => true
    | .update a _ _ _ => Nat.ble n0 a
    | _ => false) = true → stepOk n0 ann ⟨cur, c0, pos, [B0]⟩ = true
variable {A : At}
abbrev TR (A : At) (N : Nat) (s : Shared) (t : Thread) : Option Shared := topRun treeTable A.P A.w A.n0 A.ann N s t
def Goes (A : At) (m : Nat) {α : Type} (x : Sem α) (s : SharedT) (a : α) (s' : SharedT) : Prop :=
  ∀ (K : α → Sem Fin) (H : Value → Sem Fin) (gd : Bool → Bool) (lv : List Value → List Value) (pos : Pos), ∃ pos' : Pos, ∀ (N : Nat) (r : Shared), TR A N s'.abs ⟨K a, A.c0, pos', [A.B0]⟩ = some r →
    TR A (m + N) s.abs ⟨x.wrap K H gd lv, A.c0, pos, [A.B0]⟩ = some r
theorem top_step {N : Nat} {s s1 : SharedT} {t t1 : Thread} {r : Shared} (h : stepT (denote treeTable) A.P A.w s t = some (s1, t1)) (ok : stepOk A.n0 A.ann t = true) (th : through t = false) (k : TR A N s1.abs t1 = some r) : TR A (N + 1) s.abs t = some r := by
  show topRun _ _ _ _ _ (N + 1) _ _ = _
  unfold topRun
  rw [th, ok, stepT_spec h]
  exact k
theorem Goes.pure {α : Type} {a : α} {s : SharedT} : Goes A 0 (Pure.pure a : Sem α) s a s := fun K H gd lv pos => ⟨pos, fun N r h => by rw [Nat.zero_add]; exact h⟩
theorem Goes.more {α : Type} {m m' : Nat} {x : Sem α} {s s' : SharedT} {a : α} (h : Goes A m x s a s') (le : m ≤ m') : Goes A m' x s a s' := fun K H gd lv pos => by
  obtain ⟨p, q⟩ := h K H gd lv pos
  refine ⟨p, fun N r z => ?_⟩
  have y := topRun_mono (m' - m) _ _ _ _ (q N r z)
  rw [show m + N + (m' - m) = m' + N by omega] at y
  exact y
theorem Goes.bind {α β : Type} {x : Sem α} {f : α → Sem β} {s s1 s2 : SharedT} {a : α} {b : β} {m1 m2 : Nat} (hx : Goes A m1 x s a s1) (hf : Goes A m2 (f a) s1 b s2) : Goes A (m1 + m2) (x >>= f) s b s2 := fun K H gd lv pos => by
  obtain ⟨p1, h1⟩ := hx (fun a => (f a).wrap K H gd lv) H gd lv pos
  obtain ⟨p2, h2⟩ := hf K H gd lv p1
  refine ⟨p2, fun N r h => ?_⟩
  have e : (x >>= f).wrap K H gd lv = x.wrap (fun a => (f a).wrap K H gd lv) H gd lv := by
    rw [Sem.bind_eq_wrap', Sem.wrap_wrap]
    rfl
  rw [e, Nat.add_assoc]
  exact h1 _ _ (h2 _ _ h)
theorem Goes.keep {α : Type} {m : Nat} {x : Sem α} {vs : List Value} {s s' : SharedT} {a : α} (hx : Goes A m x s a s') : Goes A m (x.keep vs) s a s' := fun K H gd lv pos => by
  obtain ⟨p, h⟩ := hx K H gd (fun l => lv (vs ++ l)) pos
  refine ⟨p, fun N r q => ?_⟩
  have e : (x.keep vs).wrap K H gd lv = x.wrap K H gd (fun l => lv (vs ++ l)) := by
    rw [Sem.keep_eq_wrap, Sem.wrap_wrap]
    rfl
  rw [e]
  exact h _ _ q
theorem Goes.holding {α : Type} {m : Nat} {x : Sem α} {vs : List Value} {s s' : SharedT} {a : α} (hx : Goes A m x s a s') : Goes A m (PySem.holding vs x) s a s' := by
  unfold PySem.holding
  split
  · exact hx
  · exact hx.keep
theorem Goes.rule {tag : String} {s : SharedT} : Goes A 1 (PySem.rule tag) s () s := fun K H gd lv pos => ⟨pos, fun N r h => by
  rw [Nat.add_comm]
  exact top_step (s1 := s) (by cases s; rfl) (A.ok _ _ rfl) rfl h⟩
theorem Goes.load {a : Addr} {part : Option Value} {s : SharedT} {o : Obj} (lt : Nat.blt a s.n = true) (g : s.tree.get a = some o) (al : alive o = some o) : Goes A 1 (loadPart a part) s o s := fun K H gd lv pos => ⟨pos, fun N r h => by
  rw [Nat.add_comm]
  refine top_step (s1 := s) ?_ (A.ok _ _ rfl) rfl h
  obtain ⟨T, n, life, gens, drawn, toks, os⟩ := s
  show stepT _ _ _ ⟨T, n, life, gens, drawn, toks, os⟩ ⟨.load a part fun x => (Sem.pure x).wrap K H gd lv, _, _, _⟩ = _
  unfold stepT
  dsimp only at lt g ⊢
  rw [lt, g]
  dsimp only
  rw [al]
  rfl⟩
def setT (s : SharedT) (a : Addr) (f : Obj → Obj) : SharedT := { s with tree := s.tree.set a f }
theorem Goes.update {a : Addr} {part : Option Value} {f : Obj → Obj} {s : SharedT} {o : Obj} (lt : Nat.blt a s.n = true) (g : s.tree.get a = some o) (al : alive o = some o) (hn : Nat.ble A.n0 a = true) : Goes A 1 (updatePart a part f) s () (setT s a f) := fun K H gd lv pos => ⟨pos, fun N r h => by
  rw [Nat.add_comm]
  refine top_step (s1 := setT s a f) ?_ (A.ok _ _ hn) rfl h
  obtain ⟨T, n, life, gens, drawn, toks, os⟩ := s
  show stepT _ _ _ ⟨T, n, life, gens, drawn, toks, os⟩ ⟨.update a part f fun x => (Sem.pure x).wrap K H gd lv, _, _, _⟩ = _
  unfold stepT
  dsimp only at lt g ⊢
  rw [lt, g]
  dsimp only
  rw [al]
  rfl⟩
/-- a piece that was run, behind any continuation -/
theorem Goes.of_seg {α : Type} {x : Sem α} {s s' : SharedT} {a : α} {n : Nat} (res : α → Flow) (fl : Flow)
    (hr : ∀ (gd : Bool → Bool) (lv : List Value → List Value) (pos : Pos), ∃ p', segRunT treeTable A.P A.w A.n0 A.ann 1 n s ⟨x.wrap (fun a => .pure (.done (res a))) deadEnd gd lv, A.c0, pos, [A.B0]⟩ = some (fl, s', A.c0, p'))
    (inj : ∀ b, res b = fl → b = a) : Goes A n x s a s' := fun K H gd lv pos => by
  obtain ⟨p', e⟩ := hr gd lv pos
  obtain ⟨b, eb, h⟩ := seg_top (B := [A.B0]) (K' := K) (H' := H) (gd := gd) (lv := lv) (res := res) A.hB n s.abs ⟨x.wrap (fun a => .pure (.done (res a))) deadEnd gd lv, A.c0, pos, [A.B0]⟩ ⟨x.wrap K H gd lv, A.c0, pos, [A.B0]⟩ fl s'.abs A.c0 p' ⟨rfl, rfl, .inl ⟨rfl, rfl, _, rfl, rfl⟩⟩ (segRun_of e)
  rw [inj b eb] at h
  exact ⟨p', h⟩
end BrTop

namespace BrTop
open PySem PySem.W PySem.Calls PyProof.Rows
variable {A : At} {s : SharedT} {d : Addr} {c : Value} {dd : Option Addr} {es : Array DictEntry} {ep : Nat} {sl : Array (Option Value)}
theorem Goes.entries {part : Option Value} (lt : Nat.blt d s.n = true) (g : s.tree.get d = some ⟨c, dd, .dict es ep, sl⟩) : Goes A 1 (dictEntries d part) s es s := by
  show Goes A (1 + 0) _ _ _ _
  unfold dictEntries
  exact Goes.bind (Goes.load lt g rfl) Goes.pure
theorem Goes.epoch {part : Option Value} (lt : Nat.blt d s.n = true) (g : s.tree.get d = some ⟨c, dd, .dict es ep, sl⟩) : Goes A 1 (dictEpoch d part) s ep s := by
  show Goes A (1 + 0) _ _ _ _
  unfold dictEpoch
  exact Goes.bind (Goes.load lt g rfl) Goes.pure
theorem Goes.forIn {β γ : Type} {k : Nat} {b : β} {f : γ → β → Sem (ForInStep β)} {l : List γ} (h : ∀ x ∈ l, Goes A k (f x b) s (.yield b) s) : Goes A (l.length * k) (ForIn.forIn l b f) s b s := by
  induction l with
  | nil => exact Goes.pure.more (Nat.zero_le _)
  | cons x r ih =>
    rw [List.forIn_cons]
    refine (Goes.bind (h x (List.mem_cons_self ..)) (ih fun y hy => h y (List.mem_cons_of_mem _ hy))).more ?_
    rw [List.length_cons, Nat.succ_mul, Nat.add_comm]
    exact Nat.le_refl _
theorem Goes.walk {m : Nat} {key : Value} {h : Int} (lt : Nat.blt d s.n = true) (g : s.tree.get d = some ⟨c, dd, .dict es ep, sl⟩) (ne : ∀ (i : Nat) (en : DictEntry), es[i]? = some en → Goes A m (eqBool en.key key) s false s) (places : List Nat) : Goes A (places.length * (m + 3)) (dictWalkPlain d key h es places) s none s := by
  unfold dictWalkPlain
  show Goes A (places.length * (m + 3) + 0) _ _ _ _
  refine Goes.bind (a := ⟨none, PUnit.unit⟩) (m1 := places.length * (m + 3)) (m2 := 0) (Goes.forIn (k := m + 3) fun i _ => ?_) Goes.pure
  cases e : es[i]? with
  | none => exact Goes.pure.more (Nat.zero_le _)
  | some en =>
    dsimp only
    split
    · refine (Goes.bind (m2 := m + 2) (Goes.epoch lt g) (Goes.bind (m2 := 2) (ne i en e) (Goes.bind (m2 := 1) (Goes.epoch lt g) ?_))).more (by omega)
      rw [show (ep != ep) = false by simp]
      exact Goes.bind (m2 := 0) Goes.rule Goes.pure
    · exact Goes.pure.more (Nat.zero_le _)
theorem Goes.find {m : Nat} {x : Str} {t : Tok} {h : Int} (lt : Nat.blt d s.n = true) (g : s.tree.get d = some ⟨c, dd, .dict es ep, sl⟩) (mixed : (es.all fun e => isExactStrKey e.key) = false) (byv : ∀ e ∈ es, carriedByValue e.key = true)
    (ne : ∀ (i : Nat) (en : DictEntry), es[i]? = some en → Goes A m (eqBool en.key (.str x t)) s false s) : Goes A (1 + es.size * (m + 3)) (dictFind d (.str x t) h) s none s := by
  unfold dictFind
  refine Goes.holding (Goes.bind (Goes.entries lt g) ?_)
  dsimp only
  rw [mixed]
  have e : ∀ places : List Nat, ((Value.str x t :: places.filterMap fun i => es[i]?.map (·.key)).all carriedByValue) = true := by
    intro places
    rw [List.all_eq_true]
    intro v hv
    rcases List.mem_cons.mp hv with rfl | hv
    · rfl
    · obtain ⟨i, _, q⟩ := List.mem_filterMap.mp hv
      cases e1 : es[i]? with
      | none =>
        rw [e1] at q
        cases q
      | some en =>
        rw [e1] at q
        cases q
        exact byv en (Array.mem_of_getElem? e1)
  simp only [Bool.false_eq_true, if_false]
  rw [if_pos (e _)]
  refine (Goes.walk lt g ne _).more (Nat.mul_le_mul_right _ ?_)
  exact Nat.le_trans (List.length_filter_le _ _) (by rw [List.length_range]; exact Nat.le_refl _)
theorem Goes.putKeys {part : Option Value} {f : Array DictEntry → Array DictEntry} (lt : Nat.blt d s.n = true) (g : s.tree.get d = some ⟨c, dd, .dict es ep, sl⟩) (hn : Nat.ble A.n0 d = true) (sz : (f es).size ≤ sizeLine + 1) :
    Goes A 3 (updateDictKeys d f part) s () (setT s d (Obj.mapDictKeys f)) := by
  have g2 : (setT s d (Obj.mapDictKeys f)).tree.get d = some ⟨c, dd, .dict (f es) (ep + 1), sl⟩ := by
    show (s.tree.set d _).get d = _
    rw [BT.get_set, if_pos rfl, g]
    rfl
  unfold updateDictKeys
  refine Goes.bind (m2 := 2) (Goes.load lt g rfl) ?_
  dsimp only
  refine Goes.bind (m2 := 1) (Goes.update lt g rfl hn) ?_
  unfold lookBehind
  refine Goes.bind (m2 := 0) (Goes.load lt g2 rfl) ?_
  dsimp only
  rw [pastItsLine_dict sz]
  exact Goes.pure
def kv (h : Int) (k v : Value) : Obj → Obj := Obj.mapDictKeys (·.push ⟨h, k, v⟩)
theorem Goes.set {m mh : Nat} {x : Str} {t : Tok} {v : Value} {h : Int} {s0 : SharedT} (lt : Nat.blt d s.n = true) (g : s.tree.get d = some ⟨c, dd, .dict es ep, sl⟩) (hn : Nat.ble A.n0 d = true) (sz : es.size ≤ 100) (mixed : (es.all fun e => isExactStrKey e.key) = false) (byv : ∀ e ∈ es, carriedByValue e.key = true)
    (ne : ∀ en ∈ es, Goes A m (eqBool en.key (.str x t)) s false s) (hh : Goes A mh (pyHash (.str x t)) s0 h s) : Goes A (mh + ((1 + es.size * (m + 3)) + 4)) (dictSet d (.str x t) v) s0 () (setT s d (kv h (.str x t) v)) := by
  unfold dictSet
  refine Goes.holding (Goes.bind hh ?_)
  unfold dictSetHashed
  refine Goes.holding (Goes.bind (Goes.find lt g mixed byv fun i en q => ne en (Array.mem_of_getElem? q)) ?_)
  dsimp only
  refine Goes.bind (m2 := 3) Goes.rule (Goes.putKeys lt g hn ?_)
  rw [Array.size_push]
  exact Nat.le_trans (Nat.succ_le_succ sz) (by decide)
theorem Goes.setN {mh : Nat} {v : Value} {h : Int} {s0 : SharedT} (lt : Nat.blt d s.n = true) (g : s.tree.get d = some ⟨c, dd, .dict #[] ep, sl⟩) (hn : Nat.ble A.n0 d = true) (hh : Goes A mh (pyHash .none) s0 h s) : Goes A (mh + 5) (dictSet d .none v) s0 () (setT s d (kv h .none v)) := by
  unfold dictSet
  refine Goes.holding (Goes.bind (m2 := 5) hh ?_)
  unfold dictSetHashed
  refine Goes.holding (Goes.bind (a := none) (m1 := 1) (m2 := 4) (s1 := s) ?_ ?_)
  · unfold dictFind
    exact Goes.holding (Goes.bind (m2 := 0) (Goes.entries lt g) Goes.pure)
  · dsimp only
    exact Goes.bind (m2 := 3) Goes.rule (Goes.putKeys lt g hn (show 1 ≤ sizeLine + 1 from Nat.le_add_left 1 sizeLine))
theorem get_kv {h : Int} {k v : Value} (g : s.tree.get d = some ⟨c, dd, .dict es ep, sl⟩) : (setT s d (kv h k v)).tree.get d = some ⟨c, dd, .dict (es.push ⟨h, k, v⟩) (ep + 1), sl⟩ := by
  show (s.tree.set d _).get d = _
  rw [BT.get_set, if_pos rfl, g]
  rfl
theorem push_all {R : DictEntry → Prop} {e : DictEntry} (h1 : ∀ en ∈ es, R en) (h2 : R e) : ∀ en ∈ es.push e, R en := fun en m => by
  rcases Array.mem_push.mp m with z | z
  · exact h1 en z
  · rw [z]
    exact h2
theorem push_mixed {f : DictEntry → Bool} {e : DictEntry} (h : es.all f = false) : (es.push e).all f = false := by
  rw [Array.all_push, h]
  rfl
end BrTop

namespace BrTop
open PySem PySem.W PySem.Calls PyProof.Rows HandSHeadRun
theorem left_top {p q : Program} {loose : List PySem.Str} {Xt : Shared → Bool} {α : Type} {Yf : Shared → α} {Ya : World → α} {N M : Nat}
    (e : opening p = plainProg p.main.scope.names) (hN : Nat.ble 600 N = true) (f : ∀ s, fenceModules? p s = some s) (le : Nat.ble M N = true)
    (run : ∀ (w : World) (os : OsState), ∃ s : SharedT, topRun treeTable p w (boot_heap w.params).objs.size (bootAnn w) M ⟨boot_heap w.params, #[], boot_drawn, boot_toks, os⟩ (topStub p) = some s.abs ∧
      (looksF p (boot_heap w.params) s.abs, openSeen q loose (importedModules p.main.body) Xt true s.abs, Yf s.abs) = (true, openGood q loose, Ya w)) : LeftO p q loose Xt Yf Ya N true := fun w => by
  obtain ⟨⟨h, gs, d, k, os⟩, a, a'⟩ := Option.map_eq_some_iff.mp (boot_open e hN f w)
  obtain ⟨rfl, rfl, rfl, rfl⟩ : h = boot_heap w.params ∧ gs = Array.mk [] ∧ d = boot_drawn ∧ k = boot_toks := by simpa using a'
  obtain ⟨s, hs, hv⟩ := run w os
  obtain ⟨l1, l2, l3⟩ : _ ∧ _ ∧ _ := by simpa only [Prod.mk.injEq] using hv
  have r := topRun_mono (N - M) _ _ _ _ hs
  rw [show M + (N - M) = N by have := Nat.le_of_ble_eq_true le; omega] at r
  have l1' : (staticsOk (importedModules p.main.body) (boot_heap w.params) s.abs.heap && namesBound p s.abs.heap && gensDone s.abs && laidKept (boot_heap w.params) s.abs.heap) = true := l1
  have t : topFrom treeTable p w N ⟨boot_heap w.params, Array.mk [], boot_drawn, boot_toks, os⟩ = some s.abs := by
    unfold topFrom
    dsimp only
    rw [boot_ns]
    show (topRun treeTable p w (boot_heap w.params).objs.size (bootAnn w) N ⟨boot_heap w.params, #[], boot_drawn, boot_toks, os⟩ (topStub p)).bind _ = _
    rw [r]
    show (match staticsOk (importedModules p.main.body) (boot_heap w.params) s.abs.heap && namesBound p s.abs.heap && gensDone s.abs && laidKept (boot_heap w.params) s.abs.heap with | true => some s.abs | false => none) = _
    rw [l1']
  unfold openEnds
  rw [a]
  show (topFrom treeTable p w N _).map _ = _
  rw [t]
  exact congrArg some (Prod.ext l2 l3)
/-! ### runs of pieces, by any stepper -/
section
variable (st : SharedT → Thread → Option (SharedT × Thread)) (n0 : Nat) (ann : Option Value)
def goK : Nat → SharedT → Thread → Option (SharedT × Thread)
  | 0, s, t => some (s, t)
  | m + 1, s, t => match through t with
    | true => none
    | false => match stepOk n0 ann t with
      | false => none
      | true => match st s t with
        | some (s', t') => goK m s' t'
        | none => none
def segF (b : Nat) : Nat → SharedT → Thread → Option (Flow × SharedT × Code × Pos)
  | 0, _, _ => none
  | n + 1, s, t => match endAt b t with
    | some f => some (f, s, t.code, t.pos)
    | none => match stepOk n0 ann t with
      | false => none
      | true => match st s t with
        | some (s', t') => frS s' fun s' => segF b n s' t'
        | none => none
end
theorem segF_of {tb : String → Option Builtin} {p : Program} {w : World} {n0 : Nat} {ann : Option Value} {b : Nat} : ∀ {n : Nat} {s : SharedT} {t : Thread}, segF (stepT (denote tb) p w) n0 ann b n s t = segRunT tb p w n0 ann b n s t
  | 0, _, _ => rfl
  | n + 1, s, t => by
    unfold segF segRunT
    cases endAt b t with
    | some f => rfl
    | none =>
      cases stepOk n0 ann t with
      | false => rfl
      | true =>
        dsimp only
        cases stepT (denote tb) p w s t with
        | none => rfl
        | some r =>
          obtain ⟨s', t'⟩ := r
          dsimp only
          rw [frS_eq]
          exact segF_of
theorem st_eq {p : Program} {w : World} : stepT (denote treeTable) p w = stepQ (denQ tabQ) p w := by
  rw [← stepQ_eq, ← denQ_eq, ← tabQ_eq]
theorem goK_top {p : Program} {w : World} {n0 : Nat} {ann : Option Value} : ∀ {m N : Nat} {s s' : SharedT} {t t' : Thread} {r : Shared}, goK (stepT (denote treeTable) p w) n0 ann m s t = some (s', t') →
    topRun treeTable p w n0 ann N s'.abs t' = some r → topRun treeTable p w n0 ann (m + N) s.abs t = some r
  | 0, N, s, s', t, t', r, h, k => by
    have e : (s, t) = (s', t') := Option.some.inj h
    cases e
    rw [Nat.zero_add]
    exact k
  | m + 1, N, s, s', t, t', r, h, k => by
    have h1 : (match through t with
      | true => none
      | false => match stepOk n0 ann t with
        | false => none
        | true => match stepT (denote treeTable) p w s t with
          | some (s', t') => goK (stepT (denote treeTable) p w) n0 ann m s' t'
          | none => none) = some (s', t') := h
    rw [show m + 1 + N = (m + N) + 1 by omega]
    unfold topRun
    cases ht : through t with
    | true =>
      rw [ht] at h1
      cases h1
    | false =>
      rw [ht] at h1
      cases hk : stepOk n0 ann t with
      | false =>
        rw [hk] at h1
        cases h1
      | true =>
        rw [hk] at h1
        dsimp only at h1 ⊢
        cases hs : stepT (denote treeTable) p w s t with
        | none =>
          rw [hs] at h1
          cases h1
        | some r2 =>
          obtain ⟨s2, t2⟩ := r2
          rw [hs] at h1
          rw [stepT_spec hs]
          exact goK_top h1 k
/-- what a run leaves -/
def fst3 (d : SharedT) : Option (Flow × SharedT × Code × Pos) → SharedT
  | some (_, s, _, _) => s
  | none => d
theorem fst3_ok {d : SharedT} {o : Option (Flow × SharedT × Code × Pos)} {f : Flow} {c : Code} {p : Pos} (h : o.map (fun r => (r.1, r.2.2.1, r.2.2.2)) = some (f, c, p)) : o = some (f, fst3 d o, c, p) := by
  cases o with
  | none => cases h
  | some r =>
    obtain ⟨f', s, c', p'⟩ := r
    cases h
    rfl
theorem fst3_ex {d : SharedT} {o : Option (Flow × SharedT × Code × Pos)} {f : Flow} {c : Code} (h : o.map (fun r => (r.1, r.2.2.1)) = some (f, c)) : ∃ p, o = some (f, fst3 d o, c, p) := by
  cases o with
  | none => cases h
  | some r =>
    obtain ⟨f', s, c', p'⟩ := r
    cases h
    exact ⟨p', rfl⟩
def fst2 (d : SharedT) : Option (SharedT × Thread) → SharedT
  | some (s, _) => s
  | none => d
theorem fst2_ok {d : SharedT} {o : Option (SharedT × Thread)} {t : Thread} (h : o.map (·.2) = some t) : o = some (fst2 d o, t) := by
  cases o with
  | none => cases h
  | some r =>
    obtain ⟨s, t'⟩ := r
    cases h
    rfl
theorem Goes.stand {A : At} {pos : Pos} {s : SharedT} : Goes A 1 (standAt pos) s () s := fun K H gd lv p => ⟨pos, fun N r h => by
  rw [Nat.add_comm]
  exact top_step (s1 := s) (by cases s; rfl) (A.ok _ _ rfl) rfl h⟩
theorem ok_all {n0 : Nat} {ann : Option Value} {c0 : Code} {B0 : Frame} (cur : Sem Fin) (pos : Pos) (h : (match cur with
    | .load .. | .rule .. | .at .. => true
    | .update a _ _ _ => Nat.ble n0 a
    | _ => false) = true) : stepOk n0 ann ⟨cur, c0, pos, [B0]⟩ = true := by
  cases cur with
  | update a q f k =>
    have h1 : Nat.ble n0 a = true := h
    show (true && (Nat.ble n0 a || a == mainNs || a == cStatics || ann == some (.ref a))) = true
    rw [h1]
    rfl
  | load => rfl
  | rule => rfl
  | «at» => rfl
  | _ => cases h
end BrTop

/-! BrGT: the law's own def, with its table of code objects and the module table's place. -/
namespace Br
open PySem PySem.Spec PyProof.Rows L2
theorem calledT {P : Program} {w : World} {K : PySem.W.Frag} {mg mb : Str → Option Value} {k : Nat} {fa a ct PT : Addr} {fd : FuncData} {x : Str} {sp : Sp} {s : Shared} {vs : List Value} {ns : List Int}
    (inK : K.In s.heap) (gl : s.heap.Ns mainGlobals mg) (bl : s.heap.Ns builtinsNs mb) (blb : ∀ y : Str, y ≠ "__name__" → mb y = bootBuiltins y) (lim : s.heap.NoLimit) (gens : s.gens = #[])
    (at_P : s.heap.get? PT = some { cls := .none, data := .fields #[] }) (notP : K.lookup PT = none) (hd : PySem.W.codeHdIn K ct PT = true)
    (mods : ∃ (bm : Addr) (ob : Obj), mg "__builtins__" = some (.ref bm) ∧ bm ≠ builtinsNs ∧ s.heap.get? bm = some ob ∧ ob.cls = .type "module" ∧ ob.dict = some builtinsNs ∧ ob.data = .plain)
    (at_a : s.heap.get? a = some { cls := .type "list", data := .seq vs.toArray }) (nums : IntsAre vs ns) (short : ns.length ≤ sizeLine) (room : Room k callerA)
    (F : ∀ base : Heap, K.In base → base.Ns mainGlobals mg → (∀ b o, s.heap.get? b = some o → o.cls ≠ .type "list" → b ≠ PT → base.get? b = some o) → LamX.TabB base mg ct PT → FnG P w K mg base k fa fd [x] sp) (binds : ∀ (s : Shared) (u : Value), BindsTo s fd ⟨[u], []⟩ [(x, u)])
    (promise : ∀ H : Hp, H PT = some (.tbl #[]) → SqL K H a (ns.map V.int) → sp [.ref a] H (fun v _ => v = .bl true) fun _ _ _ => False) :
    codeAny (model P w) callerA (.call (.ref fa) ⟨[.ref a], []⟩) (fun r s' => r = .ok (.ret (.bool true)) ∧ OldK s.heap s'.heap ∧ s'.os = s.os ∧ AllBare s'.gens) s := by
  have lenV := nums.length
  have vals := vals_ints nums
  have aP : a ≠ PT := fun z => by
    rw [z, at_P] at at_a
    cases at_a
  have Pa : PT ≠ a := Ne.symm aP
  -- what is tracked: the table, and the script, unless it is written
  obtain ⟨H, only, tabH, seq, ok, fresh⟩ : ∃ H : Hp, (∀ b, H b = none ∨ (b = a ∧ H b = some (.frz { cls := .type "list", data := .seq vs.toArray } (.lst (ns.map V.int)))) ∨ (b = PT ∧ H b = some (.tbl #[]))) ∧ H PT = some (.tbl #[]) ∧ SqL K H a (ns.map V.int) ∧ HOk P w H s.heap ∧ (H a ≠ none → K.lookup a = none) := by
    cases hk : K.lookup a with
    | some o =>
      have e := inK a o hk
      rw [at_a] at e
      cases e
      have look : ∀ b, (if b = PT then some (HO.tbl #[]) else none) = none ∨ (b = PT ∧ (if b = PT then some (HO.tbl #[]) else none) = some (.tbl #[])) := fun b => by
        by_cases e : b = PT
        · exact .inr ⟨e, if_pos e⟩
        · exact .inl (if_neg e)
      refine ⟨fun b => if b = PT then some (.tbl #[]) else none, fun b => (look b).imp id fun z => .inr z, if_pos rfl, .inr ⟨_, vs.toArray, _, hk, rfl, rfl, rfl, by rw [List.size_toArray, lenV]; exact short, by simpa using vals⟩, fun b u z => ?_, fun z => absurd (if_neg aP) z⟩
      rcases look b with q | ⟨e, q⟩
      · have y := q.symm.trans z
        cases y
      · have y := q.symm.trans z
        cases y
        rw [e]
        exact at_P
    | none =>
      have look : ∀ b, (if b = a then some (HO.frz { cls := .type "list", data := .seq vs.toArray } (.lst (ns.map V.int))) else if b = PT then some (HO.tbl #[]) else none) = none ∨
          (b = a ∧ (if b = a then some (HO.frz { cls := .type "list", data := .seq vs.toArray } (.lst (ns.map V.int))) else if b = PT then some (HO.tbl #[]) else none) = some (.frz { cls := .type "list", data := .seq vs.toArray } (.lst (ns.map V.int)))) ∨
          (b = PT ∧ (if b = a then some (HO.frz { cls := .type "list", data := .seq vs.toArray } (.lst (ns.map V.int))) else if b = PT then some (HO.tbl #[]) else none) = some (.tbl #[])) := fun b => by
        by_cases e : b = a
        · exact .inr (.inl ⟨e, if_pos e⟩)
        · by_cases e2 : b = PT
          · exact .inr (.inr ⟨e2, by rw [if_neg e, if_pos e2]⟩)
          · exact .inl (by rw [if_neg e, if_neg e2])
      refine ⟨fun b => if b = a then some (.frz { cls := .type "list", data := .seq vs.toArray } (.lst (ns.map V.int))) else if b = PT then some (.tbl #[]) else none, look, (if_neg Pa).trans (if_pos rfl), .inl (.inr ⟨_, if_pos rfl⟩), fun b u z => ?_, fun _ => rfl⟩
      rcases look b with q | ⟨e, q⟩ | ⟨e, q⟩
      · have y := q.symm.trans z
        cases y
      · have y := q.symm.trans z
        cases y
        subst e
        exact ⟨at_a, by rw [List.length_map]; exact short, vs, _, vals, at_a⟩
      · have y := q.symm.trans z
        cases y
        rw [e]
        exact at_P
  -- what isn't tracked
  have free : ∀ {b : Addr} {o : Obj}, s.heap.get? b = some o → o.cls ≠ .type "list" → b ≠ PT → H b = none := fun {b o} e n n2 => by
    rcases only b with z | ⟨rfl, _⟩ | ⟨q, _⟩
    · exact z
    · rw [at_a] at e
      cases e
      exact absurd rfl n
    · exact absurd q n2
  have dicts : ∀ {b : Addr} {o : Obj} {es : Array DictEntry} {ep : Nat}, s.heap.get? b = some o → o.data = .dict es ep → H b = none := fun {b o es ep} e d => by
    rcases only b with z | ⟨rfl, _⟩ | ⟨rfl, _⟩
    · exact z
    · rw [at_a] at e
      cases e
      exact absurd d (by intro z; cases z)
    · rw [at_P] at e
      cases e
      exact absurd d (by intro z; cases z)
  have low : ∀ {b : Addr} {m : Str → Option Value}, s.heap.Ns b m → (hidT s.heap H).Ns b m := by
    rintro b m ⟨o, es, ep, e, d, r⟩
    exact ⟨o, es, ep, hidT_get e (dicts e d), d, r⟩
  have lowK : K.In (hidT s.heap H) := fun b o e => hidT_get (inK b o e) (by
    rcases only b with z | ⟨rfl, z⟩ | ⟨rfl, _⟩
    · exact z
    · have y := fresh (by rw [z]; intro q; cases q)
      rw [e] at y
      cases y
    · rw [e] at notP
      cases notP)
  have others : ∀ b o, s.heap.get? b = some o → o.cls ≠ .type "list" → b ≠ PT → (hidT s.heap H).get? b = some o := fun b o e n n2 => hidT_get e (free e n n2)
  have limL : (hidT s.heap H).NoLimit := by
    obtain ⟨mc, h1, h2⟩ := lim
    exact ⟨mc, low h1, h2⟩
  have gP : mainGlobals ≠ PT := fun z => by
    obtain ⟨o, es, ep, e, d, _⟩ := gl
    rw [z, at_P] at e
    cases e
    cases d
  have TB : LamX.TabB (hidT s.heap H) mg ct PT := by
    refine ⟨PySem.W.codeHd_of_K lowK hd, ?_, gP⟩
    obtain ⟨bm, ob, b1, b2, b3, b4, b5, b6⟩ := mods
    have n1 : bm ≠ mainGlobals := fun z => by
      obtain ⟨o, es, ep, e, d, _⟩ := gl
      rw [z, e] at b3
      cases b3
      rw [d] at b6
      cases b6
    have n2 : bm ≠ PT := fun z => by
      rw [z, at_P] at b3
      cases b3
      cases b6
    exact ⟨bm, ob, b1, b2, n1, n2, others _ _ b3 (by rw [b4]; intro z; injection z with z; exact absurd z (by decide)) n2, b4, b5, b6⟩
  have e0 : Env0 P w K mg (hidT s.heap H) callerA [] s H :=
    ⟨rfl, ⟨lowK, low gl, ⟨mb, low bl, blb⟩, limL⟩, fun b o e => of_hidT e, Nat.le_of_eq (hidT_size _ _), trivial, fun b hb => (by cases hb), ok, .of_eq gens⟩
  have run := (F _ lowK (low gl) others TB).run callerA [] s H ⟨[.ref a], []⟩ [.ref a] [.ref a] (fun v _ => v = .bl true) (fun _ _ _ => False) rfl room e0 (binds s (.ref a)) (.cons rfl .nil) (promise H tabH seq)
  refine codeAny_mono run fun r s' q => ?_
  cases r with
  | error e => exact q.elim
  | ok fl =>
    cases fl with
    | next => exact q.elim
    | brk => exact q.elim
    | cont => exact q.elim
    | ret u =>
      obtain ⟨v, H2, os, bare, un, ok2, rv, ev⟩ := q
      have ev' : v = .bl true := ev
      subst ev'
      have eu : u = Value.bool true := rv
      subst eu
      obtain ⟨more, z2⟩ := un.tbls PT #[] tabH
      have grown : s'.heap.get? PT = some { cls := .none, data := .fields (#[] ++ more) } := ok2 PT _ z2
      have stays : ∀ b o, b ≠ PT → s.heap.get? b = some o → s'.heap.get? b = some o := fun b o n e => by
        rcases only b with z | ⟨rfl, z⟩ | ⟨q, _⟩
        · exact un.keep b o e z (by intro q; cases q) (by intro q; cases q)
        · have z2 := un.frzs _ _ _ z
          have y1 := (ok _ _ z).1
          have y2 := (ok2 _ _ z2).1
          rw [e] at y1
          cases y1
          exact y2
        · exact absurd q n
      refine ⟨rfl, ⟨fun b o e => ?_, fun b o e => ?_⟩, os, bare⟩
      · by_cases n : b = PT
        · rw [n] at e ⊢
          rw [at_P] at e
          cases e
          exact .inr (.inl ⟨((PySem.W.codeHd_of_K inK hd).tab at_P).isCodeTable, rfl, #[], more, rfl, grown⟩)
        · exact .inl (stays b o n e)
      · by_cases n : b = PT
        · rw [n]
          exact ⟨_, grown⟩
        · exact ⟨o, stays b o n e⟩
/-- the goal that the head leaves, the module table's place and the law's table told to the defs -/
theorem walkGT {l : PySem.W.OpenLaw} {n k : Nat} {q : Program} {loose : List Str} {XP : (Str → Option Value) → Heap → Prop} {YP : World → Heap → Prop} {d : DefRec} {K : Params → PySem.W.Frag} {PT : Addr} {sp : World → Sp} {x : Str}
    (hn : l.most = some n) (hn2 : n ≤ sizeLine) (hdf : d.params.defaults = []) (room : Room k callerA) (hY : ∀ (w : World) (h : Heap), YP w h → (K w.params).In h ∧ SysOn h ∧ h.get? PT = some { cls := .none, data := .fields #[] }) (hsys : sysModules ≠ PT)
    (F : ∀ (w : World) (mg : Str → Option Value) (fa : Addr) (h : Heap), (K w.params).In h → h.Ns mainGlobals mg → mg d.name = some (.ref fa) →
      ∃ (fd : FuncData) (ct : Addr), (K w.params).lookup PT = none ∧ PySem.W.codeHdIn (K w.params) ct PT = true ∧ (∀ (s : Shared) (u : Value), BindsTo s fd ⟨[u], []⟩ [(x, u)]) ∧ ∀ base : Heap, SysOn base → LamX.TabB base mg ct PT → (K w.params).In base → base.Ns mainGlobals mg → FnG l.prog w (K w.params) mg base k fa fd [x] (sp w))
    (promise : ∀ (w : World) (H : Hp) (a : Addr) (ns : List Int), ns.length ≤ n → H PT = some (.tbl #[]) → SqL (K w.params) H a (ns.map V.int) → sp w [.ref a] H (fun v _ => v = .bl true) fun _ _ _ => False) :
    PySem.W.WalkO q loose XP YP l.row.toRowW d [] (fun f vs => PySem.call f vs) := by
  refine Att.attach_callB hn hdf ?_
  intro w s₀ s₁ mg mb fa o pm cd doc a vs ns G Y _ _ _ named obj nums len _ gens
  obtain ⟨inK, ⟨o2, e2, n2⟩, at_P⟩ := hY w _ Y
  obtain ⟨fd, ct, nP, hd, binds, hF⟩ := F w mg fa _ inK G.T.g named
  exact calledT inK G.T.g G.T.b G.T.builtins G.T.nolimit gens at_P nP hd G.T.bmain obj nums (Nat.le_trans len hn2) room (fun base kb nb old TB => hF base ⟨o2, old _ _ e2 n2 hsys, n2⟩ TB kb nb) binds fun H hp seq => promise w H a ns len hp seq
end Br

/-! BrVX: the Hook of BrV, empty tables of code objects left out, one more Bool; the law's end with it. -/
namespace Br
open PySem PySem.Spec PyProof.Rows L2
/-! ### exception classes -/
def oexB (K : PySem.W.Frag) (C : Addr) : Bool := (match K.lookup C with
  | some ⟨.type t, _, .cls cd, sl⟩ => (match cd.mro, sl.toList with
    | .ref C' :: bm, [_, _, _, _, some (.builtin n), _] => decide (t = "type") && (decide (C' = C) && (decide (n = "ValueError.__new__") && (cd.hasDict && (!cd.hasDel && PySem.HandSPX.refsVE bm))))
    | _, _ => false)
  | _ => false) && (decide (PySem.W.findIn K (.ref C) "__setattr__" = some (some (.builtin "object.__setattr__"))) && (decide (PySem.W.subIn K (.ref C) (.type "BaseException") = some true) && (decide (PySem.W.typeIn K (.ref C) = some (.type "type")) && PySem.W.keepIn K (.ref C))))
theorem oexB_ok {K : PySem.W.Frag} {C : Addr} (h : oexB K C = true) : OexC K C := by
  obtain ⟨h0, h1⟩ := He.ba h
  obtain ⟨h1, h2⟩ := He.ba h1
  obtain ⟨h2, h3⟩ := He.ba h2
  obtain ⟨h3, h4⟩ := He.ba h3
  refine ⟨?_, of_decide_eq_true h1, of_decide_eq_true h2, of_decide_eq_true h3, h4⟩
  cases q : K.lookup C with
  | none =>
    rw [q] at h0
    cases h0
  | some o =>
    obtain ⟨oc, od, dt, sl⟩ := o
    rw [q] at h0
    cases oc with
    | type t =>
      cases dt with
      | cls cd =>
        obtain ⟨c1, c2, c3, c4, c5, c6, c7, c8, c9, c10, c11⟩ := cd
        cases c3 with
        | nil => cases h0
        | cons m bm =>
          cases m with
          | ref C' =>
            obtain ⟨sl⟩ := sl
            match sl, h0 with
            | [k0, k1, k2, k3, some (.builtin n), k5], h0 =>
              have h0 : (decide (t = "type") && (decide (C' = C) && (decide (n = "ValueError.__new__") && (c6 && (!c11 && PySem.HandSPX.refsVE bm))))) = true := h0
              obtain ⟨a1, h0⟩ := He.ba h0
              obtain ⟨a2, h0⟩ := He.ba h0
              obtain ⟨a3, h0⟩ := He.ba h0
              obtain ⟨a4, h0⟩ := He.ba h0
              obtain ⟨a5, a6⟩ := He.ba h0
              have e1 := of_decide_eq_true a1
              have e2 := of_decide_eq_true a2
              have e3 := of_decide_eq_true a3
              have e5 : c11 = false := by
                cases c11 with
                | false => rfl
                | true => cases a5
              subst e1 e2 e3 a4 e5
              exact ⟨c1, c5, c4, c2, bm, c7, c8, c9, c10, od, k0, k1, k2, k3, k5, rfl, a6⟩
          | _ => cases h0
      | _ => cases h0
    | _ => cases dt <;> cases h0
def vInitB (K : PySem.W.Frag) : Bool := match PySem.W.findCls K (.type "ValueError") (.type "type") "__init__" with
  | some (.val (.builtin n)) => decide (n = "ValueError.__init__")
  | _ => false
theorem vInitB_ok {K : PySem.W.Frag} (h : vInitB K = true) : PySem.W.findCls K (.type "ValueError") (.type "type") "__init__" = some (.val (.builtin "ValueError.__init__")) := by
  unfold vInitB at h
  cases q : PySem.W.findCls K (.type "ValueError") (.type "type") "__init__" with
  | none =>
    rw [q] at h
    cases h
  | some r =>
    rw [q] at h
    cases r with
    | val v =>
      cases v with
      | builtin n =>
        have e : n = "ValueError.__init__" := of_decide_eq_true h
        rw [e]
      | _ => cases h
    | get _ _ _ _ => cases h
def excB (K : PySem.W.Frag) (C : Addr) : Bool := xfB K C && (decide (PySem.W.findIn K (.ref C) "__class__" = some (some (.builtin "object.__class__"))) && (decide (PySem.W.specialIn K (.builtin "object.__class__") "__get__" = some (some (.builtin "getset_descriptor.__get__"))) &&
  (decide (PySem.W.takesIn K (.builtin "object.__class__") = some true) && decide (PySem.W.mroIn K C (.type "object") = some true))))
theorem excB_ok {K : PySem.W.Frag} {C : Addr} (h : excB K C = true) : XfC K C ∧ ExcC K C := by
  obtain ⟨h1, h⟩ := He.ba h
  obtain ⟨h2, h⟩ := He.ba h
  obtain ⟨h3, h⟩ := He.ba h
  obtain ⟨h4, h5⟩ := He.ba h
  have x := xfB_ok h1
  exact ⟨x, x.ga, x.gg, x.exC, x.hdC, of_decide_eq_true h2, of_decide_eq_true h3, of_decide_eq_true h4, of_decide_eq_true h5⟩
/-- the class at C, the other at O: caught by its own, a ValueError, not the other -/
def isB (K : PySem.W.Frag) (C O : Addr) : Bool := PySem.W.isClsIn K C && (decide (PySem.W.exmOne K (.ref C) (.ref C) = some true) && (decide (PySem.W.kitOne K (.ref C) (.type "ValueError") = some true) && decide (PySem.W.kitOne K (.ref C) (.ref O) = some false)))
/-! ### the Hook -/
structure SaysQ (fa : List He.Fa) (fn : List He.DefD) (ts : List TabD) (ns : List TabN) (tf : List He.Defn) (ex : PySem.W.Frag → Bool) (w : World) (h : Heap) (K : PySem.W.Frag) : Prop where
  m : SaysM fa fn ts ns w K
  more : ex K = true
  hd : ∀ p ∈ tf, PySem.W.codeHdIn K (He.cT K p).1 (He.cT K p).2 = true
  out : ∀ p ∈ tf, K.lookup (He.cT K p).2 = none
  empty : ∀ p ∈ tf, h.get? (He.cT K p).2 = some { cls := .none, data := .fields #[] }
abbrev AlQ : Type := AlM × Bool
def frQ (n : Nat) (g : Addr → Option Obj) : PySem.W.Frag := He.frT g (sysModules :: He.asD g n)
def obsQ (n : Nat) (fa : List He.Fa) (fn : List He.DefD) (ts : List TabD) (ns : List TabN) (tf : List He.Defn) (ex : PySem.W.Frag → Bool) (g : Addr → Option Obj) : AlQ := (obsM fa fn ts ns (frQ n g), ex (frQ n g) && He.tabsB g tf (frQ n g))
def valQ (fn : List He.DefD) (ts : List TabD) (ns : List TabN) (w : World) : AlQ := (valM fn ts ns w, true)
theorem saysQ_of {n : Nat} {fa : List He.Fa} {fn : List He.DefD} {ts : List TabD} {ns : List TabN} {tf : List He.Defn} {ex : PySem.W.Frag → Bool} {w : World} {h : Heap} (e : obsQ n fa fn ts ns tf ex h.get? = valQ fn ts ns w) : SaysQ fa fn ts ns tf ex w h (frQ n h.get?) := by
  obtain ⟨e1, e2⟩ := Prod.mk.inj e
  obtain ⟨h1, h2⟩ := He.ba e2
  have key : ∀ p ∈ tf, PySem.W.codeHdIn (frQ n h.get?) (He.cT (frQ n h.get?) p).1 (He.cT (frQ n h.get?) p).2 = true ∧ ∃ o, h.get? (He.cT (frQ n h.get?) p).2 = some o ∧ He.emptyTab o = true := fun p hp => by
    obtain ⟨h3, h4⟩ := He.ba (List.all_eq_true.mp h2 p hp)
    refine ⟨h3, ?_⟩
    cases q : h.get? (He.cT (frQ n h.get?) p).2 with
    | none =>
      rw [q] at h4
      cases h4
    | some o =>
      rw [q] at h4
      exact ⟨o, rfl, h4⟩
  exact ⟨e1, h1, fun p hp => (key p hp).1, fun p hp => by
    obtain ⟨_, o, q, z⟩ := key p hp
    exact He.frT_none q z, fun p hp => by
    obtain ⟨_, o, q, z⟩ := key p hp
    rw [q, He.emptyTab_eq z]⟩
def hookQ (n : Nat) (fa : List He.Fa) (fn : List He.DefD) (ts : List TabD) (ns : List TabN) (tf : List He.Defn) (ex : PySem.W.Frag → Bool) : PySem.W.Hook where
  α := AlQ
  obs := fun s => obsQ n fa fn ts ns tf ex s.heap.get?
  val := fun w => valQ fn ts ns w
  says := fun w h => ∃ K : PySem.W.Frag, K.In h ∧ SaysQ fa fn ts ns tf ex w h K
  of := fun _ _ e => ⟨_, He.frT_in, saysQ_of e⟩
  keeps := fun _ _ _ ⟨K, hK, c⟩ k => ⟨K, PySem.W.Frag.In.keeps hK k, ⟨c.m, c.more, c.hd, c.out, fun p hp => k _ _ (c.empty p hp)⟩⟩
theorem obsQ_eq {n : Nat} {fa : List He.Fa} {fn : List He.DefD} {ts : List TabD} {ns : List TabN} {tf : List He.Defn} {ex : PySem.W.Frag → Bool} {g : Addr → Option Obj} {s : Shared} (h : ∀ a, g a = s.heap.get? a) : obsQ n fa fn ts ns tf ex g = (hookQ n fa fn ts ns tf ex).obs s := by
  have e : g = s.heap.get? := funext h
  rw [e] <;> rfl
/-- the law's own def: its code object -/
theorem codeOf_fun {K : PySem.W.Frag} {x qual : Str} {st : Stmt} {fd : FuncData} {p : Str × Option Str} (F : Fun K x qual st (He.fAd K p) fd) : fd.code = .ref (He.codeOf K p) := by
  obtain ⟨oc, od, kV, doc, pm, an, cdv, ct, osl, rfl, lk, hcd⟩ := F.ex
  obtain ⟨c, rfl⟩ := He.codeIn_ref hcd
  exact congrArg Value.ref (He.codeOf_eq lk rfl).symm
/-- the goal that the head leaves -/
theorem walkGTE {l : PySem.W.OpenLaw} {n k : Nat} {q : Program} {loose : List Str} {XP : (Str → Option Value) → Heap → Prop} {YP : World → Heap → Prop} {d : DefRec} {x : Str}
    (hn : l.most = some n) (hn2 : n ≤ sizeLine) (hdf : d.params.defaults = []) (room : Room k callerA)
    (F : ∀ (w : World) (mg : Str → Option Value) (fa : Addr) (h : Heap), YP w h → h.Ns mainGlobals mg → mg d.name = some (.ref fa) →
      ∃ (K : PySem.W.Frag) (fd : FuncData) (ct PT : Addr) (sp : Sp), K.In h ∧ h.get? PT = some { cls := .none, data := .fields #[] } ∧ K.lookup PT = none ∧ PySem.W.codeHdIn K ct PT = true ∧ (∀ (s : Shared) (u : Value), BindsTo s fd ⟨[u], []⟩ [(x, u)]) ∧
        (∀ (H : Hp) (a : Addr) (ns : List Int), ns.length ≤ n → H PT = some (.tbl #[]) → SqL K H a (ns.map V.int) → sp [.ref a] H (fun v _ => v = .bl true) fun _ _ _ => False) ∧
        ∀ base : Heap, LamX.TabB base mg ct PT → K.In base → base.Ns mainGlobals mg → FnG l.prog w K mg base k fa fd [x] sp) :
    PySem.W.WalkO q loose XP YP l.row.toRowW d [] (fun f vs => PySem.call f vs) := by
  refine Att.attach_callB hn hdf ?_
  intro w s₀ s₁ mg mb fa o pm cd doc a vs ns G Y _ _ _ named obj nums len _ gens
  obtain ⟨K, fd, ct, PT, sp, inK, at_P, nP, hd, binds, promise, hF⟩ := F w mg fa _ Y G.T.g named
  exact calledT inK G.T.g G.T.b G.T.builtins G.T.nolimit gens at_P nP hd G.T.bmain obj nums (Nat.le_trans len hn2) room (fun base kb nb old TB => hF base TB kb nb) binds fun H hp seq => promise H a ns len hp seq
end Br

/-! Nm: figures of numbers by 256, by 128. -/
namespace Nm
/-- the first i figures of n by B, the lowest first -/
def dg (B n : Int) (i : Nat) : List Int := (List.range i).map fun j => n / B ^ j % B
theorem dg_succ (B n : Int) (i : Nat) : dg B n (i + 1) = dg B n i ++ [n / B ^ i % B] := by simp [dg, List.range_succ]
theorem dg_len (B n : Int) (i : Nat) : (dg B n i).length = i := by simp [dg]
theorem div_step {n B : Int} (i : Nat) (hB : 0 < B) : n / B ^ i / B = n / B ^ (i + 1) := by
  rw [Int.pow_succ, Int.ediv_ediv_of_nonneg (Int.le_of_lt (Int.pow_pos hB))]
theorem dg_byte {n : Int} {i : Nat} : ∀ x ∈ dg 256 n i, 0 ≤ x ∧ x < 256 := fun x hx => by
  obtain ⟨j, _, rfl⟩ := List.mem_map.mp hx
  exact ⟨Int.emod_nonneg _ (by decide), Int.emod_lt_of_pos _ (by decide)⟩
/-- by seven bits a byte, the lowest first, i more than one -/
def sv (n : Int) (i : Nat) : List Int := n % 128 :: (List.range i).map fun j => 128 + n / 128 ^ (j + 1) % 128
theorem sv_succ (n : Int) (i : Nat) : sv n (i + 1) = sv n i ++ [128 + n / 128 ^ (i + 1) % 128] := by simp [sv, List.range_succ]
theorem sv_len (n : Int) (i : Nat) : (sv n i).length = i + 1 := by simp [sv]
/-- just so many as are wanted -/
def svE (n : Int) (i : Nat) : Prop := n / 128 ^ (i + 1) = 0 ∧ ∀ j, j < i → 0 < n / 128 ^ (j + 1)
theorem sv_one {n : Int} {i j : Nat} (h : svE n i) (g : svE n j) : i = j := by
  rcases Nat.lt_trichotomy i j with z | z | z
  · have := g.2 i z
    have := h.1
    omega
  · exact z
  · have := h.2 j z
    have := g.1
    omega
theorem sv_byte {n : Int} {i : Nat} : ∀ x ∈ sv n i, 0 ≤ x ∧ x < 256 := fun x hx => by
  rcases List.mem_cons.mp hx with rfl | hx
  · have h1 := Int.emod_nonneg n (show (128 : Int) ≠ 0 by decide)
    have h2 := Int.emod_lt_of_pos n (show (0 : Int) < 128 by decide)
    omega
  · obtain ⟨j, _, rfl⟩ := List.mem_map.mp hx
    have h1 := Int.emod_nonneg (n / 128 ^ (j + 1)) (show (128 : Int) ≠ 0 by decide)
    have h2 := Int.emod_lt_of_pos (n / 128 ^ (j + 1)) (show (0 : Int) < 128 by decide)
    omega
/-- from a bound of n one of i -/
theorem sv_few {n : Int} {i : Nat} (hn : n < 2 ^ 210) (h : i = 0 ∨ 0 < n / 128 ^ i) : i < 31 := by
  rcases h with rfl | h
  · decide
  · rcases Nat.lt_or_ge i 31 with z | z
    · exact z
    · exfalso
      have p : (128 : Int) ^ 31 ≤ 128 ^ i := by
        obtain ⟨k, rfl⟩ := Nat.exists_eq_add_of_le z
        rw [Int.pow_add]
        have : (1 : Int) ≤ 128 ^ k := Int.pow_pos (by decide)
        have q : (0 : Int) < 128 ^ 31 := by decide
        calc (128 : Int) ^ 31 = 128 ^ 31 * 1 := by omega
          _ ≤ 128 ^ 31 * 128 ^ k := Int.mul_le_mul_of_nonneg_left this (Int.le_of_lt q)
      have lt : n < 128 ^ i := Int.lt_of_lt_of_le (Int.lt_of_lt_of_le hn (by decide)) p
      have pp : (0 : Int) < 128 ^ i := Int.pow_pos (by decide)
      have : n / 128 ^ i < 1 := Int.ediv_lt_of_lt_mul pp (by omega)
      omega
theorem div_nn {n : Int} (i : Nat) (h : 0 ≤ n) : 0 ≤ n / 128 ^ i := Int.ediv_nonneg h (Int.le_of_lt (Int.pow_pos (by decide)))
theorem div_nn2 {n : Int} (i : Nat) (h : 0 ≤ n) : 0 ≤ n / 256 ^ i := Int.ediv_nonneg h (Int.le_of_lt (Int.pow_pos (by decide)))
/-- what a row is worth -/
def wo (row : List Int) : Int := row.foldl (fun a b => a * 256 + b) 0
theorem wo_snoc (row : List Int) (x : Int) : wo (row ++ [x]) = wo row * 256 + x := by simp [wo]
theorem pow_up (i : Nat) : (256 : Int) ^ (i + 1) = 256 ^ i * 256 := Int.pow_succ ..
theorem wo_lt : ∀ {i : Nat} {row : List Int}, row.length = i → (∀ x ∈ row, 0 ≤ x ∧ x < 256) → 0 ≤ wo row ∧ wo row < 256 ^ i
  | 0, row, h, _ => by
    rw [List.length_eq_zero_iff.mp h]
    decide
  | i + 1, row, h, hr => by
    rcases List.eq_nil_or_concat row with rfl | ⟨r, x, rfl⟩
    · cases h
    · rw [List.concat_eq_append] at *
      rw [List.length_append, List.length_singleton] at h
      obtain ⟨a, b⟩ := wo_lt (i := i) (row := r) (by omega) fun y hy => hr y (List.mem_append_left _ hy)
      have c := hr x (by simp)
      rw [wo_snoc, pow_up]
      omega
/-- a long number behind a place, or where it goes wrong -/
def lgo : List Int → Int → Nat → (Int × Nat) ⊕ Nat
  | [], _, p => .inr p
  | b :: r, a, p => if b < 128 then .inl (a * 128 + b % 128, p + 1) else lgo r (a * 128 + b % 128) (p + 1)
def long (row : List Int) (p : Nat) : (Int × Nat) ⊕ Nat := if row[p]? = some 128 then .inr p else lgo (row.drop p) 0 p
theorem acc_up {a b : Int} {i : Nat} (h : 0 ≤ a ∧ a < 256 ^ i) (hb : 0 ≤ b ∧ b < 256) : 0 ≤ a * 128 + b % 128 ∧ a * 128 + b % 128 < 256 ^ (i + 1) := by
  have h1 := Int.emod_nonneg b (show (128 : Int) ≠ 0 by decide)
  have h2 := Int.emod_lt_of_pos b (show (0 : Int) < 128 by decide)
  rw [pow_up]
  omega
theorem lgo_in : ∀ {r : List Int} {a : Int} {p : Nat} {v : Int} {e : Nat} {i : Nat}, lgo r a p = .inl (v, e) → (0 ≤ a ∧ a < 256 ^ i) → (∀ x ∈ r, 0 ≤ x ∧ x < 256) → 0 ≤ v ∧ v < 256 ^ (i + r.length) ∧ e ≤ p + r.length
  | [], _, _, _, _, _, h, _, _ => by cases h
  | b :: r, a, p, v, e, i, h, ha, hr => by
    rw [lgo] at h
    have up := acc_up ha (hr b List.mem_cons_self)
    have p1 : (256 : Int) ^ (i + 1) ≤ 256 ^ (i + (b :: r).length) := by
      rw [List.length_cons, show i + (r.length + 1) = (i + 1) + r.length by omega, Int.pow_add 256 (i + 1) r.length]
      have q : (1 : Int) ≤ 256 ^ r.length := Int.pow_pos (by decide)
      have q2 : (0 : Int) ≤ 256 ^ (i + 1) := Int.le_of_lt (Int.pow_pos (by decide))
      calc (256 : Int) ^ (i + 1) = 256 ^ (i + 1) * 1 := by omega
        _ ≤ 256 ^ (i + 1) * 256 ^ r.length := Int.mul_le_mul_of_nonneg_left q q2
    split at h
    · cases h
      rw [List.length_cons]
      rw [List.length_cons] at p1
      exact ⟨up.1, Int.lt_of_lt_of_le up.2 p1, by omega⟩
    · obtain ⟨g1, g2, g3⟩ := lgo_in (i := i + 1) h up fun x hx => hr x (List.mem_cons_of_mem _ hx)
      rw [List.length_cons, show i + (r.length + 1) = (i + 1) + r.length by omega]
      exact ⟨g1, g2, by omega⟩
/-- of the figures of a number the number is read -/
theorem lgo_app {a : Int} : ∀ {l r : List Int} {p : Nat}, (∀ x ∈ l, 128 ≤ x) → lgo (l ++ r) a p = lgo r (l.foldl (fun a b => a * 128 + b % 128) a) (p + l.length)
  | [], r, p, _ => rfl
  | x :: l, r, p, h => by
    rw [List.cons_append, lgo, if_neg (by have := h x List.mem_cons_self; omega), lgo_app fun y hy => h y (List.mem_cons_of_mem _ hy), List.foldl_cons, List.length_cons]
    congr 1
    omega
theorem fold_sv {n : Int} : ∀ (i : Nat), ((List.range i).map fun j => 128 + n / 128 ^ (j + 1) % 128).reverse.foldl (fun a b => a * 128 + b % 128) (n / 128 ^ (i + 1)) = n / 128
  | 0 => by simp
  | i + 1 => by
    rw [List.range_succ, List.map_append, List.reverse_append, List.map_singleton, List.reverse_singleton, List.singleton_append, List.foldl_cons]
    have e : n / 128 ^ (i + 1 + 1) * 128 + (128 + n / 128 ^ (i + 1) % 128) % 128 = n / 128 ^ (i + 1) := by
      rw [← div_step (B := 128) (n := n) (i + 1) (by decide)]
      omega
    rw [e]
    exact fold_sv i
/-- long_at of long_of -/
theorem long_sv {n : Int} {m : Nat} (h0 : 0 ≤ n) (h : svE n m) : long (sv n m).reverse 0 = .inl (n, m + 1) := by
  have e1 : (sv n m).reverse = ((List.range m).map fun j => 128 + n / 128 ^ (j + 1) % 128).reverse ++ [n % 128] := by rw [sv, List.reverse_cons]
  have first : (sv n m).reverse[0]? ≠ some 128 := by
    rw [e1]
    cases m with
    | zero =>
      have := Int.emod_lt_of_pos n (show (0 : Int) < 128 by decide)
      simp
      omega
    | succ m =>
      rw [List.range_succ, List.map_append, List.reverse_append]
      have g := h.2 m (by omega)
      have g2 := h.1
      rw [← div_step (B := 128) (n := n) (m + 1) (by decide)] at g2
      simp
      omega
  unfold long
  rw [if_neg first, List.drop_zero, e1, lgo_app, lgo]
  · have hm : n % 128 < 128 := Int.emod_lt_of_pos n (by decide)
    rw [if_pos hm]
    have f := fold_sv (n := n) m
    rw [h.1] at f
    rw [f]
    have e2 : n / 128 * 128 + n % 128 % 128 = n := by omega
    rw [e2]
    simp
  · intro x hx
    obtain ⟨j, _, rfl⟩ := List.mem_map.mp (List.mem_reverse.mp hx)
    have h1 := Int.emod_nonneg (n / 128 ^ (j + 1)) (show (128 : Int) ≠ 0 by decide)
    omega
end Nm

namespace Pa
open PySem PySem.Spec PyProof.Rows L2 Br
def topS (i : Nat) : Stmt := PySem.Challenge.pw_byteround_k05_whole_words_there_and_back.main.body.getD i (.Pass ⟨0, 0, 0, 0⟩)
def pen (cells : List Int) (nth left : Int) : List (Key × D) := [(.inr "cells", .lst (cells.map D.int)), (.inr "nth", .int nth), (.inr "left", .int left)]
theorem pen_cells {c : List Int} {n l : Int} : lookD (pen c n l) (.inr "cells") = some (.lst (c.map D.int)) := rfl
theorem pen_nth {c : List Int} {n l : Int} : lookD (pen c n l) (.inr "nth") = some (.int n) := rfl
theorem pen_left {c : List Int} {n l : Int} : lookD (pen c n l) (.inr "left") = some (.int l) := rfl
theorem put_nth {c : List Int} {n l m : Int} : putD (pen c n l) (.inr "nth") (.int m) = pen c m l := rfl
theorem put_left {c : List Int} {n l m : Int} : putD (pen c n l) (.inr "left") (.int m) = pen c n m := rfl
/-- the store o, a pen of the cells at k, of at most b draws -/
def Pn (k : Nat) (cells : List Int) (b : Int) (o os : Os) : Prop := ∃ nth left, os = o.set k (.md (pen cells nth left)) ∧ k < o.length ∧ (0 ≤ nth ∧ nth ≤ b) ∧ 0 ≤ left
theorem Pn.mono {k : Nat} {cells : List Int} {b c : Int} {o os : Os} (h : Pn k cells b o os) (hb : b ≤ c) : Pn k cells c o os := by
  obtain ⟨n, l, e, hk, hn, hl⟩ := h
  exact ⟨n, l, e, hk, ⟨hn.1, by omega⟩, hl⟩
theorem Pn.len {k : Nat} {cells : List Int} {b : Int} {o os : Os} (h : Pn k cells b o os) : os.length = o.length := by
  obtain ⟨n, l, e, _⟩ := h
  rw [e, List.length_set]
theorem Pn.ret {k : Nat} {cells : List Int} {b c : Int} {o os os2 : Os} {d : D} {QA : D → Os → Prop} (h : Pn k cells b o os) (h2 : Pn k cells c o os2) (q : QA d os2) : RetOk os.length QA (.d d) os2 := by
  show QA d (os2.take os.length)
  rw [List.take_of_length_le (by rw [h.len, h2.len]; exact Nat.le_refl _)]
  exact q
theorem Pn.push {k : Nat} {cells : List Int} {b : Int} {o os : Os} (x : Ob) (h : Pn k cells b o os) : Pn k cells b (o ++ [x]) (os ++ [x]) := by
  obtain ⟨n, l, e, hk, hn, hl⟩ := h
  exact ⟨n, l, by rw [e, List.set_append_left _ _ hk], by rw [List.length_append]; omega, hn, hl⟩
theorem Pn.pop {k : Nat} {cells : List Int} {b : Int} {o os2 : Os} {x : Ob} (hk : k < o.length) (h : Pn k cells b (o ++ [x]) os2) : ∃ os3, os2 = os3 ++ [x] ∧ Pn k cells b o os3 := by
  obtain ⟨n, l, e, _, hn, hl⟩ := h
  exact ⟨o.set k _, by rw [e, List.set_append_left _ _ hk], n, l, rfl, hk, hn, hl⟩
def fDraw : FD := fun ds os QA _ => ∃ (k : Nat) (span : Int) (cells : List Int) (b : Int) (o : Os), ds = [.o k, .d (.int span)] ∧ Pn k cells b o os ∧ (0 < span ∧ span < 2 ^ 64) ∧ b < 2 ^ 39 ∧
  ∀ d os', 0 ≤ d → d < span → Pn k cells (b + 1) o os' → QA (.int d) os'
theorem draw_raw {ds : List Sv} {os : Os} {QA : D → Os → Prop} {EA : Xa} (h : fDraw ds os QA EA) : ∃ (k : Nat) (span : Int) (cells : List Int) (nth left : Int), ds = [.o k, .d (.int span)] ∧ os[k]? = some (.md (pen cells nth left)) ∧ (0 < span ∧ span < 2 ^ 64) ∧ (0 ≤ nth ∧ nth < 2 ^ 40) ∧ 0 ≤ left ∧
  ∀ d nth' left', 0 ≤ d → d < span → nth ≤ nth' → nth' ≤ nth + 1 → 0 ≤ left' → QA (.int d) (os.set k (.md (pen cells nth' left'))) := by
  obtain ⟨k, span, cells, b, o, e, ⟨nth, left, eo, hk, hn, hl⟩, hs, hb, q⟩ := h
  subst eo
  exact ⟨k, span, cells, nth, left, e, List.getElem?_set_self hk, hs, ⟨hn.1, by omega⟩, hl, fun d n2 l2 h0 h1 h2 h3 h4 => q d _ h0 h1 ⟨n2, l2, List.set_set .., hk, ⟨by omega, by omega⟩, h4⟩⟩
local macro_rules | `(tactic| walk_at "side") => `(tactic| first
  | exact c_divS (by omega) (by omega)
  | exact c_mulS (by omega) (by omega)
  | omega
  | (dsimp only; omega)
  | decide
  | exact ⟨by decide, by decide, by decide⟩)
local macro_rules | `(tactic| walk_at "b") => `(tactic| first
  | with_reducible refine w_seq ?_
  | with_reducible refine w_next ?_
  | with_reducible refine w_ret ?_
  | with_reducible refine w_if ?_
  | ((with_reducible refine w_asg ?_); (try dsimp only [List.set_cons_zero, List.set_cons_succ]))
  | ((with_reducible refine w_dputS ?_); (try dsimp only [List.set_cons_zero, List.set_cons_succ]))
  | with_reducible refine br_T ?_
  | with_reducible refine br_F ?_
  | with_reducible refine tw_test ?_
  | with_reducible refine tw_and ?_
  | with_reducible refine tw_or ?_
  | with_reducible refine tw_not ?_
  | with_reducible refine tw_B ?_
  | with_reducible refine ew_int ?_
  | with_reducible refine ew_str ?_
  | with_reducible refine ew_bl ?_
  | with_reducible refine ew_non ?_
  | ((with_reducible refine ew_var (d := ?hd) ?hv ?_); (case hv => exact rfl))
  | ((with_reducible refine ew_op ?_); (try dsimp only))
  | with_reducible refine ew_cb ?_
  | with_reducible refine ew_dgetS ?_
  | with_reducible refine ew_lst2 ?_
  | with_reducible refine ew_tup2 ?_
  | ((with_reducible refine aw_cons ?_); (try dsimp only))
  | with_reducible refine aw_nil ?_
  | with_reducible refine bw_i0 ?_
  | with_reducible refine bw_ib ?_
  | with_reducible refine bw_neNil ?_
  | ((with_reducible refine bw_i ?hc ?_); (case hc => walk_at "side"))
  | with_reducible refine cw_abs ?_
  | with_reducible refine cw_lenL ?_
  | ((with_reducible refine Exists.intro _ (And.intro rfl ?_)); (try dsimp only))
  | ((with_reducible refine And.intro (small_len (Nat.le_of_ble_eq_true rfl)) ?_); (try dsimp only))
  | ((with_reducible refine ⟨_, ?kv, ?dd, rfl, ?ho, ?lk, ?_⟩); (case ho => first | assumption | exact get_set (by assumption)); (case lk => rfl); (try dsimp only))
  | ((with_reducible refine ⟨_, ?kv, _, ?k2, ?o3, rfl, rfl, ?ho, ?lk, ?e1, ?e2, ?_⟩); (case ho => first | assumption | exact get_set (by assumption)); (case lk => exact Nat.le_of_ble_eq_true rfl); (case e1 => first | exact put_nth | exact put_left); (case e2 => first | exact List.set_set .. | rfl); (try dsimp only)))
section
variable {P : Program} {w : World} {K : PySem.W.Frag} {mg : Str → Option Value} {base : Heap}
abbrev s_l_draw : Stmt := topS 44
abbrev N_l_draw : List Str := ["_law_pen", "_law_span", "_law_digit", "_law_nth", "_law_cell", "_law_mixed", "_law_turn"]
theorem sc_l_draw : FnScope N_l_draw ["_law_pen", "_law_span"] (defScope s_l_draw) := ⟨rfl, rfl, rfl, by decide +kernel, rfl, by decide +kernel, by decide +kernel⟩
theorem ok_l_draw {f : Addr} {fd : FuncData} (F : Fun K "_law_draw" "_law_draw" s_l_draw f fd) (z_len : mg "len" = none) (z_abs : mg "abs" = none) (z_range : mg "range" = none) : FnOk P w K mg base CX0 1 f fd ["_law_pen", "_law_span"] (spD K fDraw) := by
  refine F.ok sc_l_draw (fun vs H Q E h => ?_) (fun cdv A outer s H vs Q E hr h => ?_)
  · obtain ⟨as, os, ds, QA, EA, R, r, ⟨k, span, cells, b, o, rfl, _⟩, _⟩ := h
    rw [r.length]
    rfl
  · have hu := hu_of hr
    have hu64 : (A.deeper (envOfC "_law_draw" (defScope s_l_draw) s.heap.objs.size f cdv)).units + 64 < cLine := by
      have := hr.un
      omega
    have passOwn := @PassesOwn.never
    refine ⟨_, (pss_cons (ps_if (pt_cmpR op_gt (pe_dget hu (pv 0) pe_str (fun _ _ => rfl)) pe_int (nomark _)) (pss_cons (ps_set (i := 2) sc_l_draw.nd rfl (Or.inl rfl) (pe_op op_mod (pe_dget hu (pv 0) pe_str (fun _ _ => rfl)) (pv 1)))
    (pss_cons (ps_dput hu (pv 0) pe_str (pe_op op_fdivW (pe_dget hu (pv 0) pe_str (fun _ _ => rfl)) (pv 1)) rfl)
    (pss_one (ps_ret (pv 2))))) pss_nil)
  (pss_cons (ps_set (i := 3) sc_l_draw.nd rfl (Or.inl rfl) (pe_dget hu (pv 0) pe_str (fun _ _ => rfl)))
  (pss_cons (ps_dput hu (pv 0) pe_str (pe_op op_add (pv 3) pe_int) rfl)
  (pss_cons (ps_set (i := 4) sc_l_draw.nd rfl (Or.inl rfl) (pe_op op_add (pe_op op_mulW (pv 3) (pv 3)) pe_int))
  (pss_cons (ps_if (pt_cmpR (op_neD hu64) (pe_dget hu (pv 0) pe_str (fun _ _ => rfl)) (pe_lst pa_nil) (nomark _)) (pss_one (ps_set (i := 4) sc_l_draw.nd rfl (Or.inl rfl) (pe_ix (r := rIxL K) ix_list (pe_dget hu (pv 0) pe_str (fun _ _ => rfl)) (pe_op op_mod (pv 3) (pe_callB call_lenA (by rfl) z_len PySem.boot_len (pa_cons (pe_dget hu (pv 0) pe_str (fun _ _ => rfl)) pa_nil))) (fun _ _ => rfl)))) pss_nil)
  (pss_cons (ps_if (PW.pt (pw_and (pt_cmpR op_lt (pv 3) (pe_callB call_lenA (by rfl) z_len PySem.boot_len (pa_cons (pe_dget hu (pv 0) pe_str (fun _ _ => rfl)) pa_nil)) (nomark _)) (pw_and1 (pt_cmpR op_ge (pe_callB (call_absA rfl) (by rfl) z_abs (by decide +kernel) (pa_cons (pv 4) pa_nil)) (pe_op op_pow pe_int pe_int) (nomark _))))) (pss_cons (ps_dput hu (pv 0) pe_str (pe_op op_fdivW (pe_callB (call_absA rfl) (by rfl) z_abs (by decide +kernel) (pa_cons (pv 4) pa_nil)) (pv 1)) rfl)
    (pss_one (ps_ret (pe_op op_mod (pe_callB (call_absA rfl) (by rfl) z_abs (by decide +kernel) (pa_cons (pv 4) pa_nil)) (pv 1))))) pss_nil)
  (pss_cons (ps_set (i := 5) sc_l_draw.nd rfl (Or.inl rfl) (pe_op op_mod (pe_op op_mulW (pe_op op_add (pe_op op_add (pe_op op_mod (pv 4) pe_int) (pe_op op_mulW pe_int (pv 3))) pe_int) pe_int) pe_int))
  (pss_cons (ps_for PassesOwn.never rfl (pi_range1 (by rfl) z_range (pa_cons pe_int pa_nil)) (pg_name (i := 6) sc_l_draw.nd rfl (Or.inl rfl))
    (pss_cons (ps_set (i := 5) sc_l_draw.nd rfl (Or.inl rfl) (pe_op op_add (pe_op op_add (pe_op op_add (pe_op op_mulW (pv 5) (pv 5)) (pe_op op_mulW pe_int (pv 5))) (pv 3)) (pv 6)))
    (pss_one (ps_set (i := 5) sc_l_draw.nd rfl (Or.inl rfl) (pe_op op_mod (pv 5) pe_int)))))
  (pss_one (ps_ret (pe_op op_mod (pe_op op_fdivW (pv 5) pe_int) (pv 1)))))))))))), read_of h fun ds os QA EA hf => ?_⟩
    obtain ⟨k, span, cells, nth, left, rfl, ho, hs, hn, hl, q⟩ := draw_raw hf
    dsimp only [cxOf, Cx.nox, Cx.wish]
    show W K _ _ _ ⟨[some (.o k), some (.d (.int span)), none, none, none, none, none], os⟩
    repeat (walk_at "b")
    refine br_ite (fun hl0 => ?_) (fun hl0 => ?_)
    · repeat (walk_at "b")
      exact ret_set (q _ _ _ (Int.emod_nonneg _ (by omega)) (Int.emod_lt_of_pos _ (by omega)) (by omega) (by omega) (Int.ediv_nonneg (by omega) (by omega)))
    · repeat (walk_at "b")
      refine w_join (fun S' => ∃ c : Int, S' = ⟨[some (.o k), some (.d (.int span)), none, some (.d (.int nth)), some (.d (.int c)), none, none], os.set k (.md (pen cells (nth + 1) left))⟩) ?_ ?_
      · refine br_iteB (fun hb => ?_) (fun hb => ?_)
        · repeat (walk_at "b")
          obtain ⟨c, hc⟩ := at_mod (n := nth) (ns := cells) (fun z => by subst z; cases hb)
          have hlen : 0 < ((cells.map D.int).length : Int) := by
            cases cells with
            | nil => cases hb
            | cons a r => simp
          refine bw_i hlen ?_
          refine bw_ixL hc ?_
          exact ⟨c, rfl⟩
        · repeat (walk_at "b")
          exact ⟨_, rfl⟩
      · rintro S' ⟨c, rfl⟩
        refine w_cut (fun S' => S' = ⟨[some (.o k), some (.d (.int span)), none, some (.d (.int nth)), some (.d (.int c)), none, none], os.set k (.md (pen cells (nth + 1) left))⟩) ?_ ?_
        · repeat (walk_at "b")
          refine br_ite (fun h1 => ?_) (fun h1 => ?_)
          · repeat (walk_at "b")
            refine br_ite (fun h2 => ?_) (fun h2 => ?_)
            · repeat (walk_at "b")
              refine ret_set (q _ _ _ (Int.emod_nonneg _ (by omega)) (Int.emod_lt_of_pos _ (by omega)) (by omega) (by omega) (Int.ediv_nonneg ?_ (by omega)))
              split <;> omega
            · repeat (walk_at "b")
              rfl
          · repeat (walk_at "b")
            rfl
        · rintro S' rfl
          repeat (walk_at "b")
          dsimp only
          refine w_for (iw_rng1 (aw_cons (ew_int (aw_nil ⟨3, rfl, by decide, by decide, fun _ S' => ∃ (m : Int) (o : Option Sv), (0 ≤ m ∧ m < 4294967311) ∧ S' = ⟨[some (.o k), some (.d (.int span)), none, some (.d (.int nth)), some (.d (.int c)), some (.d (.int m)), o], os.set k (.md (pen cells (nth + 1) left))⟩, ⟨_, none, ⟨Int.emod_nonneg _ (by decide), Int.emod_lt_of_pos _ (by decide)⟩, rfl⟩, ?_, ?_⟩))))
          · rintro i d S' hd ⟨m, o, hm, rfl⟩
            obtain ⟨hi, rfl⟩ := rngD_get hd
            refine gw_name ?_
            dsimp only [List.set_cons_zero, List.set_cons_succ]
            repeat (walk_at "b")
            refine ⟨_, _, ⟨Int.emod_nonneg _ (by decide), Int.emod_lt_of_pos _ (by decide)⟩, rfl⟩
          · rintro S' ⟨m, o, hm, rfl⟩
            repeat (walk_at "b")
            exact ret_set (q _ _ _ (Int.emod_nonneg _ (by omega)) (Int.emod_lt_of_pos _ (by omega)) (by omega) (by omega) hl)
end

open PySem PySem.Spec PyProof.Rows L2 Br
/-- how a def of the text is called -/
structure Cal (K : PySem.W.Frag) (mg : Str → Option Value) (x : Str) (f : Addr) (fd : FuncData) (ps : List Str) : Prop where
  m : mg x = some (.ref f)
  k : PySem.W.keepIn K (.ref f) = true
  b : Binds K fd ps []
local macro_rules | `(tactic| walk_at "dr") => `(tactic| ((with_reducible refine ew_call ?_); repeat (walk_at "b")))
def fPick : FD := fun ds os QA _ => ∃ (k : Nat) (xs : List D) (cells : List Int) (b : Int) (o : Os), ds = [.o k, .d (.lst xs)] ∧ Pn k cells b o os ∧ (0 < xs.length ∧ xs.length ≤ 1000) ∧ b < 2 ^ 38 ∧
  ∀ d os', d ∈ xs → Pn k cells (b + 1) o os' → QA d os'
theorem br_nT {A B : Prop} (h : B) : if (!true) = true then A else B := h
theorem br_nF {A B : Prop} (h : A) : if (!false) = true then A else B := h
local macro_rules | `(tactic| walk_at "b") => `(tactic| first
  | with_reducible refine ew_isi ?_
  | with_reducible refine br_nT ?_
  | with_reducible refine br_nF ?_
  | with_reducible refine bw_eqI ?_
  | with_reducible refine bw_neI ?_
  | with_reducible refine ew_sl ?_
  | with_reducible refine ow_none ?_
  | with_reducible refine ow_some ?_
  | with_reducible refine ew_if ?_
  | with_reducible refine ew_andV ?_
  | with_reducible refine ew_orV ?_
  | with_reducible refine ew_notV ?_
  | with_reducible refine ew_chain ?_
  | with_reducible refine ew_revT ?_
  | with_reducible refine ew_negI ?_
  | with_reducible refine bw_ix0 ?_
  | with_reducible refine bw_ix1 ?_
  | with_reducible refine bw_ix2 ?_
  | with_reducible refine bw_neNilT ?_
  | with_reducible refine cw_lenU ?_
  | with_reducible refine ew_call ?_
  | with_reducible refine w_asgN ?_
  | with_reducible refine w_asgG ?_
  | with_reducible refine gs_nil ?_
  | with_reducible refine gs_cons ?_
  | ((with_reducible refine gw_name ?_); (try dsimp only [List.set_cons_zero, List.set_cons_succ]))
  | with_reducible refine bw_eqB ?_)
def fFeed : FN := fun ds os QN => ∃ ns : List Int, ds = [.d (.lst (ns.map D.int))] ∧ ns.length ≤ 63 ∧ QN (.md (pen ns 0 0)) os
/-- a row of bytes -/
def isR (row : List Int) : Prop := ∀ b ∈ row, 0 ≤ b ∧ b < 256
abbrev rowD (row : List Int) : D := .tup (row.map D.int)
def fByte : FD := fun ds os QA _ => ∃ (k : Nat) (cells : List Int) (b : Int) (o : Os), ds = [.o k] ∧ Pn k cells b o os ∧ b < 2 ^ 37 ∧ ∀ x os', 0 ≤ x → x < 256 → Pn k cells (b + 2) o os' → QA (.int x) os'
theorem at_mem {α : Type} {xs : List α} {i : Int} (h0 : 0 ≤ i) (h1 : i < (xs.length : Int)) : ∃ d, L2.atI xs i = some d ∧ d ∈ xs := by
  obtain ⟨j, rfl⟩ : ∃ j : Nat, i = (j : Int) := ⟨i.toNat, by omega⟩
  have hj : j < xs.length := by omega
  exact ⟨xs[j], atI_nat (List.getElem?_eq_getElem hj), List.getElem_mem hj⟩
section
variable {P : Program} {w : World} {K : PySem.W.Frag} {mg : Str → Option Value} {base : Heap}
abbrev s_l_pick : Stmt := topS 45
abbrev N_l_pick : List Str := ["_law_pen", "_law_some"]
theorem sc_l_pick : FnScope N_l_pick ["_law_pen", "_law_some"] (defScope s_l_pick) := ⟨rfl, rfl, rfl, by decide +kernel, rfl, by decide +kernel, by decide +kernel⟩
theorem ok_l_pick {f f_draw : Addr} {fd fd_draw : FuncData} (F : Fun K "_law_pick" "_law_pick" s_l_pick f fd) (z_len : mg "len" = none)
    (G_l_draw : FnOk P w K mg base CX0 1 f_draw fd_draw ["_law_pen", "_law_span"] (spD K fDraw)) (C_l_draw : Cal K mg "_law_draw" f_draw fd_draw ["_law_pen", "_law_span"]) : FnOk P w K mg base CX0 2 f fd ["_law_pen", "_law_some"] (spD K fPick) := by
  refine F.ok sc_l_pick (fun vs H Q E h => ?_) (fun cdv A outer s H vs Q E hr h => ?_)
  · obtain ⟨as, os, ds, QA, EA, R, r, ⟨k, xs, cells, b, o, rfl, _⟩, _⟩ := h
    rw [r.length]
    rfl
  · refine ⟨_, (pss_one (ps_ret (pe_ix (r := rIxL K) ix_list (pv 1) (pe_call G_l_draw (hr.mono (by decide)) rfl C_l_draw.m C_l_draw.k C_l_draw.b .nil pass0 (pa_cons (pv 0) (pa_cons (pe_callB call_lenA (by rfl) z_len PySem.boot_len (pa_cons (pv 1) pa_nil)) pa_nil))) (fun _ _ => rfl)))), read_of h fun ds os QA EA hf => ?_⟩
    obtain ⟨k, xs, cells, b, o, rfl, ho, hs, hb, q⟩ := hf
    dsimp only [cxOf, Cx.nox, Cx.wish]
    show W K _ _ _ ⟨[some (.o k), some (.d (.lst xs))], os⟩
    repeat (walk_at "b")
    refine ⟨_, _, _, _, _, rfl, ho, by omega, by omega, fun d os' h0 h1 ho => ?_⟩
    obtain ⟨x, hx, hm⟩ := at_mem h0 h1
    exact bw_ixL hx (Pn.ret ‹Pn k cells b o os› ho (q x os' hm ho))
end
section
variable {P : Program} {w : World} {K : PySem.W.Frag} {mg : Str → Option Value} {base : Heap}
abbrev s_l_feed : Stmt := topS 43
abbrev N_l_feed : List Str := ["_law_script", "_law_cell"]
theorem sc_l_feed : FnScope N_l_feed ["_law_script"] (defScope s_l_feed) := ⟨rfl, rfl, rfl, by decide +kernel, rfl, by decide +kernel, by decide +kernel⟩
theorem ok_l_feed {f : Addr} {fd : FuncData} (F : Fun K "_law_feed" "_law_feed" s_l_feed f fd) : FnOk P w K mg base CX0 1 f fd ["_law_script"] (spN K fFeed) := by
  refine F.ok sc_l_feed (fun vs H Q E h => ?_) (fun cdv A outer s H vs Q E hr h => ?_)
  · obtain ⟨as, os, ds, QN, R, r, ⟨ns, rfl, _⟩, _⟩ := h
    rw [r.length]
    rfl
  · refine ⟨_, (pss_one (ps_ret (pe_disp (pps_cons pe_str (pe_lc (own := [("_law_cell", 1)]) (g := (gName 1)) rfl sc_l_feed.nd (pi_list (pe_slice sl_list (pv 0) po_none (po_some pe_int))) (blkOk_by (own := [("_law_cell", 1)]) (N := N_l_feed) (sc := defScope s_l_feed) (by decide +kernel)) (fun _ _ _ _ _ => (pg_name (i := 1) sc_l_feed.nd rfl (Or.inl rfl))) (fun _ _ _ _ _ => pts_nil) (fun _ _ _ _ _ => (pv 1))) (pps_cons pe_str pe_int (pps_cons pe_str pe_int pps_nil))) (by rfl) (by rfl) (fun z => by cases z) (by decide)))), readN_of h fun ds os QN hf => ?_⟩
    obtain ⟨ns, rfl, hl, q⟩ := hf
    try dsimp only [cxOf, Cx.nox, Cx.wish]
    show W K _ _ _ ⟨[some (.d (.lst (ns.map D.int))), none], os⟩
    refine w_retDisp ?_
    refine dw_cons (ew_str ?_)
    refine ew_lc (wg_name (by decide)) mg_name ?_
    refine iw_list ?_
    repeat (walk_at "b")
    refine sw_L ?_
    have ec : Br.cutD (ns.map D.int) none (some 63) = ns.map D.int := by
      unfold Br.cutD
      have e : (some (63 : Int)) = some ((63 : Nat) : Int) := rfl
      rw [e, HT.sIx_nat, HT.sIx_none, List.length_map, Nat.min_eq_right (by omega), List.drop_zero, Nat.sub_zero, List.take_of_length_le (by rw [List.length_map]; exact Nat.le_refl _)]
    rw [ec]
    refine ⟨_, rfl, ?_⟩
    refine ⟨fun i acc os2 => os2 = os ++ [.md []] ∧ acc = (ns.take i).map D.int, ⟨rfl, rfl⟩, ?_, ?_⟩
    · rintro i d acc os2 hd ⟨rfl, rfl⟩
      have hn : i < ns.length := by
        have z := (List.getElem?_eq_some_iff.mp hd).1
        rw [List.length_map] at z
        exact z
      have ed : d = D.int ns[i] := by
        rw [List.getElem?_map, List.getElem?_eq_getElem hn] at hd
        cases hd
        rfl
      subst ed
      refine gw_name ?_
      refine tw_yes (br_T ?_)
      show EW K X0 _ ⟨[some (.d (.lst (ns.map D.int))), some (.d (.int ns[i]))], _⟩ _
      repeat (walk_at "b")
      refine ⟨_, _, rfl, rfl, by rw [List.length_map, List.length_take, sizeLine_eq]; omega, rfl, ?_⟩
      rw [← List.take_append_getElem hn, List.map_append]
      rfl
    · rintro acc os2 ⟨rfl, rfl⟩
      rw [List.length_map, List.take_length]
      refine ⟨_, _, rfl, rfl, ?_⟩
      refine dw_cons (ew_str (ew_int ⟨_, _, rfl, rfl, dw_cons (ew_str (ew_int ⟨_, _, rfl, rfl, dw_nil ?_⟩))⟩))
      refine ⟨os, pen ns 0 0, rfl, rfl, by show 3 ≤ 15; decide, rfl, by rw [List.length_append]; rfl, .md (pen ns 0 0), ?_, ?_⟩
      · show (os ++ [Ob.md (pen ns 0 0)])[os.length]? = _
        simp
      · show QN _ ((os ++ [Ob.md (pen ns 0 0)]).take os.length)
        rw [List.take_left' rfl]
        exact q
end
section
variable {P : Program} {w : World} {K : PySem.W.Frag} {mg : Str → Option Value} {base : Heap}
end

open PySem PySem.Spec PyProof.Rows L2 Br
open Nm (dg sv svE wo lgo long)
theorem mulB {a j : Int} {i : Nat} (h0 : 0 ≤ a) (h1 : a < 256 ^ i) (hi : i ≤ 1000) (j0 : 0 ≤ j) (j1 : j < 2 ^ 64) : CMulW a j := by
  have e : (256 : Int) ^ i = 2 ^ (8 * i) := by
    rw [Int.pow_mul]
    rfl
  rw [e] at h1
  have e2 : (2 : Int) ^ (8 * i + 1) = 2 ^ (8 * i) * 2 := Int.pow_succ ..
  have pp : (0 : Int) < 2 ^ (8 * i) := Int.pow_pos (by decide)
  refine wide_mul (a := 8 * i + 1) (b := 64) ?_ (by omega) (by omega) (by decide) (by omega)
  have : ((a.natAbs : Nat) : Int) < ((2 ^ (8 * i + 1) : Nat) : Int) := by
    rw [Int.natCast_pow]
    show (a.natAbs : Int) < 2 ^ (8 * i + 1)
    omega
  exact Int.ofNat_lt.mp this
/-- a number of at most 2 ^ 210 -/
def isN (n : Int) : Prop := 0 ≤ n ∧ n < 2 ^ 210
def fNumber : FD := fun ds os QA _ => ∃ (k : Nat) (cells : List Int) (b : Int) (o : Os), ds = [.o k] ∧ Pn k cells b o os ∧ b < 2 ^ 36 ∧ ∀ n os', isN n → Pn k cells (b + 40) o os' → QA (.int n) os'
def rowOr (o : Option (List Int)) : D := match o with
  | some r => rowD r
  | none => .non
/-- n as c bytes, or None -/
def roomR (n : Int) (c : Nat) : Option (List Int) := if n / 256 ^ c = 0 then some (dg 256 n c).reverse else none
def fRoom : FD := fun ds os QA _ => ∃ (n : Int) (c : Nat), ds = [.d (.int n), .d (.int c)] ∧ 0 ≤ n ∧ c ≤ 1000 ∧ QA (rowOr (roomR n c)) os
def fWorth : FD := fun ds os QA _ => ∃ row : List Int, ds = [.d (rowD row)] ∧ isR row ∧ row.length ≤ 1000 ∧ QA (.int (wo row)) os
def fSevens : FD := fun ds os QA _ => ∃ n : Int, ds = [.d (.int n)] ∧ isN n ∧ ∀ m, svE n m → QA (rowD (sv n m).reverse) os
def longD : (Int × Nat) ⊕ Nat → D
  | .inl (v, e) => .tup [.int v, .int (e : Nat)]
  | .inr p => .lst [.str "none", .int (p : Nat)]
def fLongDue : FD := fun ds os QA _ => ∃ (row : List Int) (p : Nat), ds = [.d (rowD row), .d (.int (p : Nat))] ∧ isR row ∧ row.length ≤ 500 ∧ p ≤ row.length ∧ QA (longD (long row p)) os
theorem row_at' {row : List Int} {p : Nat} (h : p < row.length) : L2.atI (row.map D.int) (p : Int) = some (.int row[p]) := atI_nat (by rw [List.getElem?_map, List.getElem?_eq_getElem h]; rfl)
theorem last_at {os0 : Os} {x : Ob} : (os0 ++ [x])[os0.length]? = some x := by simp
theorem last_set {os0 : Os} {x y : Ob} : (os0 ++ [x]).set os0.length y = os0 ++ [y] := by
  rw [List.set_append_right _ _ (Nat.le_refl _)]
  simp
theorem ret_push {os : Os} {x : Ob} {d : D} {QA : D → Os → Prop} (q : QA d os) : RetOk os.length QA (.d d) (os ++ [x]) := by
  show QA d ((os ++ [x]).take os.length)
  rw [List.take_left' rfl]
  exact q

open PySem PySem.Spec PyProof.Rows L2 Br
open Nm (dg sv svE wo lgo long)
def fWhole : FD := fun ds os QA _ => ∃ x a, ds = [.d x] ∧ x.ty = some a ∧ QA (.bl x.isI) os
/-- what is copied -/
def okD : D → Bool
  | .non => true
  | .bl _ => true
  | .int _ => true
  | .str z => decide (z.length ≤ 1000)
  | .lst xs => decide (xs.length ≤ 1000) && xs.all D.isI
  | .tup xs => decide (xs.length ≤ 1000) && xs.all D.isI
  | .dk kvs => kvs.isEmpty
  | _ => false
def fCopI : FD := fun ds os QA _ => ∃ i : Int, ds = [.d (.int i)] ∧ QA (.int i) os
def fCop : FD := fun ds os QA _ => ∃ d, ds = [.d d] ∧ okD d = true ∧ QA d os
theorem okD_ty {d : D} (h : okD d = true) : ∃ a, d.ty = some a := by
  cases d with
  | ob C fs => cases (show false = true from h)
  | xo C fs => cases (show false = true from h)
  | _ => exact ⟨_, rfl⟩
theorem cut_all {z : Str} : cutS z none none = z := by
  unfold cutS
  rw [HT.sIx_none, HT.sIx_none, List.drop_zero, Nat.sub_zero, show z.length = z.cps.toList.length by simp [Str.length], List.take_length]
section
variable {P : Program} {w : World} {K : PySem.W.Frag} {mg : Str → Option Value} {base : Heap}
abbrev s_is_whole : Stmt := topS 1
abbrev N_is_whole : List Str := ["thing"]
theorem sc_is_whole : FnScope N_is_whole ["thing"] (defScope s_is_whole) := ⟨rfl, rfl, rfl, by decide +kernel, rfl, by decide +kernel, by decide +kernel⟩
theorem ok_is_whole {f : Addr} {fd : FuncData} (F : Fun K "is_whole" "is_whole" s_is_whole f fd) (z_isinstance : mg "isinstance" = none) (z_int : mg "int" = none) (z_bool : mg "bool" = none) : FnOk P w K mg base CX0 1 f fd ["thing"] (spD K fWhole) := by
  refine F.ok sc_is_whole (fun vs H Q E h => ?_) (fun cdv A outer s H vs Q E hr h => ?_)
  · obtain ⟨as, os, ds, QA, EA, R, r, ⟨x, a, rfl, _⟩, _⟩ := h
    rw [r.length]
    rfl
  · refine ⟨_, (pss_one (ps_ret (pe_and (pe_callB call_isi (by rfl) z_isinstance (by decide +kernel) (pa_cons (pv 0) (pa_cons (pe_bltn (v := .ty "int") (by rfl) z_int boot_int rfl) pa_nil))) (pe_one (pe_not (pe_callB call_isi (by rfl) z_isinstance (by decide +kernel) (pa_cons (pv 0) (pa_cons (pe_bltn (v := .ty "bool") (by rfl) z_bool boot_bool rfl) pa_nil)))))))), read_of h fun ds os QA EA hf => ?_⟩
    obtain ⟨x, a, rfl, ha, q⟩ := hf
    try dsimp only [cxOf, Cx.nox, Cx.wish]
    show W K _ _ _ ⟨[some (.d x)], os⟩
    obtain ⟨r, h1, r2, h2, h3⟩ := isi_int ha
    repeat (walk_at "b")
    refine ⟨x, a, r, rfl, ha, h1, ?_⟩
    refine ⟨r, rfl, br_iteB (fun e => ?_) (fun e => ?_)⟩
    · repeat (walk_at "b")
      refine ⟨x, a, r2, rfl, ha, h2, ?_⟩
      refine ⟨r2, rfl, ret_same ?_⟩
      rw [e] at h3
      have e2 : (!r2) = x.isI := by rw [← h3]; rfl
      rw [e2]
      exact q
    · rw [e] at h3
      have e2 : x.isI = false := by rw [← h3]; rfl
      rw [e2] at q
      exact ret_same q
abbrev s_copied : Stmt := topS 4
abbrev N_copied : List Str := ["thing", "part", "key"]
theorem sc_copied : FnScope N_copied ["thing"] (defScope s_copied) := ⟨rfl, rfl, rfl, by decide +kernel, rfl, by decide +kernel, by decide +kernel⟩
theorem ok_copiedI {f : Addr} {fd : FuncData} (F : Fun K "copied" "copied" s_copied f fd) (z_isinstance : mg "isinstance" = none) (z_bool : mg "bool" = none) (z_int : mg "int" = none) (z_str : mg "str" = none) (z_list : mg "list" = none) (z_tuple : mg "tuple" = none) (z_dict : mg "dict" = none)
    (C_copied : Cal K mg "copied" f fd ["thing"]) : FnOk P w K mg base CX0 1 f fd ["thing"] (spD K fCopI) := by
  have G_copied : FnOk P w K mg base CX0 0 f fd ["thing"] (spD K fNo) := ok_no
  refine F.ok sc_copied (fun vs H Q E h => ?_) (fun cdv A outer s H vs Q E hr h => ?_)
  · obtain ⟨as, os, ds, QA, EA, R, r, ⟨d, rfl, _⟩, _⟩ := h
    rw [r.length]
    rfl
  · have hu := hu_of hr
    refine ⟨_, (pss_cons (ps_if (pt_val (pe_callB call_isi (by rfl) z_isinstance (by decide +kernel) (pa_cons (pv 0) (pa_cons (pe_bltn (v := .ty "bool") (by rfl) z_bool boot_bool rfl) pa_nil)))) (pss_one (ps_ret (pv 0))) pss_nil)
  (pss_cons (ps_if (pt_val (pe_callB call_isi (by rfl) z_isinstance (by decide +kernel) (pa_cons (pv 0) (pa_cons (pe_bltn (v := .ty "int") (by rfl) z_int boot_int rfl) pa_nil)))) (pss_one (ps_ret (pe_callTy call_intA (by rfl) z_int (by decide +kernel) (pa_cons (pv 0) pa_nil)))) pss_nil)
  (pss_cons (ps_if (pt_val (pe_callB call_isi (by rfl) z_isinstance (by decide +kernel) (pa_cons (pv 0) (pa_cons (pe_bltn (v := .ty "str") (by rfl) z_str boot_str rfl) pa_nil)))) pss_never pss_nil)
  (pss_cons (ps_if (pt_val (pe_callB call_isi (by rfl) z_isinstance (by decide +kernel) (pa_cons (pv 0) (pa_cons (pe_bltn (v := .ty "list") (by rfl) z_list boot_list rfl) pa_nil)))) pss_never pss_nil)
  (pss_cons (ps_if (pt_val (pe_callB call_isi (by rfl) z_isinstance (by decide +kernel) (pa_cons (pv 0) (pa_cons (pe_bltn (v := .ty "tuple") (by rfl) z_tuple boot_tuple rfl) pa_nil)))) pss_never pss_nil)
  (pss_cons (ps_if (pt_val (pe_callB call_isi (by rfl) z_isinstance (by decide +kernel) (pa_cons (pv 0) (pa_cons (pe_bltn (v := .ty "dict") (by rfl) z_dict boot_dict rfl) pa_nil)))) pss_never pss_nil)
  (pss_one (ps_ret (pv 0))))))))), read_of h fun ds os QA EA hf => ?_⟩
    obtain ⟨i, rfl, q⟩ := hf
    try dsimp only [cxOf, Cx.nox, Cx.wish]
    show W K _ _ _ ⟨[some (.d (.int i)), none, none], os⟩
    repeat (walk_at "b")
    refine ⟨_, "int", false, rfl, rfl, (by decide +kernel), ?_⟩
    repeat (walk_at "b")
    refine ⟨_, "int", true, rfl, rfl, (by decide +kernel), ?_⟩
    repeat (walk_at "b")
    refine cw_intI ?_
    exact ret_same q
theorem ok_copied {f : Addr} {fd : FuncData} (F : Fun K "copied" "copied" s_copied f fd) (z_isinstance : mg "isinstance" = none) (z_bool : mg "bool" = none) (z_int : mg "int" = none) (z_str : mg "str" = none) (z_list : mg "list" = none) (z_tuple : mg "tuple" = none) (z_dict : mg "dict" = none)
    (G_copied : FnOk P w K mg base CX0 1 f fd ["thing"] (spD K fCopI)) (C_copied : Cal K mg "copied" f fd ["thing"]) : FnOk P w K mg base CX0 2 f fd ["thing"] (spD K fCop) := by
  refine F.ok sc_copied (fun vs H Q E h => ?_) (fun cdv A outer s H vs Q E hr h => ?_)
  · obtain ⟨as, os, ds, QA, EA, R, r, ⟨d, rfl, _⟩, _⟩ := h
    rw [r.length]
    rfl
  · have hu := hu_of hr
    refine ⟨_, (pss_cons (ps_if (pt_val (pe_callB call_isi (by rfl) z_isinstance (by decide +kernel) (pa_cons (pv 0) (pa_cons (pe_bltn (v := .ty "bool") (by rfl) z_bool boot_bool rfl) pa_nil)))) (pss_one (ps_ret (pv 0))) pss_nil)
  (pss_cons (ps_if (pt_val (pe_callB call_isi (by rfl) z_isinstance (by decide +kernel) (pa_cons (pv 0) (pa_cons (pe_bltn (v := .ty "int") (by rfl) z_int boot_int rfl) pa_nil)))) (pss_one (ps_ret (pe_callTy call_intA (by rfl) z_int (by decide +kernel) (pa_cons (pv 0) pa_nil)))) pss_nil)
  (pss_cons (ps_if (pt_val (pe_callB call_isi (by rfl) z_isinstance (by decide +kernel) (pa_cons (pv 0) (pa_cons (pe_bltn (v := .ty "str") (by rfl) z_str boot_str rfl) pa_nil)))) (pss_one (ps_ret (pe_slice sl_str (pv 0) po_none po_none))) pss_nil)
  (pss_cons (ps_if (pt_val (pe_callB call_isi (by rfl) z_isinstance (by decide +kernel) (pa_cons (pv 0) (pa_cons (pe_bltn (v := .ty "list") (by rfl) z_list boot_list rfl) pa_nil)))) (pss_one (ps_ret (pe_lc (own := [("part", 1)]) (g := (gName 1)) rfl sc_copied.nd (pi_list (pv 0)) (blkOk_by (own := [("part", 1)]) (N := N_copied) (sc := defScope s_copied) (by decide +kernel)) (fun _ _ _ _ _ => (pg_name (i := 1) sc_copied.nd rfl (Or.inl rfl))) (fun _ _ _ _ _ => pts_nil) (fun _ _ _ _ _ => (pe_call G_copied (hr.mono (by decide)) rfl C_copied.m C_copied.k C_copied.b .nil pass0 (pa_cons (pv 1) pa_nil)))))) pss_nil)
  (pss_cons (ps_if (pt_val (pe_callB call_isi (by rfl) z_isinstance (by decide +kernel) (pa_cons (pv 0) (pa_cons (pe_bltn (v := .ty "tuple") (by rfl) z_tuple boot_tuple rfl) pa_nil)))) (pss_one (ps_ret (pe_callTy call_tupA (by rfl) z_tuple (by decide +kernel) (pa_cons (pe_lc (own := [("part", 1)]) (g := (gName 1)) rfl sc_copied.nd (pi_tup (pv 0)) (blkOk_by (own := [("part", 1)]) (N := N_copied) (sc := defScope s_copied) (by decide +kernel)) (fun _ _ _ _ _ => (pg_name (i := 1) sc_copied.nd rfl (Or.inl rfl))) (fun _ _ _ _ _ => pts_nil) (fun _ _ _ _ _ => (pe_call G_copied (hr.mono (by decide)) rfl C_copied.m C_copied.k C_copied.b .nil pass0 (pa_cons (pv 1) pa_nil)))) pa_nil)))) pss_nil)
  (pss_cons (ps_if (pt_val (pe_callB call_isi (by rfl) z_isinstance (by decide +kernel) (pa_cons (pv 0) (pa_cons (pe_bltn (v := .ty "dict") (by rfl) z_dict boot_dict rfl) pa_nil)))) (pss_one (ps_ret (pe_lk (pe_dc (own := [("key", 2)]) (g := (gName 2)) rfl sc_copied.nd (pi_keys (pv 0)) (blkOk_by (own := [("key", 2)]) (N := N_copied) (sc := defScope s_copied) (by decide +kernel)) (fun _ _ _ _ _ => (pg_name (i := 2) sc_copied.nd rfl (Or.inl rfl))) (fun _ _ _ _ _ => pts_nil) (fun _ _ _ _ _ => (pv 2)) (fun _ _ _ _ _ => (pe_call G_copied (hr.mono (by decide)) rfl C_copied.m C_copied.k C_copied.b .nil pass0 (pa_cons (pe_dget hu (pv 0) (pv 2) (fun _ _ => rfl)) pa_nil))))))) pss_nil)
  (pss_one (ps_ret (pv 0))))))))), read_of h fun ds os QA EA hf => ?_⟩
    obtain ⟨d, rfl, hc, q⟩ := hf
    try dsimp only [cxOf, Cx.nox, Cx.wish]
    show W K _ _ _ ⟨[some (.d d), none, none], os⟩
    repeat (walk_at "b")
    cases d with
    | ob C fs => cases (show false = true from hc)
    | xo C fs => cases (show false = true from hc)
    | bl b =>
      refine ⟨_, "bool", true, rfl, rfl, (by decide +kernel), ?_⟩
      repeat (walk_at "b")
      exact ret_same q
    | int i =>
      refine ⟨_, "int", false, rfl, rfl, (by decide +kernel), ?_⟩
      repeat (walk_at "b")
      refine ⟨_, "int", true, rfl, rfl, (by decide +kernel), ?_⟩
      repeat (walk_at "b")
      refine cw_intI ?_
      exact ret_same q
    | str z =>
      have hz : z.length ≤ 1000 := of_decide_eq_true hc
      refine ⟨_, "str", false, rfl, rfl, (by decide +kernel), ?_⟩
      repeat (walk_at "b")
      refine ⟨_, "str", false, rfl, rfl, (by decide +kernel), ?_⟩
      repeat (walk_at "b")
      refine ⟨_, "str", true, rfl, rfl, (by decide +kernel), ?_⟩
      repeat (walk_at "b")
      refine sw_S (by rw [sizeLine_eq]; omega) ?_
      rw [cut_all]
      exact ret_same q
    | dk kvs =>
      have e : kvs = [] := by
        cases kvs with
        | nil => rfl
        | cons a r => cases (show false = true from hc)
      subst e
      refine ⟨_, "dict", false, rfl, rfl, (by decide +kernel), ?_⟩
      repeat (walk_at "b")
      refine ⟨_, "dict", false, rfl, rfl, (by decide +kernel), ?_⟩
      repeat (walk_at "b")
      refine ⟨_, "dict", false, rfl, rfl, (by decide +kernel), ?_⟩
      repeat (walk_at "b")
      refine ⟨_, "dict", false, rfl, rfl, (by decide +kernel), ?_⟩
      repeat (walk_at "b")
      refine ⟨_, "dict", false, rfl, rfl, (by decide +kernel), ?_⟩
      repeat (walk_at "b")
      refine ⟨_, "dict", true, rfl, rfl, (by decide +kernel), ?_⟩
      repeat (walk_at "b")
      exact ew_dc0 rfl (ret_same q)
    | non =>
      refine ⟨_, "NoneType", false, rfl, rfl, (by decide +kernel), ?_⟩
      repeat (walk_at "b")
      refine ⟨_, "NoneType", false, rfl, rfl, (by decide +kernel), ?_⟩
      repeat (walk_at "b")
      refine ⟨_, "NoneType", false, rfl, rfl, (by decide +kernel), ?_⟩
      repeat (walk_at "b")
      refine ⟨_, "NoneType", false, rfl, rfl, (by decide +kernel), ?_⟩
      repeat (walk_at "b")
      refine ⟨_, "NoneType", false, rfl, rfl, (by decide +kernel), ?_⟩
      repeat (walk_at "b")
      refine ⟨_, "NoneType", false, rfl, rfl, (by decide +kernel), ?_⟩
      repeat (walk_at "b")
      exact ret_same q
    | lst xs =>
      have hc2 : (decide (xs.length ≤ 1000) && xs.all D.isI) = true := hc
      rw [Bool.and_eq_true] at hc2
      obtain ⟨hl, hcs⟩ := hc2
      have hl2 : xs.length ≤ 1000 := of_decide_eq_true hl
      refine ⟨_, "list", false, rfl, rfl, (by decide +kernel), ?_⟩
      repeat (walk_at "b")
      refine ⟨_, "list", false, rfl, rfl, (by decide +kernel), ?_⟩
      repeat (walk_at "b")
      refine ⟨_, "list", false, rfl, rfl, (by decide +kernel), ?_⟩
      repeat (walk_at "b")
      refine ⟨_, "list", true, rfl, rfl, (by decide +kernel), ?_⟩
      repeat (walk_at "b")
      refine ew_lc (wg_name (by decide)) mg_name ?_
      refine iw_list ?_
      repeat (walk_at "b")
      refine ⟨fun i acc os2 => os2 = os ∧ acc = xs.take i, ⟨rfl, rfl⟩, ?_, ?_⟩
      · rintro i d acc os2 hd ⟨rfl, rfl⟩
        have hi : i < xs.length := (List.getElem?_eq_some_iff.mp hd).1
        have ed : xs[i] = d := (List.getElem?_eq_some_iff.mp hd).2
        subst ed
        refine gw_name ?_
        refine tw_yes (br_T ?_)
        refine ew_call ?_
        refine aw_cons (ew_var (d := .d xs[i]) rfl (aw_nil ?_))
        obtain ⟨z, hz⟩ := isI_is (List.all_eq_true.mp hcs _ (List.getElem_mem hi))
        rw [hz]
        refine ⟨z, rfl, ?_⟩
        rw [← hz]
        exact ⟨_, _, rfl, rfl, by rw [List.length_take, sizeLine_eq]; omega, rfl, by rw [List.take_append_getElem hi]⟩
      · rintro acc os2 ⟨rfl, rfl⟩
        rw [List.take_length]
        exact ret_same q
    | tup xs =>
      have hc2 : (decide (xs.length ≤ 1000) && xs.all D.isI) = true := hc
      rw [Bool.and_eq_true] at hc2
      obtain ⟨hl, hcs⟩ := hc2
      have hl2 : xs.length ≤ 1000 := of_decide_eq_true hl
      refine ⟨_, "tuple", false, rfl, rfl, (by decide +kernel), ?_⟩
      repeat (walk_at "b")
      refine ⟨_, "tuple", false, rfl, rfl, (by decide +kernel), ?_⟩
      repeat (walk_at "b")
      refine ⟨_, "tuple", false, rfl, rfl, (by decide +kernel), ?_⟩
      repeat (walk_at "b")
      refine ⟨_, "tuple", false, rfl, rfl, (by decide +kernel), ?_⟩
      repeat (walk_at "b")
      refine ⟨_, "tuple", true, rfl, rfl, (by decide +kernel), ?_⟩
      refine ⟨_, rfl, br_T (w_ret (ew_cb (aw_cons ?_)))⟩
      refine ew_lc (wg_name (by decide)) mg_name ?_
      refine iw_tup ?_
      repeat (walk_at "b")
      refine ⟨fun i acc os2 => os2 = os ∧ acc = xs.take i, ⟨rfl, rfl⟩, ?_, ?_⟩
      · rintro i d acc os2 hd ⟨rfl, rfl⟩
        have hi : i < xs.length := (List.getElem?_eq_some_iff.mp hd).1
        have ed : xs[i] = d := (List.getElem?_eq_some_iff.mp hd).2
        subst ed
        refine gw_name ?_
        refine tw_yes (br_T ?_)
        refine ew_call ?_
        refine aw_cons (ew_var (d := .d xs[i]) rfl (aw_nil ?_))
        obtain ⟨z, hz⟩ := isI_is (List.all_eq_true.mp hcs _ (List.getElem_mem hi))
        rw [hz]
        refine ⟨z, rfl, ?_⟩
        rw [← hz]
        exact ⟨_, _, rfl, rfl, by rw [List.length_take, sizeLine_eq]; omega, rfl, by rw [List.take_append_getElem hi]⟩
      · rintro acc os2 ⟨rfl, rfl⟩
        rw [List.take_length]
        refine aw_nil (cw_tupL (ret_same q))
end

open PySem PySem.Spec PyProof.Rows L2 Br
open Nm (dg sv svE wo lgo long)
/-- a class of exceptions with its own __init__, over ValueError -/
structure Xve (K : PySem.W.Frag) (mg : Str → Option Value) (x : Str) (C f : Addr) (fd : FuncData) (ps : List Str) : Prop where
  T : OexC K C
  iC : PySem.W.findIn K (.ref C) "__init__" = some (some (.ref f))
  tI : PySem.W.typeIn K (.ref f) = some (.type "function")
  b : Binds K fd ps []
  m : mg x = some (.ref C)
section
variable {P : Program} {w : World} {K : PySem.W.Frag} {mg : Str → Option Value} {base : Heap}
theorem init_walk {C : Addr} {f : Str} {f1 : FD} {as : List Addr} {os : Os} {a : Addr} {v : V} {d : D} {H : Hp} {Q : VK} {σ : L2.St} (T : OexC K C) (nA : PySem.W.findIn K (.ref C) f = some none) (h0 : σ[0]? = some (some (.ref a))) (h1 : σ[1]? = some (some v))
    (R : Ro K as H os) (na : a ∉ as) (rd : Dx K as H v d) (ea : H a = some (exo a C none))
    (k : ∀ (dx : Addr) (v' : V) (H' : Hp), H dx = none → dx ≠ a → H' a = some (exo a C (some dx)) → H' dx = some (exd dx [(f, v')]) →
      (∀ Hf : Hp, (∀ b o, b ≠ a → b ≠ dx → H' b = some o → Hf b = some o) → (∀ b o, b ≠ a → b ∉ as → H b = some o → Hf b = some o) ∧ Ro K as Hf os ∧ Dx K as Hf v' d) → Q .non H')
    (cop : ∀ (QA : D → Os → Prop), QA d os → f1 [.d d] os QA fun _ _ _ => False) (D : Ends) (hD : ∀ σ H', Q .non H' → D.nx σ H') :
    tOst K f (tVar 0) (tCall (spD K f1) [] E0 (tCons (tVar 1) tNil)) D σ H := by
  refine ⟨v, h1, as, os, [.d d], fun d' os' => d' = d ∧ os' = os, fun _ _ _ => False, R, .cons rd .nil, cop _ ⟨rfl, rfl⟩, ?_, fun _ _ _ _ _ _ _ _ _ _ _ z => z.elim⟩
  rintro v' H1 d' os' g R1 r1 ⟨rfl, rfl⟩
  have ea1 : H1 a = some (exo a C none) := g _ _ ea na
  refine ⟨_, h0, a, C, rfl, T, nA, .inl ⟨ea1, fun dx hdx hne => hD _ _ (k dx v' _ (g.free (R1.notin hdx) hdx) hne upd_same (by rw [upd_ne hne]; exact upd_same) fun Hf same => ?_)⟩⟩
  have keep : KeepX C H1 Hf := fun b u e nu => by
    have nb : b ≠ a := fun z => by
      rw [z, ea1] at e
      cases e
      exact nu (by rw [z])
    refine same b u nb (ne_of_none e hdx) ?_
    rw [upd_ne nb, upd_ne (ne_of_none e hdx)]
    exact e
  refine ⟨fun b o nb n e => ?_, R1.kx keep, r1.kx keep⟩
  have e1 := g b o e n
  refine same b o nb (ne_of_none e1 hdx) ?_
  rw [upd_ne nb, upd_ne (ne_of_none e1 hdx)]
  exact e1
abbrev s_NoNumber_init : Stmt := inClass (topS 12) 0
abbrev N_NoNumber_init : List Str := ["self", "number"]
theorem sc_NoNumber_init : FnScope N_NoNumber_init ["self", "number"] (defScope s_NoNumber_init) := ⟨rfl, rfl, rfl, by decide +kernel, rfl, by decide +kernel, by decide +kernel⟩
theorem ok_NoNumber_init {C f a1 : Addr} {fd d1 : FuncData} (F : Fun K "__init__" "NoNumber.__init__" s_NoNumber_init f fd) (T : OexC K C) (nA : PySem.W.findIn K (.ref C) "number" = some none) (z_ValueError : mg "ValueError" = none) (vV : PySem.W.findCls K (.type "ValueError") (.type "type") "__init__" = some (.val (.builtin "ValueError.__init__")))
    (G_copied : FnOk P w K mg base CX0 2 a1 d1 ["thing"] (spD K fCop)) (C_copied : Cal K mg "copied" a1 d1 ["thing"]) : FnOk P w K mg base CX0 3 f fd ["self", "number"] (spIX K C "number" okD) := by
  refine F.ok sc_NoNumber_init (fun vs H Q E h => ?_) (fun cdv A outer s H vs Q E hr h => ?_)
  · obtain ⟨as, os, a, v, d, rfl, _⟩ := h
    rfl
  · obtain ⟨as, os, a, v, d, rfl, R, na, rd, hd, ea, k⟩ := h
    refine ⟨_, pss_cons (ps_expr (pe_veinit (by rfl) z_ValueError vV (pa_cons (pv 0) (pa_cons pe_str pa_nil))))
      (pss_one (ps_ost (pv 0) (pe_call G_copied (hr.mono (by decide)) rfl C_copied.m C_copied.k C_copied.b .nil pass0 (pa_cons (pv 1) pa_nil)))), ?_⟩
    refine ⟨_, rfl, a, C, _, rfl, Nat.le_of_ble_eq_true rfl, T, ea, ?_⟩
    exact init_walk T nA rfl rfl R na rd ea k (fun QA q => ⟨d, rfl, hd, q⟩) _ fun σ H' q => q
abbrev s_NoWord_init : Stmt := inClass (topS 11) 0
abbrev N_NoWord_init : List Str := ["self", "at"]
theorem sc_NoWord_init : FnScope N_NoWord_init ["self", "at"] (defScope s_NoWord_init) := ⟨rfl, rfl, rfl, by decide +kernel, rfl, by decide +kernel, by decide +kernel⟩
theorem ok_NoWord_init {C f a1 : Addr} {fd d1 : FuncData} (F : Fun K "__init__" "NoWord.__init__" s_NoWord_init f fd) (T : OexC K C) (nA : PySem.W.findIn K (.ref C) "at" = some none) (z_ValueError : mg "ValueError" = none) (vV : PySem.W.findCls K (.type "ValueError") (.type "type") "__init__" = some (.val (.builtin "ValueError.__init__")))
    (G_copied : FnOk P w K mg base CX0 2 a1 d1 ["thing"] (spD K fCop)) (C_copied : Cal K mg "copied" a1 d1 ["thing"]) : FnOk P w K mg base CX0 3 f fd ["self", "at"] (spIX K C "at" okD) := by
  refine F.ok sc_NoWord_init (fun vs H Q E h => ?_) (fun cdv A outer s H vs Q E hr h => ?_)
  · obtain ⟨as, os, a, v, d, rfl, _⟩ := h
    rfl
  · obtain ⟨as, os, a, v, d, rfl, R, na, rd, hd, ea, k⟩ := h
    refine ⟨_, pss_cons (ps_expr (pe_veinit (by rfl) z_ValueError vV (pa_cons (pv 0) (pa_cons pe_str pa_nil))))
      (pss_one (ps_ost (pv 0) (pe_call G_copied (hr.mono (by decide)) rfl C_copied.m C_copied.k C_copied.b .nil pass0 (pa_cons (pv 1) pa_nil)))), ?_⟩
    refine ⟨_, rfl, a, C, _, rfl, Nat.le_of_ble_eq_true rfl, T, ea, ?_⟩
    exact init_walk T nA rfl rfl R na rd ea k (fun QA q => ⟨d, rfl, hd, q⟩) _ fun σ H' q => q
/-- raised, with this field -/
theorem raise_d {E : XK} {EA : Xa} {os os1 : Os} {Sl : Sl} {En : Ea} {C : Addr} {f : Str} {d : D} {te : TE} (hd : okD d = true)
    (h : EW K { wx := fun cls d (x : L2.St) H => E cls d H, xe := fun C fds S => EA C fds (S.os.take os.length) } te ⟨Sl, os1⟩ fun x os' => x = .d d ∧ os' = os1) (q : EA C [(f, d)] (os1.take os.length)) :
    W K { wx := fun cls d (x : L2.St) H => E cls d H, xe := fun C fds S => EA C fds (S.os.take os.length) } (fun x σ H => tMkO C (spIX K C f okD) [] (tCons te tNil) σ H fun cls d H' => E cls d H') En ⟨Sl, os1⟩ := by
  refine w_raiseX (Wx := fun cls d x H => E cls d H) rfl (aw_cons (ew_mono h ?_))
  rintro x os' ⟨rfl, rfl⟩
  exact aw_nil ⟨_, rfl, hd, q⟩
def fBytesOf (M : Addr) : FD := fun ds os QA EA => ∃ (d : D) (c : Nat), ds = [.d d, .d (.int c)] ∧ okD d = true ∧ c ≤ 1000 ∧ (∀ n : Int, d = .int n → 0 ≤ n → ∀ r, roomR n c = some r → QA (rowD r) os) ∧
  ((∀ n : Int, d = .int n → 0 ≤ n → roomR n c = none) → EA M [("number", d)] os)
def fNumberOf : FD := fWorth
def fLongOf (M : Addr) : FD := fun ds os QA EA => ∃ d : D, ds = [.d d] ∧ okD d = true ∧ (∀ n : Int, d = .int n → 0 ≤ n → n < 2 ^ 210 ∧ ∀ m, svE n m → QA (rowD (sv n m).reverse) os) ∧ ((∀ n : Int, d = .int n → n < 0) → EA M [("number", d)] os)
def fLongAt (M : Addr) : FD := fun ds os QA EA => ∃ (row : List Int) (p : Nat), ds = [.d (rowD row), .d (.int (p : Nat))] ∧ isR row ∧ row.length ≤ 500 ∧ p ≤ row.length ∧ (∀ v e, long row p = .inl (v, e) → QA (.tup [.int v, .int (e : Nat)]) os) ∧ (∀ e, long row p = .inr e → EA M [("at", .int (e : Nat))] os)
def fSumOf : FD := fun ds os QA _ => ∃ row : List Int, ds = [.d (rowD row)] ∧ QA (.int (row.sum % 65536)) os
abbrev s_bytes_of : Stmt := topS 19
abbrev N_bytes_of : List Str := ["number", "many", "row", "rest", "_"]
theorem sc_bytes_of : FnScope N_bytes_of ["number", "many"] (defScope s_bytes_of) := ⟨rfl, rfl, rfl, by decide +kernel, rfl, by decide +kernel, by decide +kernel⟩
theorem ok_bytes_of {M f a1 a2 : Addr} {fd d1 d2 : FuncData} {kws : List (Str × V)} (F : FunD K "bytes_of" "bytes_of" (defArgs s_bytes_of) (defBody s_bytes_of) (defScope s_bytes_of) [] kws f fd) (z_range : mg "range" = none) (z_tuple : mg "tuple" = none) (z_reversed : mg "reversed" = none)
    (G_is_whole : FnOk P w K mg base CX0 1 a1 d1 ["thing"] (spD K fWhole)) (C_is_whole : Cal K mg "is_whole" a1 d1 ["thing"])
    (G_NoNumber : FnOk P w K mg base CX0 3 a2 d2 ["self", "number"] (spIX K M "number" okD)) (X_NoNumber : Xve K mg "NoNumber" M a2 d2 ["self", "number"]) : FnOk P w K mg base (CX P w) 5 f fd ["number", "many"] (spD K (fBytesOf M)) := by
  refine F.ok sc_bytes_of (fun vs H Q E h => ?_) (fun cdv A outer s H vs Q E hr h => ?_)
  · obtain ⟨as, os, ds, QA, EA, R, r, ⟨d, c, rfl, _⟩, _⟩ := h
    rw [r.length]
    rfl
  · refine ⟨_, (pss_cons (ps_if (PW.pt (pw_or (pt_not (pt_val (pe_call G_is_whole (hr.mono (by decide)) rfl C_is_whole.m C_is_whole.k C_is_whole.b .nil pass0 (pa_cons (pv 0) pa_nil)))) (pw_or1 (pt_cmpR op_lt (pv 0) pe_int (nomark _))))) (pss_one (ps_raise rfl (takes_of rfl rfl rfl rfl) (pmk_oex X_NoNumber.T X_NoNumber.iC X_NoNumber.tI G_NoNumber (hr.mono (by decide)) X_NoNumber.b .nil pass0 rfl X_NoNumber.m (pa_cons (pv 0) pa_nil)))) pss_nil)
  (pss_cons (ps_set (i := 2) sc_bytes_of.nd rfl (Or.inl rfl) (pe_lst pa_nil))
  (pss_cons (ps_set (i := 3) sc_bytes_of.nd rfl (Or.inl rfl) (pv 0))
  (pss_cons (ps_for (passes_of rfl) rfl (pi_range1 (by rfl) z_range (pa_cons (pv 1) pa_nil)) (pg_name (i := 4) sc_bytes_of.nd rfl (Or.inl rfl))
    (pss_cons (ps_expr (pe_bm PySem.F.plainAttrs_list PySem.F.slot_list_append PySem.F.type_list_append mt_append (pv 2) (pa_cons (pe_op op_maskA (pv 3) pe_int) pa_nil)))
    (pss_one (ps_set (i := 3) sc_bytes_of.nd rfl (Or.inl rfl) (pe_op op_rightA (pv 3) pe_int)))))
  (pss_cons (ps_if (pt_cmpR op_gt (pv 3) pe_int (nomark _)) (pss_one (ps_raise rfl (takes_of rfl rfl rfl rfl) (pmk_oex X_NoNumber.T X_NoNumber.iC X_NoNumber.tI G_NoNumber (hr.mono (by decide)) X_NoNumber.b .nil pass0 rfl X_NoNumber.m (pa_cons (pv 0) pa_nil)))) pss_nil)
  (pss_one (ps_ret (RT.pe_tupRev rfl (by rfl) z_tuple (by rfl) z_reversed (pv 2))))))))), read_of h fun ds os QA EA hf => ?_⟩
    obtain ⟨d, c, rfl, hd, hc, hQ, hE⟩ := hf
    try dsimp only [cxOf, Cx.nox, Cx.wish]
    show W K _ _ _ ⟨[some (.d d), some (.d (.int c)), none, none, none], os⟩
    obtain ⟨ty, hty⟩ := okD_ty hd
    repeat (walk_at "b")
    refine ⟨d, ty, rfl, hty, _, rfl, ?_⟩
    have no : (∀ n : Int, d = .int n → 0 ≤ n → roomR n c = none) → EA M [("number", d)] (os.take os.length) := fun z => by
      rw [List.take_length]
      exact hE z
    cases hi : d.isI with
    | false =>
      refine br_nF (br_T ?_)
      refine raise_d hd ?_ (no fun n e => by rw [e] at hi; cases hi)
      repeat (walk_at "b")
      exact ⟨rfl, rfl⟩
    | true =>
      obtain ⟨n, rfl⟩ := isI_is hi
      refine br_nT ?_
      repeat (walk_at "b")
      refine br_ite (fun hn => ?_) (fun hn => ?_)
      · refine raise_d hd ?_ (no fun m e h0 => by cases e; omega)
        repeat (walk_at "b")
        exact ⟨rfl, rfl⟩
      · have hn0 : 0 ≤ n := by omega
        refine w_next ?_
        refine w_seq (w_newL ?_)
        dsimp only [List.set_cons_zero, List.set_cons_succ]
        repeat (walk_at "b")
        refine w_for (iw_rng1 ?_)
        repeat (walk_at "b")
        refine ⟨by omega, by omega, fun i S' => ∃ o4 : Option Sv, S' = ⟨[some (.d (.int n)), some (.d (.int c)), some (.o os.length), some (.d (.int (n / 256 ^ i))), o4], os ++ [.ml ((dg 256 n i).map D.int)]⟩, ⟨none, by simp [dg]⟩, ?_, ?_⟩
        · rintro i d S' hd ⟨o4, rfl⟩
          obtain ⟨hi, rfl⟩ := rngD_get hd
          have hi2 : i < 1000 := by omega
          refine gw_name ?_
          refine w_seq (w_drop (ew_app ?_))
          repeat (walk_at "b")
          refine ⟨_, _, rfl, last_at, ?_⟩
          repeat (walk_at "b")
          refine bw_mask 8 rfl ?_
          refine ⟨_, _, rfl, last_at, by rw [List.length_map, Nm.dg_len, sizeLine_eq]; omega, ?_⟩
          rw [last_set]
          repeat (walk_at "b")
          refine bw_right 8 rfl ?_
          refine gw_name ?_
          refine ⟨some (.d (.int (0 + (i : Int) * 1))), ?_⟩
          rw [show (2 : Int) ^ 8 = 256 from rfl, Nm.div_step (n := n) (B := 256) i (by decide), Nm.dg_succ, List.map_append]
          rfl
        · rintro S' ⟨o4, rfl⟩
          rw [rngD_len, Int.toNat_natCast]
          have h0 := Nm.div_nn2 (n := n) c hn0
          repeat (walk_at "b")
          refine br_ite (fun h1 => ?_) (fun h1 => ?_)
          · refine raise_d hd ?_ ?_
            · repeat (walk_at "b")
              exact ⟨rfl, rfl⟩
            · rw [List.take_left' rfl]
              exact hE fun m e _ => by
                cases e
                unfold roomR
                rw [if_neg (by omega)]
          · repeat (walk_at "b")
            refine ew_tupRevO ?_
            repeat (walk_at "b")
            refine ⟨_, _, rfl, last_at, ?_⟩
            rw [← List.map_reverse]
            refine ret_push (hQ n rfl hn0 _ ?_)
            unfold roomR
            rw [if_pos (by omega)]
end

open PySem PySem.Spec PyProof.Rows L2 Br
open Nm (dg sv svE wo lgo long)
section
variable {P : Program} {w : World} {K : PySem.W.Frag} {mg : Str → Option Value} {base : Heap}
abbrev s_number_of : Stmt := topS 20
abbrev N_number_of : List Str := ["row", "number", "byte"]
theorem sc_number_of : FnScope N_number_of ["row"] (defScope s_number_of) := ⟨rfl, rfl, rfl, by decide +kernel, rfl, by decide +kernel, by decide +kernel⟩
theorem ok_number_of {f : Addr} {fd : FuncData} (F : Fun K "number_of" "number_of" s_number_of f fd) : FnOk P w K mg base CX0 1 f fd ["row"] (spD K fNumberOf) := by
  refine F.ok sc_number_of (fun vs H Q E h => ?_) (fun cdv A outer s H vs Q E hr h => ?_)
  · obtain ⟨as, os, ds, QA, EA, R, r, ⟨row, rfl, _⟩, _⟩ := h
    rw [r.length]
    rfl
  · have passOwn := @PassesOwn.never
    refine ⟨_, (pss_cons (ps_set (i := 1) sc_number_of.nd rfl (Or.inl rfl) pe_int)
  (pss_cons (ps_for PassesOwn.never rfl (pi_tup (pv 0)) (pg_name (i := 2) sc_number_of.nd rfl (Or.inl rfl))
    (pss_one (ps_set (i := 1) sc_number_of.nd rfl (Or.inl rfl) (pe_op op_add (pe_op op_mulW (pv 1) pe_int) (pv 2)))))
  (pss_one (ps_ret (pv 1))))), read_of h fun ds os QA EA hf => ?_⟩
    obtain ⟨row, rfl, hrow, hl, q⟩ := hf
    try dsimp only [cxOf, Cx.nox, Cx.wish]
    show W K _ _ _ ⟨[some (.d (rowD row)), none, none], os⟩
    repeat (walk_at "b")
    refine w_for (iw_tup ?_)
    repeat (walk_at "b")
    refine ⟨fun i S' => ∃ o2 : Option Sv, S' = ⟨[some (.d (rowD row)), some (.d (.int (wo (row.take i)))), o2], os⟩, ⟨none, rfl⟩, ?_, ?_⟩
    · rintro i d S' hd ⟨o2, rfl⟩
      rw [List.getElem?_map] at hd
      obtain ⟨x, hx, rfl⟩ := Option.map_eq_some_iff.mp hd
      have hi : i < row.length := (List.getElem?_eq_some_iff.mp hx).1
      have ex : row[i] = x := (List.getElem?_eq_some_iff.mp hx).2
      have bd := Nm.wo_lt (i := i) (row := row.take i) (by rw [List.length_take]; omega) fun x hx => hrow x (List.mem_of_mem_take hx)
      refine gw_name ?_
      repeat (walk_at "b")
      refine bw_i (mulB bd.1 bd.2 (by omega) (by decide) (by decide)) ?_
      repeat (walk_at "b")
      refine ⟨some (.d (.int x)), ?_⟩
      rw [← List.take_append_getElem hi, Nm.wo_snoc, ex]
    · rintro S' ⟨o2, rfl⟩
      rw [List.length_map, List.take_length]
      repeat (walk_at "b")
      exact ret_same q
end

open PySem PySem.Spec PyProof.Rows L2 Br
/-! ### the words -/
abbrev En := Str × Int × Str × Option Str
def mst : List En := [("halt", 0, "", none), ("back", 1, "", none), ("out", 4, "n", none), ("in", 8, "n", none), ("push", 12, "n", none), ("pop", 16, "n", none), ("set.short", 20, "n", some "byte"), ("set.long", 24, "n", some "two"), ("copy", 32, "nm", none), ("add", 48, "nm", none), ("less", 64, "nm", none), ("times", 80, "nm", none), ("go.short", 96, "", some "near"), ("go.long", 97, "", some "full"), ("call.short", 98, "", some "near"), ("call.long", 99, "", some "full"), ("if.short", 100, "n", some "near"), ("if.long", 104, "n", some "full"), ("point", 112, "x", some "full"), ("walk", 120, "xn", none), ("turn", 128, "xn", none), ("load", 136, "nx", none), ("store", 144, "nx", none), ("same", 152, "n", none), ("move", 160, "xy", none), ("take", 164, "xy", none), ("keep", 168, "xy", none), ("callat", 172, "x", none), ("goat", 174, "x", none), ("none", 176, "nx", none)]
def tbW : List (Str × D) := mst.map fun e => (e.1, .tup [.int e.2.1, .str e.2.2.1, keyD2 e.2.2.2])
def regT (l : Str) (n : Int) : D := .tup [.str l, .int n]
def tbR : List (Str × D) := [("", .tup []), ("n", .tup [regT "abcd" 1]), ("nm", .tup [regT "abcd" 4, regT "abcd" 1]), ("x", .tup [regT "pq" 1]), ("xn", .tup [regT "pq" 4, regT "abcd" 1]), ("nx", .tup [regT "abcd" 1, regT "pq" 4]), ("xy", .tup [regT "pq" 2, regT "pq" 1])]
def tbF : List (Option Str × D) := [(none, .tup [.int 0, .non, .non]), (some "byte", .tup [.int 1, .int 0, .int 255]), (some "two", .tup [.int 2, .int 0, .int 65535]), (some "near", .tup [.int 1, .int (-128), .int 127]), (some "full", .tup [.int 2, .int 0, .int 65535])]
def mfind (z : Str) : Option En := mst.find? fun e => decide (e.1 = z)
theorem lookT_W (z : Str) : lookT tbW z = (mfind z).map fun e => D.tup [.int e.2.1, .str e.2.2.1, keyD2 e.2.2.2] := by
  unfold lookT tbW mfind
  rw [List.find?_map, Option.map_map]
  rfl
theorem mfind_mem {z : Str} {e : En} (h : mfind z = some e) : e ∈ mst ∧ e.1 = z :=
  ⟨List.mem_of_find?_eq_some h, by simpa using List.find?_some h⟩
def pats : List Str := ["", "n", "nm", "x", "xn", "nx", "xy"]
def flds : List (Option Str) := [none, some "byte", some "two", some "near", some "full"]
theorem in_pats : ∀ e ∈ mst, e.2.2.1 ∈ pats ∧ e.2.2.2 ∈ flds := by decide +kernel
theorem mfind_self : ∀ e ∈ mst, mfind e.1 = some e := by decide +kernel
/-- a pattern's registers, the letters that may stand there, by their numbers -/
def regsL (p : Str) : List (Str × Int) := if p = "n" then [("abcd", 1)] else if p = "nm" then [("abcd", 4), ("abcd", 1)] else if p = "x" then [("pq", 1)] else if p = "xn" then [("pq", 4), ("abcd", 1)] else if p = "nx" then [("abcd", 1), ("pq", 4)] else if p = "xy" then [("pq", 2), ("pq", 1)] else []
def lets (p : Str) : List Str := if p = "n" then ["a", "b", "c", "d"] else if p = "nm" then ["aa", "ab", "ac", "ad", "ba", "bb", "bc", "bd", "ca", "cb", "cc", "cd", "da", "db", "dc", "dd"] else if p = "x" then ["p", "q"]
  else if p = "xn" then ["pa", "pb", "pc", "pd", "qa", "qb", "qc", "qd"] else if p = "nx" then ["ap", "bp", "cp", "dp", "aq", "bq", "cq", "dq"] else if p = "xy" then ["pp", "pq", "qp", "qq"] else [""]
theorem regs_at {p : Str} (h : p ∈ pats) : lookT tbR p = some (.tup ((regsL p).map fun l => regT l.1 l.2)) := by
  simp only [pats, List.mem_cons, List.not_mem_nil, or_false] at h
  rcases h with rfl | rfl | rfl | rfl | rfl | rfl | rfl <;> rfl
def tbS : List (Str × D) := [("", .int 1), ("n", .int 4), ("nm", .int 16), ("x", .int 2), ("xn", .int 8), ("nx", .int 8), ("xy", .int 4)]
abbrev spn (e : En) : Nat := (lets e.2.2.1).length
theorem span_at {p : Str} (h : p ∈ pats) : lookT tbS p = some (.int ((lets p).length : Nat)) := by
  simp only [pats, List.mem_cons, List.not_mem_nil, or_false] at h
  rcases h with rfl | rfl | rfl | rfl | rfl | rfl | rfl <;> rfl
/-- how many bytes a field has, its greatest number -/
def roomOf (f : Option Str) : Nat := match f with
  | none => 0
  | some f => if f = "byte" ∨ f = "near" then 1 else 2
def mostOf (f : Option Str) : Int := match f with
  | none => 0
  | some f => if f = "byte" then 255 else if f = "near" then 127 else 65535
theorem fld_at {f : Option Str} (h : f ∈ flds) : ∃ lo hi, lookN tbF f = some (.tup [.int (roomOf f : Nat), lo, hi]) ∧ (f ≠ none → hi = .int (mostOf f)) := by
  simp only [flds, List.mem_cons, List.not_mem_nil, or_false] at h
  rcases h with rfl | rfl | rfl | rfl | rfl
  · exact ⟨_, _, rfl, fun z => absurd rfl z⟩
  all_goals exact ⟨_, _, rfl, fun _ => rfl⟩
/-- the letters of the far-th byte of a word -/
def letAt (e : En) (far : Nat) : Str := (lets e.2.2.1).getD far ""
/-- which word a byte begins -/
def hd (b : Int) : Option (En × Nat) := (mst.find? fun e => decide (e.2.1 ≤ b ∧ b < e.2.1 + (spn e : Nat))).map fun e => (e, (b - e.2.1).toNat)
/-- a field's number is as it has to be -/
def numOk (f : Option Str) (n : Option Int) : Prop := match f, n with
  | none, none => True
  | some f, some n => if f = "byte" then 0 ≤ n ∧ n ≤ 255 else if f = "near" then -128 ≤ n ∧ n ≤ 127 else 0 ≤ n ∧ n ≤ 65535
  | _, _ => False
structure Wd (e : En) (far : Nat) (n : Option Int) : Prop where
  m : e ∈ mst
  l : far < spn e
  n : numOk e.2.2.2 n
def numD (n : Option Int) : D := match n with
  | none => .non
  | some n => .int n
def wordD (e : En) (far : Nat) (n : Option Int) : D := .tup [.str e.1, .str (letAt e far), numD n]
def tailW (f : Option Str) (n : Option Int) : List Int := match n with
  | none => []
  | some n => if roomOf f = 1 then [n % 256] else [n / 256, n % 256]
def rowW (e : En) (far : Nat) (n : Option Int) : List Int := (e.2.1 + far) :: tailW e.2.2.2 n
/-- the letters, each with what it counts -/
def zs (e : En) (far : Nat) : List (Nat × Str × Int) := (letAt e far).cps.toList.zip (regsL e.2.2.1)
def ixS (l : Str) (c : Nat) : Nat := (Builtin.Str.occurrences l ⟨#[c]⟩ 0 l.length 1).headD 0
def wgt (p : Nat × Str × Int) : Int := (ixS p.2.1 p.1 : Nat) * p.2.2
theorem zs_ok : ∀ e ∈ mst, ∀ far < spn e, (∀ p ∈ zs e far, (Builtin.Str.occurrences p.2.1 ⟨#[p.1]⟩ 0 p.2.1.length 1).head? = some (ixS p.2.1 p.1) ∧ ixS p.2.1 p.1 ≤ 4 ∧ 0 ≤ p.2.2 ∧ p.2.2 ≤ 4) ∧ ((zs e far).map wgt).sum = far ∧ (letAt e far).length ≤ 2 := by decide +kernel
def fRegs : FD := fun ds os QA _ => ∃ e, ds = [.d (.str e.1)] ∧ e ∈ mst ∧ QA (.tup ((regsL e.2.2.1).map fun l => regT l.1 l.2)) os
def fField : FD := fun ds os QA _ => ∃ e, ds = [.d (.str e.1)] ∧ e ∈ mst ∧ ∀ lo hi, (e.2.2.2 ≠ none → hi = .int (mostOf e.2.2.2)) → QA (.tup [.int (roomOf e.2.2.2 : Nat), lo, hi]) os
def fFirst : FD := fun ds os QA _ => ∃ e far, ds = [.d (.str e.1), .d (.str (letAt e far))] ∧ e ∈ mst ∧ far < spn e ∧ QA (.int (e.2.1 + (far : Nat))) os
section
variable {P : Program} {w : World} {K : PySem.W.Frag} {mg : Str → Option Value} {base : Heap} {aW aR aF aS : Addr} {eW eR eS : Array DictEntry} {nW nR nS : Nat}
abbrev s_registers_of : Stmt := topS 26
abbrev N_registers_of : List Str := ["name", "_", "pattern"]
theorem sc_registers_of : FnScope N_registers_of ["name"] (defScope s_registers_of) := ⟨rfl, rfl, rfl, by decide +kernel, rfl, by decide +kernel, by decide +kernel⟩
theorem ok_registers_of {f : Addr} {fd : FuncData} (F : Fun K "registers_of" "registers_of" s_registers_of f fd) (D_WORDS : KDict K w aW eW nW) (g_WORDS : mg "WORDS" = some (.ref aW)) (k_WORDS : kdOk K aW tbW = true)
    (D_REGISTERS : KDict K w aR eR nR) (g_REGISTERS : mg "REGISTERS" = some (.ref aR)) (k_REGISTERS : kdOk K aR tbR = true) : FnOk P w K mg base CX0 1 f fd ["name"] (spD K fRegs) := by
  refine F.ok sc_registers_of (fun vs H Q E h => ?_) (fun cdv A outer s H vs Q E hr h => ?_)
  · obtain ⟨as, os, ds, QA, EA, R, r, ⟨e, rfl, _⟩, _⟩ := h
    rw [r.length]
    rfl
  · refine ⟨_, (pss_cons (ps_asg (pe_opD (op_kd D_WORDS) (ty_kd D_WORDS) (pe_glob rfl g_WORDS rfl) (pv 0) (fun _ _ => rfl)) (pg_tup (by rfl) (pgs_cons (pg_name (i := 1) sc_registers_of.nd rfl (Or.inl rfl)) (pgs_cons (pg_name (i := 2) sc_registers_of.nd rfl (Or.inl rfl)) (pgs_cons (pg_name (i := 1) sc_registers_of.nd rfl (Or.inl rfl)) pgs_nil)))))
  (pss_one (ps_ret (pe_opD (op_kd D_REGISTERS) (ty_kd D_REGISTERS) (pe_glob rfl g_REGISTERS rfl) (pv 2) (fun _ _ => rfl))))), read_of h fun ds os QA EA hf => ?_⟩
    obtain ⟨e, rfl, he, q⟩ := hf
    try dsimp only [cxOf, Cx.nox, Cx.wish]
    show W K _ _ _ ⟨[some (.d (.str e.1)), none, none], os⟩
    obtain ⟨hp, _⟩ := in_pats e he
    refine w_seq (w_asgG (ew_kd k_WORDS ?_))
    repeat (walk_at "b")
    refine ⟨e.1, _, rfl, by rw [lookT_W, mfind_self e he]; rfl, ?_⟩
    refine gw_tup rfl ?_
    refine gs_cons (gw_name (gs_cons (gw_name (gs_cons (gw_name (gs_nil ?_))))))
    dsimp only [List.set_cons_zero, List.set_cons_succ]
    exact w_ret (ew_kd k_REGISTERS (ew_var rfl ⟨_, _, rfl, regs_at hp, ret_same q⟩))
abbrev s_field_of : Stmt := topS 27
abbrev N_field_of : List Str := ["name", "_", "field"]
theorem sc_field_of : FnScope N_field_of ["name"] (defScope s_field_of) := ⟨rfl, rfl, rfl, by decide +kernel, rfl, by decide +kernel, by decide +kernel⟩
theorem ok_field_of {f : Addr} {fd : FuncData} (F : Fun K "field_of" "field_of" s_field_of f fd) (D_WORDS : KDict K w aW eW nW) (g_WORDS : mg "WORDS" = some (.ref aW)) (k_WORDS : kdOk K aW tbW = true)
    (N_FIELDS : NDict K w aF tbF) (g_FIELDS : mg "FIELDS" = some (.ref aF)) : FnOk P w K mg base CX0 1 f fd ["name"] (spD K fField) := by
  refine F.ok sc_field_of (fun vs H Q E h => ?_) (fun cdv A outer s H vs Q E hr h => ?_)
  · obtain ⟨as, os, ds, QA, EA, R, r, ⟨e, rfl, _⟩, _⟩ := h
    rw [r.length]
    rfl
  · refine ⟨_, (pss_cons (ps_asg (pe_opD (op_kd D_WORDS) (ty_kd D_WORDS) (pe_glob rfl g_WORDS rfl) (pv 0) (fun _ _ => rfl)) (pg_tup (by rfl) (pgs_cons (pg_name (i := 1) sc_field_of.nd rfl (Or.inl rfl)) (pgs_cons (pg_name (i := 1) sc_field_of.nd rfl (Or.inl rfl)) (pgs_cons (pg_name (i := 2) sc_field_of.nd rfl (Or.inl rfl)) pgs_nil)))))
  (pss_one (ps_ret (pe_opD (op_nd N_FIELDS) (ty_nd N_FIELDS) (pe_glob rfl g_FIELDS rfl) (pv 2) (fun _ _ => rfl))))), read_of h fun ds os QA EA hf => ?_⟩
    obtain ⟨e, rfl, he, q⟩ := hf
    try dsimp only [cxOf, Cx.nox, Cx.wish]
    show W K _ _ _ ⟨[some (.d (.str e.1)), none, none], os⟩
    obtain ⟨_, hp⟩ := in_pats e he
    obtain ⟨lo, hi, hd, hm⟩ := fld_at hp
    refine w_seq (w_asgG (ew_kd k_WORDS ?_))
    repeat (walk_at "b")
    refine ⟨e.1, _, rfl, by rw [lookT_W, mfind_self e he]; rfl, ?_⟩
    refine gw_tup rfl ?_
    refine gs_cons (gw_name (gs_cons (gw_name (gs_cons (gw_name (gs_nil ?_))))))
    dsimp only [List.set_cons_zero, List.set_cons_succ]
    exact w_ret (ew_nd (ew_var rfl ⟨e.2.2.2, _, rfl, hd, ret_same (q lo hi hm)⟩))
abbrev s_first_byte : Stmt := topS 28
abbrev N_first_byte : List Str := ["name", "registers", "byte", "_", "letter", "letters", "factor"]
theorem sc_first_byte : FnScope N_first_byte ["name", "registers"] (defScope s_first_byte) := ⟨rfl, rfl, rfl, by decide +kernel, rfl, by decide +kernel, by decide +kernel⟩
theorem ok_first_byte {f a1 : Addr} {fd d1 : FuncData} (F : Fun K "first_byte" "first_byte" s_first_byte f fd) (D_WORDS : KDict K w aW eW nW) (g_WORDS : mg "WORDS" = some (.ref aW)) (k_WORDS : kdOk K aW tbW = true) (z_zip : mg "zip" = none)
    (G_registers_of : FnOk P w K mg base CX0 1 a1 d1 ["name"] (spD K fRegs)) (C_registers_of : Cal K mg "registers_of" a1 d1 ["name"]) : FnOk P w K mg base CX0 2 f fd ["name", "registers"] (spD K fFirst) := by
  refine F.ok sc_first_byte (fun vs H Q E h => ?_) (fun cdv A outer s H vs Q E hr h => ?_)
  · obtain ⟨as, os, ds, QA, EA, R, r, ⟨e, far, rfl, _⟩, _⟩ := h
    rw [r.length]
    rfl
  · refine ⟨_, (pss_cons (ps_asg (pe_opD (op_kd D_WORDS) (ty_kd D_WORDS) (pe_glob rfl g_WORDS rfl) (pv 0) (fun _ _ => rfl)) (pg_tup (by rfl) (pgs_cons (pg_name (i := 2) sc_first_byte.nd rfl (Or.inl rfl)) (pgs_cons (pg_name (i := 3) sc_first_byte.nd rfl (Or.inl rfl)) (pgs_cons (pg_name (i := 3) sc_first_byte.nd rfl (Or.inl rfl)) pgs_nil)))))
  (pss_cons (ps_for PassesOwn.never rfl (pi_zipMK (K := K) rfl (pi_zipM (by rfl) z_zip (pa_cons (pv 1) (pa_cons (pe_call G_registers_of (hr.mono (by decide)) rfl C_registers_of.m C_registers_of.k C_registers_of.b .nil pass0 (pa_cons (pv 0) pa_nil)) pa_nil)))) (pg_tup (by rfl) (pgs_cons (pg_name (i := 4) sc_first_byte.nd rfl (Or.inl rfl)) (pgs_cons (pg_tup (by rfl) (pgs_cons (pg_name (i := 5) sc_first_byte.nd rfl (Or.inl rfl)) (pgs_cons (pg_name (i := 6) sc_first_byte.nd rfl (Or.inl rfl)) pgs_nil))) pgs_nil)))
    (pss_one (ps_aug (i := 2) sc_first_byte.nd rfl (Or.inl rfl) (pe_op op_mulW (pe_m1 PySem.F.slot_str_index PySem.F.type_str_index mt_sindex (pv 5) (pv 4)) (pv 6)) ip_add)))
  (pss_one (ps_ret (pv 2))))), read_of h fun ds os QA EA hf => ?_⟩
    obtain ⟨e, far, rfl, he, hl, q⟩ := hf
    try dsimp only [cxOf, Cx.nox, Cx.wish]
    show W K _ _ _ ⟨[some (.d (.str e.1)), some (.d (.str (letAt e far))), none, none, none, none, none], os⟩
    obtain ⟨z1, z2, z3⟩ := zs_ok e he far hl
    refine w_seq (w_asgG (ew_kd k_WORDS ?_))
    repeat (walk_at "b")
    refine ⟨e.1, _, rfl, by rw [lookT_W, mfind_self e he]; rfl, ?_⟩
    refine gw_tup rfl ?_
    repeat (walk_at "b")
    refine w_for (iw_zipM (aw_cons (ew_var rfl (aw_cons (ew_call (aw_cons (ew_var rfl (aw_nil ⟨e, rfl, he, aw_nil ⟨letAt e far, _, rfl, ?_⟩⟩))))))))
    have ez : zipM (letAt e far) ((regsL e.2.2.1).map fun l => regT l.1 l.2) = (zs e far).map fun p => D.tup [.str ⟨#[p.1]⟩, regT p.2.1 p.2.2] := by
      unfold zipM zs
      rw [List.zip_map_right, List.map_map]
      rfl
    rw [ez]
    refine ⟨fun i S' => ∃ o3 o4 o5 o6, S' = ⟨[some (.d (.str e.1)), some (.d (.str (letAt e far))), some (.d (.int (e.2.1 + (((zs e far).take i).map wgt).sum))), o3, o4, o5, o6], os⟩, ⟨_, _, _, _, by rw [List.take_zero]; show _ = (⟨[_, _, some (.d (.int (e.2.1 + 0))), _, _, _, _], os⟩ : Sa); rw [Int.add_zero]⟩, ?_, ?_⟩
    · rintro i d S' hd ⟨o3, o4, o5, o6, rfl⟩
      rw [List.getElem?_map] at hd
      obtain ⟨p, hp, rfl⟩ := Option.map_eq_some_iff.mp hd
      have hi : i < (zs e far).length := (List.getElem?_eq_some_iff.mp hp).1
      have ep : (zs e far)[i] = p := (List.getElem?_eq_some_iff.mp hp).2
      obtain ⟨y1, y2, y3, y4⟩ := z1 p (List.mem_of_getElem? hp)
      refine gw_tup rfl (gs_cons (gw_name (gs_cons (gw_tup rfl (gs_cons (gw_name (gs_cons (gw_name (gs_nil (gs_nil ?_))))))))))
      dsimp only [List.set_cons_zero, List.set_cons_succ]
      refine w_augI rfl (ew_op (ew_sindex (ew_var rfl ⟨_, rfl, ew_var rfl ⟨_, _, rfl, y1, ew_var rfl (bw_i (c_mulS (by omega) (by omega)) ?_)⟩⟩)))
      have es : (((zs e far).take (i + 1)).map wgt).sum = (((zs e far).take i).map wgt).sum + (ixS p.2.1 p.1 : Nat) * p.2.2 := by
        rw [← List.take_append_getElem hi, ep, List.map_append, List.sum_append]
        show _ + (wgt p + 0) = _
        rw [Int.add_zero]
        rfl
      refine ⟨_, rfl, o3, some (.d (.str ⟨#[p.1]⟩)), some (.d (.str p.2.1)), some (.d (.int p.2.2)), ?_⟩
      rw [es, ← Int.add_assoc]
      rfl
    · rintro S' ⟨o3, o4, o5, o6, rfl⟩
      rw [List.length_map, List.take_length, z2]
      repeat (walk_at "b")
      exact ret_same q
end

open PySem PySem.Spec PyProof.Rows L2 Br
def tx (cs : List Nat) : Str := ⟨cs.toArray⟩
theorem tx_app {a b : List Nat} : tx a ++ tx b = tx (a ++ b) := by
  unfold tx
  show (⟨a.toArray ++ b.toArray⟩ : Str) = _
  simp
theorem sj {sep : List Nat} : ∀ (rest : List (List Nat)) (x : List Nat), Str.join (tx sep) (tx x :: rest.map tx) = tx (x ++ rest.flatMap fun y => sep ++ y)
  | [], x => by
    show tx x = _
    simp
  | y :: r, x => by
    show tx x ++ tx sep ++ Str.join (tx sep) (tx y :: r.map tx) = _
    rw [sj r y, tx_app, tx_app, List.flatMap_cons]
    simp [List.append_assoc]
theorem tj {sep : List Nat} (xs : List (List Nat)) : Txt.join (tx sep) (xs.map tx) = tx (match xs with | [] => [] | x :: r => x ++ r.flatMap fun y => sep ++ y) := by
  cases xs with
  | nil => rfl
  | cons x r =>
    refine Eq.trans ?_ (sj r x)
    exact StrLaws.glued_cons (tx sep) (r.map tx) (tx x)
theorem join_cs (cs : List Nat) : Txt.join "" (cs.map fun c => (⟨#[c]⟩ : Str)) = tx cs := by
  have h := tj (sep := []) (cs.map fun c => [c])
  rw [List.map_map] at h
  have e : (match cs.map fun c => [c] with | [] => [] | x :: r => x ++ r.flatMap fun y => ([] : List Nat) ++ y) = cs := by
    cases cs with
    | nil => rfl
    | cons c r =>
      show [c] ++ (r.map fun c => [c]).flatMap (fun y => [] ++ y) = c :: r
      have : ∀ l : List Nat, (l.map fun c => [c]).flatMap (fun y => ([] : List Nat) ++ y) = l := fun l => by
        induction l with
        | nil => rfl
        | cons a l ih => rw [List.map_cons, List.flatMap_cons, ih]; rfl
      rw [this]
      rfl
  rw [e] at h
  exact h
theorem sum_one (cs : List Nat) : ((cs.map fun c => (⟨#[c]⟩ : Str)).map (·.length)).sum = cs.length := by
  induction cs with
  | nil => rfl
  | cons c r ih =>
    rw [List.map_cons, List.map_cons, List.sum_cons, ih, List.length_cons]
    show 1 + _ = _
    omega
def begD (b : Int) : D := match hd b with
  | none => .non
  | some (e, far) => .tup [.str e.1, .str (letAt e far)]
/-- the letter that a byte's part stands for -/
def chr (far : Nat) (l : Str × Int) : Nat := l.1.cps.toList.getD ((far : Int) / l.2 % (l.1.length : Nat)).toNat 0
theorem chr_ok : ∀ e ∈ mst, ∀ far < spn e, (∀ l ∈ regsL e.2.2.1, L2.atI l.1.cps.toList ((far : Int) / l.2 % (l.1.length : Nat)) = some (chr far l) ∧ 0 < l.2 ∧ l.2 ≤ 4 ∧ 0 < l.1.length ∧ l.1.length ≤ 4) ∧ tx ((regsL e.2.2.1).map (chr far)) = letAt e far ∧ (regsL e.2.2.1).length ≤ 2 ∧ spn e ≤ 16 := by decide +kernel
theorem mst_first : ∀ e ∈ mst, 0 ≤ e.2.1 ∧ e.2.1 ≤ 200 := by decide +kernel
theorem hd_at {b : Int} {e : En} {far : Nat} (h : hd b = some (e, far)) : e ∈ mst ∧ far < spn e ∧ b = e.2.1 + (far : Nat) := by
  unfold hd at h
  obtain ⟨e2, h1, h2⟩ := Option.map_eq_some_iff.mp h
  cases h2
  have h3 := List.find?_some h1
  have h4 : e.2.1 ≤ b ∧ b < e.2.1 + (spn e : Nat) := of_decide_eq_true h3
  exact ⟨List.mem_of_find?_eq_some h1, by omega, by omega⟩
def fBegun : FD := fun ds os QA _ => ∃ b : Int, ds = [.d (.int b)] ∧ 0 ≤ b ∧ b < 256 ∧ QA (begD b) os
section
variable {P : Program} {w : World} {K : PySem.W.Frag} {mg : Str → Option Value} {base : Heap} {aW aR aF aS : Addr} {eW eR eS : Array DictEntry} {nW nR nS : Nat}
abbrev s_begun_by : Stmt := topS 29
abbrev N_begun_by : List Str := ["byte", "name", "first", "pattern", "_", "rest", "registers", "letters", "factor"]
theorem sc_begun_by : FnScope N_begun_by ["byte"] (defScope s_begun_by) := ⟨rfl, rfl, rfl, by decide +kernel, rfl, by decide +kernel, by decide +kernel⟩
theorem ok_begun_by {f : Addr} {fd : FuncData} (F : Fun K "begun_by" "begun_by" s_begun_by f fd) (D_WORDS : KDict K w aW eW nW) (g_WORDS : mg "WORDS" = some (.ref aW)) (k_WORDS : kdOk K aW tbW = true) (z_len : mg "len" = none)
    (D_REGISTERS : KDict K w aR eR nR) (g_REGISTERS : mg "REGISTERS" = some (.ref aR)) (k_REGISTERS : kdOk K aR tbR = true) (D_SPANS : KDict K w aS eS nS) (g_SPANS : mg "SPANS" = some (.ref aS)) (k_SPANS : kdOk K aS tbS = true) : FnOk P w K mg base CX0 1 f fd ["byte"] (spD K fBegun) := by
  refine F.ok sc_begun_by (fun vs H Q E h => ?_) (fun cdv A outer s H vs Q E hr h => ?_)
  · obtain ⟨as, os, ds, QA, EA, R, r, ⟨b, rfl, _⟩, _⟩ := h
    rw [r.length]
    rfl
  · refine ⟨_, (pss_cons (ps_for PassesOwn.never rfl (pi_kd D_WORDS k_WORDS (pe_glob rfl g_WORDS rfl)) (pg_name (i := 1) sc_begun_by.nd rfl (Or.inl rfl))
    (pss_cons (ps_asg (pe_opD (op_kd D_WORDS) (ty_kd D_WORDS) (pe_glob rfl g_WORDS rfl) (pv 1) (fun _ _ => rfl)) (pg_tup (by rfl) (pgs_cons (pg_name (i := 2) sc_begun_by.nd rfl (Or.inl rfl)) (pgs_cons (pg_name (i := 3) sc_begun_by.nd rfl (Or.inl rfl)) (pgs_cons (pg_name (i := 4) sc_begun_by.nd rfl (Or.inl rfl)) pgs_nil)))))
    (pss_one (ps_if (pt_chain op_le op_lt (pv 2) (pv 0) (pe_op op_add (pv 2) (pe_opD (op_kd D_SPANS) (ty_kd D_SPANS) (pe_glob rfl g_SPANS rfl) (pv 3) (fun _ _ => rfl)))) (pss_cons (ps_set (i := 5) sc_begun_by.nd rfl (Or.inr rfl) (pe_op op_sub (pv 0) (pv 2)))
      (pss_cons (ps_setLc (i := 6) (own := [("letters", 7), ("factor", 8)]) (g := (gTup _ 2 (gCons (gName 7) (gCons (gName 8) gNil)))) rfl sc_begun_by.nd rfl rfl (sw_true rfl rfl rfl (by decide +kernel)) (pi_tup (pe_opD (op_kd D_REGISTERS) (ty_kd D_REGISTERS) (pe_glob rfl g_REGISTERS rfl) (pv 3) (fun _ _ => rfl))) (blkOk_by (own := [("letters", 7), ("factor", 8)]) (N := N_begun_by) (sc := defScope s_begun_by) (by decide +kernel)) (fun _ _ _ _ _ => (pg_tup (by rfl) (pgs_cons (pg_name (i := 7) sc_begun_by.nd rfl (Or.inl rfl)) (pgs_cons (pg_name (i := 8) sc_begun_by.nd rfl (Or.inl rfl)) pgs_nil)))) (fun _ _ _ _ _ => pts_nil) (fun _ _ _ _ _ => (pe_ix ix_str (pv 7) (pe_op op_mod (pe_op op_fdivW (pv 5) (pv 8)) (pe_callB call_lenS1 (by rfl) z_len PySem.boot_len (pa_cons (pv 7) pa_nil))) (fun _ _ => rfl))))
      (pss_one (ps_ret (pe_tup (pa_cons (pv 1) (pa_cons (pe_join pe_str (pv 6)) pa_nil))))))) pss_nil))))
  (pss_one (ps_ret pe_non))), read_of h fun ds os QA EA hf => ?_⟩
    obtain ⟨b, rfl, hb0, hb1, q⟩ := hf
    try dsimp only [cxOf, Cx.nox, Cx.wish]
    show W K _ _ _ ⟨[some (.d (.int b)), none, none, none, none, none, none, none, none], os⟩
    refine w_seq (w_for (iw_kd ?_))
    have eT : (tbW.map fun kd => D.str kd.1) = mst.map fun e => D.str e.1 := by
      unfold tbW
      rw [List.map_map]
      rfl
    rw [eT]
    refine ⟨fun i S' => ∃ o1 o2 o3 o4 o5 o6 o7 o8, S' = ⟨[some (.d (.int b)), o1, o2, o3, o4, o5, o6, o7, o8], os⟩ ∧ ∀ e ∈ mst.take i, ¬(e.2.1 ≤ b ∧ b < e.2.1 + (spn e : Nat)), ⟨_, _, _, _, _, _, _, _, rfl, fun e he => by simp at he⟩, ?_, ?_⟩
    · rintro i d S' hdi ⟨o1, o2, o3, o4, o5, o6, o7, o8, rfl, hno⟩
      rw [List.getElem?_map] at hdi
      obtain ⟨e, he, rfl⟩ := Option.map_eq_some_iff.mp hdi
      have hm : e ∈ mst := List.mem_of_getElem? he
      have hi : i < mst.length := (List.getElem?_eq_some_iff.mp he).1
      have ei : mst[i] = e := (List.getElem?_eq_some_iff.mp he).2
      obtain ⟨hp, hf⟩ := in_pats e hm
      obtain ⟨f0, f1⟩ := mst_first e hm
      refine gw_name ?_
      dsimp only [List.set_cons_zero, List.set_cons_succ]
      refine w_seq (w_asgG (ew_kd k_WORDS (ew_var rfl ⟨e.1, _, rfl, by rw [lookT_W, mfind_self e hm]; rfl, ?_⟩)))
      refine gw_tup rfl (gs_cons (gw_name (gs_cons (gw_name (gs_cons (gw_name (gs_nil ?_)))))))
      dsimp only [List.set_cons_zero, List.set_cons_succ]
      repeat (walk_at "b")
      have next : ∀ {o5 o6 o7 o8 : Option Sv}, ¬(e.2.1 ≤ b ∧ b < e.2.1 + (spn e : Nat)) → ∃ o1 o2 o3 o4 o5' o6' o7' o8', (⟨[some (.d (.int b)), some (.d (.str e.1)), some (.d (.int e.2.1)), some (.d (.str e.2.2.1)), some (.d (keyD2 e.2.2.2)), o5, o6, o7, o8], os⟩ : Sa) = ⟨[some (.d (.int b)), o1, o2, o3, o4, o5', o6', o7', o8'], os⟩ ∧ ∀ e ∈ mst.take (i + 1), ¬(e.2.1 ≤ b ∧ b < e.2.1 + (spn e : Nat)) := fun {o5 o6 o7 o8} hn =>
        ⟨_, _, _, _, _, _, _, _, rfl, fun e' he' => by
          rw [← List.take_append_getElem hi, ei] at he'
          rcases List.mem_append.mp he' with z | z
          · exact hno e' z
          · rw [List.mem_singleton.mp z]
            exact hn⟩
      refine br_ite (fun h1 => ?_) (fun h1 => ?_)
      · refine ew_op (ew_var rfl (ew_kd k_SPANS (ew_var rfl ⟨_, _, rfl, span_at hp, bw_i0 (bw_ib ⟨_, rfl, br_ite (fun h2 => ?_) (fun h2 => ?_)⟩)⟩)))
        · obtain ⟨far, rfl⟩ : ∃ far : Nat, b = e.2.1 + (far : Nat) := ⟨(b - e.2.1).toNat, by omega⟩
          have hl : far < spn e := by
            have h3 : e.2.1 + (far : Int) < e.2.1 + (spn e : Nat) := h2
            omega
          obtain ⟨c1, c2, c3, c4⟩ := chr_ok e hm far hl
          have eB : begD (e.2.1 + (far : Nat)) = .tup [.str e.1, .str (letAt e far)] := by
            have hfind : mst.find? (fun e' => decide (e'.2.1 ≤ e.2.1 + (far : Int) ∧ e.2.1 + (far : Int) < e'.2.1 + (spn e' : Nat))) = some e := by
              rw [← List.take_append_drop i mst, List.find?_append, List.find?_eq_none.mpr fun e' he' z => hno e' he' (of_decide_eq_true z), List.drop_eq_getElem_cons hi, ei]
              rw [Option.none_or]
              exact List.find?_cons_of_pos (decide_eq_true ⟨h1, h2⟩ : decide (e.2.1 ≤ e.2.1 + (far : Int) ∧ e.2.1 + (far : Int) < e.2.1 + (spn e : Nat)) = true)
            unfold begD Pa.hd
            rw [hfind]
            show (match some (e, (e.2.1 + (far : Int) - e.2.1).toNat) with | none => D.non | some (e, far) => D.tup [.str e.1, .str (letAt e far)]) = _
            rw [show (e.2.1 + (far : Int) - e.2.1).toNat = far by omega]
          rw [eB] at q
          repeat (walk_at "b")
          rw [show e.2.1 + (far : Int) - e.2.1 = (far : Int) by omega]
          refine ew_lc (wg_tup (wgs_cons mg_name (mgs_cons mg_name mgs_nil) (wg_name (by decide)) (wgs_cons mg_name mgs_nil (wg_name (by decide)) wgs_nil))) (mg_tup (mgs_cons mg_name (mgs_cons mg_name mgs_nil))) ?_
          refine iw_tup (ew_kd k_REGISTERS (ew_var rfl ⟨_, _, rfl, regs_at hp, _, rfl, ?_⟩))
          refine ⟨fun j acc os2 => os2 = os ∧ acc = (((regsL e.2.2.1).take j).map (chr far)).map fun c => D.str ⟨#[c]⟩, ⟨rfl, rfl⟩, ?_, ?_⟩
          · rintro j d acc os2 hd ⟨rfl, rfl⟩
            rw [List.getElem?_map] at hd
            obtain ⟨l, hl2, rfl⟩ := Option.map_eq_some_iff.mp hd
            have hj : j < (regsL e.2.2.1).length := (List.getElem?_eq_some_iff.mp hl2).1
            have ej : (regsL e.2.2.1)[j] = l := (List.getElem?_eq_some_iff.mp hl2).2
            obtain ⟨y1, y2, y3, y4, y5⟩ := c1 l (List.mem_of_getElem? hl2)
            refine gw_tup rfl (gs_cons (gw_name (gs_cons (gw_name (gs_nil ?_)))))
            refine tw_yes (br_T ?_)
            show EW K X0 _ ⟨[_, some (.d (.str e.1)), some (.d (.int e.2.1)), some (.d (.str e.2.2.1)), some (.d (keyD2 e.2.2.2)), some (.d (.int (far : Int))), _, some (.d (.str l.1)), some (.d (.int l.2))], _⟩ _
            refine ew_op (ew_var rfl (ew_op (ew_op (ew_var rfl (ew_var rfl (bw_i (c_divS y2 (by omega)) (ew_cb (aw_cons (ew_var rfl (aw_nil (cw_lenS (small_len (by omega)) (bw_i (by omega) (bw_ixS (small_len (by omega)) y1 ?_)))))))))))))
            refine ⟨_, _, rfl, rfl, by rw [List.length_map, List.length_map, List.length_take, sizeLine_eq]; omega, rfl, ?_⟩
            rw [← List.take_append_getElem hj, ej, List.map_append, List.map_append]
            rfl
          · rintro acc os2 ⟨rfl, rfl⟩
            rw [List.length_map, List.take_length]
            refine gw_name ?_
            dsimp only [List.set_cons_zero, List.set_cons_succ]
            refine w_ret (ew_tup2 (aw_cons (ew_var rfl (aw_cons (ew_join (ew_str ⟨"", rfl, ew_var rfl ⟨((regsL e.2.2.1).map (chr far)).map fun c => (⟨#[c]⟩ : Str), by rw [List.map_map (f := fun c => (⟨#[c]⟩ : Str))]; rfl, ?_, ?_⟩⟩))))))
            · rw [sum_one, List.length_map, List.length_map, show ("" : Str).length = 0 from rfl]
              omega
            · rw [join_cs, c2]
              exact aw_nil ⟨_, rfl, by show 2 ≤ sizeLine; decide, ret_same q⟩
        · exact w_next (next fun z => h2 z.2)
      · exact ⟨_, rfl, br_F (w_next (next fun z => h1 z.1))⟩
    · rintro S' ⟨o1, o2, o3, o4, o5, o6, o7, o8, rfl, hno⟩
      rw [List.length_map, List.take_length] at hno
      have e0 : begD b = .non := by
        unfold begD hd
        rw [List.find?_eq_none.mpr fun e he z => hno e he (of_decide_eq_true z)]
        rfl
      rw [e0] at q
      repeat (walk_at "b")
      exact ret_same q
end

open PySem PySem.Spec PyProof.Rows L2 Br
open Nm (dg wo)
section
variable {K : PySem.W.Frag} {X : Xc} {S : Sa} {Q : Sv → Os → Prop} {f : FD}
theorem svA_app {as : List Addr} {H : Hp} {vs ws : List V} {ds es : List Sv} (a : SvA K as H vs ds) (b : SvA K as H ws es) : SvA K as H (vs ++ ws) (ds ++ es) := by
  induction a with
  | nil => exact b
  | cons h _ ih => exact .cons h ih
theorem ew_callNS0 {n m : Nat} {gV : List V → List V → List V} {gS : List Sv → List Sv → List Sv} {tl tk : TA} (hg : ∀ as H vs zs ds es, SvA K as H vs ds → SvA K as H zs es → SvA K as H (gV vs zs) (gS ds es))
    (h : AW K X tl S fun ds os => ds.length = n ∧ AW K X tk ⟨S.s, os⟩ fun es os2 => es.length = m ∧ f (gS ds es) os2 (fun d os' => Q (.d d) os') fun _ _ _ => False) : EW K X (tCallNS n m (spD K f) gV (WE fun _ _ _ _ => False) tl tk) S Q := fun as H σ Q' R x k =>
  h as H σ _ R x fun vs H1 ds os1 g1 R1 r1 ⟨l1, q1⟩ => q1 as H1 σ _ (R.go g1 R1) (x.go g1 R1) fun zs H2 es os2 g2 R2 r2 ⟨l2, q2⟩ =>
    ⟨by rw [r1.length]; exact l1, by rw [r2.length]; exact l2, as, os2, _, _, _, R2, hg _ _ _ _ _ _ (r1.go g2) r2, q2, fun v H3 d os3 g3 R3 r3 q3 => k v H3 (.d d) os3 ((g1.trans g2).trans g3) R3 r3 q3, fun _ _ _ _ _ _ _ _ _ _ _ z => z.elim⟩
end
/-- how a def of the text with a default is called -/
structure CalM (K : PySem.W.Frag) (mg : Str → Option Value) (x : Str) (f : Addr) : Prop where
  m : mg x = some (.ref f)
  k : PySem.W.keepIn K (.ref f) = true
theorem bw_isNI {os : Os} {K : PySem.W.Frag} {Q : Sv → Os → Prop} {i : Int} (q : Q (.d (.bl false)) os) : BW K rIsN (.d (.int i)) (.d .non) os Q :=
  bw_pure (fun as H v u Q' R rx ry k => by
    cases rx
    cases ry
    exact ⟨rfl, k _ (.bl false)⟩) q
theorem bw_isNT {K : PySem.W.Frag} {os : Os} {Q : Sv → Os → Prop} {xs : List D} (q : Q (.d (.bl false)) os) : BW K rIsN (.d (.tup xs)) (.d .non) os Q :=
  bw_pure (fun as H v u Q' R rx ry k => by
    cases rx
    cases ry
    exact ⟨rfl, k _ (.bl false)⟩) q
theorem bw_isNN {K : PySem.W.Frag} {os : Os} {Q : Sv → Os → Prop} (q : Q (.d (.bl true)) os) : BW K rIsN (.d .non) (.d .non) os Q :=
  bw_pure (fun as H v u Q' R rx ry k => by
    cases rx
    cases ry
    exact ⟨rfl, k _ (.bl true)⟩) q
/-- a field's number, told without its sign -/
def upN (n : Int) : Int := if n < 0 then n + 256 else n
theorem fld_some {f : Option Str} (h : f ∈ flds) {n : Int} (hn : numOk f (some n)) : (roomOf f = 1 ∧ -128 ≤ n ∧ n ≤ 255 ∧ (mostOf f = 255 ∧ 0 ≤ n ∨ mostOf f = 127 ∧ n ≤ 127 ∧ f = some ("near" : Str))) ∨ (roomOf f = 2 ∧ mostOf f = 65535 ∧ 0 ≤ n ∧ n ≤ 65535 ∧ f ≠ some ("near" : Str)) := by
  simp only [flds, List.mem_cons, List.not_mem_nil, or_false] at h
  rcases h with rfl | rfl | rfl | rfl | rfl
  · exact hn.elim
  · have h2 : 0 ≤ n ∧ n ≤ 255 := hn
    exact .inl ⟨rfl, by omega, by omega, .inl ⟨rfl, h2.1⟩⟩
  · have h2 : 0 ≤ n ∧ n ≤ 65535 := hn
    exact .inr ⟨rfl, rfl, h2.1, h2.2, by decide⟩
  · have h2 : -128 ≤ n ∧ n ≤ 127 := hn
    exact .inl ⟨rfl, by omega, by omega, .inr ⟨rfl, h2.2, rfl⟩⟩
  · have h2 : 0 ≤ n ∧ n ≤ 65535 := hn
    exact .inr ⟨rfl, rfl, h2.1, h2.2, by decide⟩
theorem tail_ok {f : Option Str} (h : f ∈ flds) {n : Int} (hn : numOk f (some n)) : 0 ≤ upN n ∧ upN n < 65536 ∧ roomR (upN n) (roomOf f) = some (tailW f (some n)) := by
  have e1 : ∀ m : Int, dg 256 m 1 = [m % 256] := fun m => by
    show [m / 256 ^ 0 % 256] = _
    rw [Int.pow_zero, Int.ediv_one]
  have e2 : ∀ m : Int, dg 256 m 2 = [m % 256, m / 256 % 256] := fun m => by
    show [m / 256 ^ 0 % 256, m / 256 ^ 1 % 256] = _
    rw [Int.pow_zero, Int.ediv_one, Int.pow_one]
  unfold upN roomR tailW
  rcases fld_some h hn with ⟨r, a, b, _⟩ | ⟨r, _, a, b, _⟩
  · rw [r]
    refine ⟨by split <;> omega, by split <;> omega, ?_⟩
    rw [e1, if_pos (by rw [Int.pow_one]; split <;> omega)]
    show some [(if n < 0 then n + 256 else n) % 256] = some [n % 256]
    split
    · rw [Int.add_emod_right]
    · rfl
  · rw [r]
    refine ⟨by split <;> omega, by split <;> omega, ?_⟩
    rw [if_neg (by omega : ¬ n < 0), e2, if_pos (by omega)]
    show some [n / 256 % 256, n % 256] = some [n / 256, n % 256]
    rw [Int.emod_eq_of_lt (by omega : 0 ≤ n / 256) (by omega)]
def fBOW : FD := fun ds os QA _ => ∃ e far n, ds = [.d (wordD e far n)] ∧ Wd e far n ∧ QA (rowD (rowW e far n)) os
section
variable {P : Program} {w : World} {K : PySem.W.Frag} {mg : Str → Option Value} {base : Heap}
abbrev s_bytes_of_word : Stmt := topS 36
abbrev N_bytes_of_word : List Str := ["word", "name", "registers", "number", "row", "many", "_"]
theorem sc_bytes_of_word : FnScope N_bytes_of_word ["word"] (defScope s_bytes_of_word) := ⟨rfl, rfl, rfl, by decide +kernel, rfl, by decide +kernel, by decide +kernel⟩
theorem ok_bytes_of_word {M f a1 a2 a3 : Addr} {fd d1 d2 d3 : FuncData} (F : Fun K "bytes_of_word" "bytes_of_word" s_bytes_of_word f fd)
    (G_first_byte : FnOk P w K mg base CX0 2 a1 d1 ["name", "registers"] (spD K fFirst)) (C_first_byte : Cal K mg "first_byte" a1 d1 ["name", "registers"])
    (G_field_of : FnOk P w K mg base CX0 1 a2 d2 ["name"] (spD K fField)) (C_field_of : Cal K mg "field_of" a2 d2 ["name"])
    (G_bytes_of : FnOk P w K mg base (CX P w) 5 a3 d3 ["number", "many"] (spD K (fBytesOf M))) (C_bytes_of : CalM K mg "bytes_of" a3) (KB_bytes_of_many : KBn K d3 ["number", "many"] 1 ["many"] (fun us ws => us ++ ws) (fun us ws => us ++ ws)) : FnOk P w K mg base CX0 6 f fd ["word"] (spD K fBOW) := by
  refine F.ok sc_bytes_of_word (fun vs H Q E h => ?_) (fun cdv A outer s H vs Q E hr h => ?_)
  · obtain ⟨as, os, ds, QA, EA, R, r, ⟨e, far, n, rfl, _⟩, _⟩ := h
    rw [r.length]
    rfl
  · refine ⟨_, (pss_cons (ps_asg (pv 0) (pg_tup (by rfl) (pgs_cons (pg_name (i := 1) sc_bytes_of_word.nd rfl (Or.inl rfl)) (pgs_cons (pg_name (i := 2) sc_bytes_of_word.nd rfl (Or.inl rfl)) (pgs_cons (pg_name (i := 3) sc_bytes_of_word.nd rfl (Or.inl rfl)) pgs_nil)))))
  (pss_cons (ps_set (i := 4) sc_bytes_of_word.nd rfl (Or.inl rfl) (pe_tup (pa_cons (pe_call G_first_byte (hr.mono (by decide)) rfl C_first_byte.m C_first_byte.k C_first_byte.b .nil pass0 (pa_cons (pv 1) (pa_cons (pv 2) pa_nil))) pa_nil)))
  (pss_cons (ps_if (pt_cmpR op_isN1 (pv 3) pe_non (nomark _)) (pss_one (ps_ret (pv 4))) pss_nil)
  (pss_cons (ps_asg (pe_call G_field_of (hr.mono (by decide)) rfl C_field_of.m C_field_of.k C_field_of.b .nil pass0 (pa_cons (pv 1) pa_nil)) (pg_tup (by rfl) (pgs_cons (pg_name (i := 5) sc_bytes_of_word.nd rfl (Or.inl rfl)) (pgs_cons (pg_name (i := 6) sc_bytes_of_word.nd rfl (Or.inl rfl)) (pgs_cons (pg_name (i := 6) sc_bytes_of_word.nd rfl (Or.inl rfl)) pgs_nil)))))
  (pss_one (ps_ret (pe_op op_catA (pv 4) (pe_callNS G_bytes_of (hr.mono (by decide)) rfl C_bytes_of.m C_bytes_of.k KB_bytes_of_many (fun σ => passAt LamX.takes0 σ) (pa_cons (pe_ifExp (pt_cmpR op_lt (pv 3) pe_int (nomark _)) (pe_op op_add (pv 3) pe_int) (pv 3)) pa_nil) (pk_cons (pv 5) pk_nil))))))))), read_of h fun ds os QA EA hf => ?_⟩
    obtain ⟨e, far, n, rfl, hW, q⟩ := hf
    try dsimp only [cxOf, Cx.nox, Cx.wish]
    show W K _ _ _ ⟨[some (.d (wordD e far n)), none, none, none, none, none, none], os⟩
    obtain ⟨_, hfl⟩ := in_pats e hW.m
    refine w_seq (w_asgG (ew_var rfl (gw_tup rfl (gs_cons (gw_name (gs_cons (gw_name (gs_cons (gw_name (gs_nil ?_))))))))))
    dsimp only [List.set_cons_zero, List.set_cons_succ]
    repeat (walk_at "b")
    refine ⟨e, far, rfl, hW.m, hW.l, ?_⟩
    repeat (walk_at "b")
    cases n with
    | none =>
      refine bw_isNN ?_
      refine ⟨_, rfl, br_T ?_⟩
      repeat (walk_at "b")
      exact ret_same q
    | some n =>
      obtain ⟨t0, t1, t2⟩ := tail_ok hfl hW.n
      refine bw_isNI ?_
      refine ⟨_, rfl, br_F (w_next ?_)⟩
      repeat (walk_at "b")
      refine ⟨e, rfl, hW.m, fun lo hi _ => ?_⟩
      refine gw_tup rfl (gs_cons (gw_name (gs_cons (gw_name (gs_cons (gw_name (gs_nil ?_)))))))
      dsimp only [List.set_cons_zero, List.set_cons_succ]
      refine w_ret (ew_op (ew_var rfl ?_))
      refine ew_callNS0 (gS := fun us ws => us ++ ws) (fun as H vs zs ds es a b => svA_app a b) ?_
      refine aw_cons ?_
      repeat (walk_at "b")
      have hroom : roomOf e.2.2.2 ≤ 1000 := by
        rcases fld_some hfl hW.n with ⟨r, _⟩ | ⟨r, _⟩ <;> omega
      have fin : ∀ {R : D → Os → Prop} {m : Int}, m = upN n → R (rowD (tailW e.2.2.2 (some n))) os → fBytesOf M ([.d (.int m)] ++ [.d (.int (roomOf e.2.2.2 : Nat))]) os R fun _ _ _ => False := fun {R m} em h => by
        subst em
        exact ⟨.int (upN n), roomOf e.2.2.2, rfl, rfl, hroom, fun m hm _ r hr => by
          cases hm
          rw [t2] at hr
          cases hr
          exact h, fun z => by
          have z2 := z _ rfl t0
          rw [t2] at z2
          cases z2⟩
      have done : BW K (rCatA K) (.d (.tup [.int (e.2.1 + (far : Nat))])) (.d (rowD (tailW e.2.2.2 (some n)))) os (RetOk os.length QA) := by
        refine bw_catT ?_ (ret_same q)
        rcases fld_some hfl hW.n with ⟨r, _⟩ | ⟨r, _⟩
        · unfold tailW
          rw [r]
          show 1 + 1 ≤ sizeLine
          decide
        · unfold tailW
          rw [r]
          show 1 + 2 ≤ sizeLine
          decide
      refine bw_ib (i := n) ?_
      refine ⟨_, rfl, br_ite (fun h0 => ?_) (fun h0 => ?_)⟩
      · refine ew_op (ew_var rfl (ew_int (bw_i0 (i := n) (aw_nil ⟨rfl, aw_cons (ew_var rfl (aw_nil ⟨rfl, ?_⟩))⟩))))
        exact fin (if_pos h0).symm done
      · refine ew_var rfl (aw_nil ⟨rfl, aw_cons (ew_var rfl (aw_nil ⟨rfl, ?_⟩))⟩)
        exact fin (m := n) (if_neg h0).symm done
end

open PySem PySem.Spec PyProof.Rows L2 Br
open Nm (dg wo)
theorem cut_row {row : List Int} {e a : Nat} (he : e ≤ row.length) (ha : a ≤ row.length) : Br.cutD (row.map D.int) (some (e : Int)) (some (a : Int)) = ((row.drop e).take (a - e)).map D.int := by
  unfold Br.cutD
  rw [HT.sIx_nat, HT.sIx_nat, List.length_map, Nat.min_eq_left he, Nat.min_eq_left ha, List.map_take, List.map_drop]
theorem cut_row0 {row : List Int} {e : Nat} (he : e ≤ row.length) : Br.cutD (row.map D.int) (some (e : Int)) none = (row.drop e).map D.int := by
  unfold Br.cutD
  rw [HT.sIx_nat, HT.sIx_none, List.length_map, Nat.min_eq_left he, List.take_of_length_le (by rw [List.length_drop, List.length_map]; exact Nat.le_refl _), List.map_drop]
theorem cut_rowN {row : List Int} {a : Nat} (ha : a ≤ row.length) : Br.cutD (row.map D.int) none (some (a : Int)) = (row.take a).map D.int := by
  unfold Br.cutD
  rw [HT.sIx_nat, HT.sIx_none, List.length_map, Nat.min_eq_left ha, List.drop_zero, Nat.sub_zero, List.map_take]
/-- a field's number, as it is read -/
def numV (f : Option Str) (row : List Int) (p : Nat) : Int := if roomOf f = 1 then row.getD (p + 1) 0 else row.getD (p + 1) 0 * 256 + row.getD (p + 2) 0
def numA (f : Option Str) (row : List Int) (p : Nat) : Option Int := if roomOf f = 0 then none else some (if mostOf f < numV f row p then numV f row p - 256 else numV f row p)
/-- the word at p and the place behind it, or where there is none -/
def dueW (row : List Int) (p : Nat) : (D × Nat) ⊕ Nat := match row[p]? with
  | none => .inr p
  | some b => match hd b with
    | none => .inr p
    | some (e, far) => if row.length < p + 1 + roomOf e.2.2.2 then .inr row.length else .inl (wordD e far (numA e.2.2.2 row p), p + 1 + roomOf e.2.2.2)
theorem room_cases {f : Option Str} (h : f ∈ flds) : (f = none ∧ roomOf f = 0) ∨ (f ≠ none ∧ (roomOf f = 1 ∨ roomOf f = 2)) := by
  simp only [flds, List.mem_cons, List.not_mem_nil, or_false] at h
  rcases h with rfl | rfl | rfl | rfl | rfl
  · exact .inl ⟨rfl, rfl⟩
  · exact .inr ⟨nofun, .inl rfl⟩
  · exact .inr ⟨nofun, .inr rfl⟩
  · exact .inr ⟨nofun, .inl rfl⟩
  · exact .inr ⟨nofun, .inr rfl⟩
theorem wo_seg {f : Option Str} {row : List Int} {p : Nat} (h : roomOf f = 1 ∨ roomOf f = 2) (hl : p + 1 + roomOf f ≤ row.length) : wo ((row.drop (p + 1)).take (roomOf f)) = numV f row p := by
  unfold numV
  rcases h with r | r
  · rw [r] at hl ⊢
    have h1 : p + 1 < row.length := by omega
    rw [List.drop_eq_getElem_cons h1, if_pos rfl, List.getD_eq_getElem?_getD, List.getElem?_eq_getElem h1]
    show (0 : Int) * 256 + row[p + 1] = row[p + 1]
    omega
  · rw [r] at hl ⊢
    have h1 : p + 1 < row.length := by omega
    have h2 : p + 2 < row.length := by omega
    rw [List.drop_eq_getElem_cons h1, List.drop_eq_getElem_cons h2, if_neg (by decide), List.getD_eq_getElem?_getD, List.getElem?_eq_getElem h1, List.getD_eq_getElem?_getD, List.getElem?_eq_getElem h2]
    show ((0 : Int) * 256 + row[p + 1]) * 256 + row[p + 2] = row[p + 1] * 256 + row[p + 2]
    omega
def fWordAt (M : Addr) : FD := fun ds os QA EA => ∃ (row : List Int) (p : Nat), ds = [.d (rowD row), .d (.int (p : Nat))] ∧ isR row ∧ row.length ≤ 500 ∧ (∀ x b, dueW row p = .inl (x, b) → QA (.tup [x, .int (b : Nat)]) os) ∧ (∀ e, dueW row p = .inr e → EA M [("at", .int (e : Nat))] os)
section
variable {P : Program} {w : World} {K : PySem.W.Frag} {mg : Str → Option Value} {base : Heap}
abbrev s_word_at : Stmt := topS 37
abbrev N_word_at : List Str := ["row", "at", "begun", "name", "registers", "many", "_", "most", "behind", "number"]
theorem sc_word_at : FnScope N_word_at ["row", "at"] (defScope s_word_at) := ⟨rfl, rfl, rfl, by decide +kernel, rfl, by decide +kernel, by decide +kernel⟩
theorem ok_word_at {M f a1 a2 a3 a4 : Addr} {fd d1 d2 d3 d4 : FuncData} {kws : List (Str × V)} (F : FunD K "word_at" "word_at" (defArgs s_word_at) (defBody s_word_at) (defScope s_word_at) [] kws f fd) (z_len : mg "len" = none)
    (G_begun_by : FnOk P w K mg base CX0 1 a1 d1 ["byte"] (spD K fBegun)) (C_begun_by : Cal K mg "begun_by" a1 d1 ["byte"])
    (G_field_of : FnOk P w K mg base CX0 1 a2 d2 ["name"] (spD K fField)) (C_field_of : Cal K mg "field_of" a2 d2 ["name"])
    (G_number_of : FnOk P w K mg base CX0 1 a3 d3 ["row"] (spD K fNumberOf)) (C_number_of : Cal K mg "number_of" a3 d3 ["row"])
    (G_NoWord : FnOk P w K mg base CX0 3 a4 d4 ["self", "at"] (spIX K M "at" okD)) (X_NoWord : Xve K mg "NoWord" M a4 d4 ["self", "at"]) : FnOk P w K mg base (CX P w) 5 f fd ["row", "at"] (spD K (fWordAt M)) := by
  refine F.ok sc_word_at (fun vs H Q E h => ?_) (fun cdv A outer s H vs Q E hr h => ?_)
  · obtain ⟨as, os, ds, QA, EA, R, r, ⟨row, p, rfl, _⟩, _⟩ := h
    rw [r.length]
    rfl
  · refine ⟨_, (pss_cons (ps_set (i := 2) sc_word_at.nd rfl (Or.inl rfl) (pe_ifExp (pt_chain op_le op_lt pe_int (pv 1) (pe_callB call_lenA (by rfl) z_len PySem.boot_len (pa_cons (pv 0) pa_nil))) (pe_call G_begun_by (hr.mono (by decide)) rfl C_begun_by.m C_begun_by.k C_begun_by.b .nil pass0 (pa_cons (pe_ix (r := rIxT K) ix_tup (pv 0) (pv 1) (fun _ _ => rfl)) pa_nil)) pe_non))
  (pss_cons (ps_if (pt_cmpR op_isN1 (pv 2) pe_non (nomark _)) (pss_one (ps_raise rfl (takes_of rfl rfl rfl rfl) (pmk_oex X_NoWord.T X_NoWord.iC X_NoWord.tI G_NoWord (hr.mono (by decide)) X_NoWord.b .nil pass0 rfl X_NoWord.m (pa_cons (pv 1) pa_nil)))) pss_nil)
  (pss_cons (ps_asg (pv 2) (pg_tup (by rfl) (pgs_cons (pg_name (i := 3) sc_word_at.nd rfl (Or.inl rfl)) (pgs_cons (pg_name (i := 4) sc_word_at.nd rfl (Or.inl rfl)) pgs_nil))))
  (pss_cons (ps_asg (pe_call G_field_of (hr.mono (by decide)) rfl C_field_of.m C_field_of.k C_field_of.b .nil pass0 (pa_cons (pv 3) pa_nil)) (pg_tup (by rfl) (pgs_cons (pg_name (i := 5) sc_word_at.nd rfl (Or.inl rfl)) (pgs_cons (pg_name (i := 6) sc_word_at.nd rfl (Or.inl rfl)) (pgs_cons (pg_name (i := 7) sc_word_at.nd rfl (Or.inl rfl)) pgs_nil)))))
  (pss_cons (ps_set (i := 8) sc_word_at.nd rfl (Or.inl rfl) (pe_op op_add (pe_op op_add (pv 1) pe_int) (pv 5)))
  (pss_cons (ps_if (pt_cmpR op_gt (pv 8) (pe_callB call_lenA (by rfl) z_len PySem.boot_len (pa_cons (pv 0) pa_nil)) (nomark _)) (pss_one (ps_raise rfl (takes_of rfl rfl rfl rfl) (pmk_oex X_NoWord.T X_NoWord.iC X_NoWord.tI G_NoWord (hr.mono (by decide)) X_NoWord.b .nil pass0 rfl X_NoWord.m (pa_cons (pe_callB call_lenA (by rfl) z_len PySem.boot_len (pa_cons (pv 0) pa_nil)) pa_nil)))) pss_nil)
  (pss_cons (ps_if (pt_cmpR op_eq (pv 5) pe_int (nomark _)) (pss_one (ps_ret (pe_tup (pa_cons (pe_tup (pa_cons (pv 3) (pa_cons (pv 4) (pa_cons pe_non pa_nil)))) (pa_cons (pv 8) pa_nil))))) pss_nil)
  (pss_cons (ps_set (i := 9) sc_word_at.nd rfl (Or.inl rfl) (pe_call G_number_of (hr.mono (by decide)) rfl C_number_of.m C_number_of.k C_number_of.b .nil pass0 (pa_cons (pe_slice (r := rSlA K) sl_tupA (pv 0) (po_some (pe_op op_add (pv 1) pe_int)) (po_some (pv 8))) pa_nil)))
  (pss_one (ps_ret (pe_tup (pa_cons (pe_tup (pa_cons (pv 3) (pa_cons (pv 4) (pa_cons (pe_ifExp (pt_cmpR op_gt (pv 9) (pv 7) (nomark _)) (pe_op op_sub (pv 9) pe_int) (pv 9)) pa_nil)))) (pa_cons (pv 8) pa_nil))))))))))))), read_of h fun ds os QA EA hf => ?_⟩
    obtain ⟨row, p, rfl, hrow, hl, hQ, hE⟩ := hf
    try dsimp only [cxOf, Cx.nox, Cx.wish]
    show W K _ _ _ ⟨[some (.d (rowD row)), some (.d (.int (p : Nat))), none, none, none, none, none, none, none, none], os⟩
    have no : ∀ e, dueW row p = .inr e → EA M [("at", .int (e : Nat))] (os.take os.length) := fun e z => by
      rw [List.take_length]
      exact hE e z
    repeat (walk_at "b")
    refine br_ite (fun _ => ?_) (fun z => absurd (Int.natCast_nonneg p) z)
    refine ew_cb (aw_cons (ew_var rfl (aw_nil (cw_lenU ?_))))
    rw [List.length_map]
    refine bw_ib (i := (p : Int)) (j := (row.length : Int)) ⟨_, rfl, br_ite (fun hp => ?_) (fun hp => ?_)⟩
    · have hp : p < row.length := by omega
      have hb := hrow row[p] (List.getElem_mem hp)
      refine ew_call (aw_cons (ew_op (ew_var rfl (ew_var rfl (bw_ixT (row_at' hp) (aw_nil ⟨row[p], rfl, hb.1, hb.2, ?_⟩))))))
      have eD : dueW row p = match hd row[p] with
          | none => .inr p
          | some (e, far) => if row.length < p + 1 + roomOf e.2.2.2 then .inr row.length else .inl (wordD e far (numA e.2.2.2 row p), p + 1 + roomOf e.2.2.2) := by
        unfold dueW
        rw [List.getElem?_eq_getElem hp]
      refine gw_name ?_
      unfold begD
      cases hh : Pa.hd row[p] with
      | none =>
        rw [hh] at eD
        dsimp only [List.set_cons_zero, List.set_cons_succ]
        repeat (walk_at "b")
        refine bw_isNN ?_
        refine ⟨_, rfl, br_T ?_⟩
        refine raise_d rfl ?_ (no p eD)
        repeat (walk_at "b")
        exact ⟨rfl, rfl⟩
      | some ef =>
        obtain ⟨e, far⟩ := ef
        rw [hh] at eD
        obtain ⟨he, hfar, _⟩ := hd_at hh
        obtain ⟨_, hfl⟩ := in_pats e he
        dsimp only [List.set_cons_zero, List.set_cons_succ]
        repeat (walk_at "b")
        refine bw_isNT ?_
        refine ⟨_, rfl, br_F (w_next ?_)⟩
        repeat (walk_at "b")
        refine gw_tup rfl (gs_cons (gw_name (gs_cons (gw_name (gs_nil ?_)))))
        dsimp only [List.set_cons_zero, List.set_cons_succ]
        repeat (walk_at "b")
        refine ⟨e, rfl, he, fun lo hi hm => ?_⟩
        refine gw_tup rfl (gs_cons (gw_name (gs_cons (gw_name (gs_cons (gw_name (gs_nil ?_)))))))
        dsimp only [List.set_cons_zero, List.set_cons_succ]
        repeat (walk_at "b")
        rw [show (p : Int) + 1 + (roomOf e.2.2.2 : Nat) = ((p + 1 + roomOf e.2.2.2 : Nat) : Int) by omega]
        rw [List.length_map]
        refine br_ite (fun hlt => ?_) (fun hge => ?_)
        · refine raise_d rfl ?_ (no row.length (by rw [eD]; exact if_pos (Int.ofNat_lt.mp hlt)))
          refine ew_cb (aw_cons (ew_var rfl (aw_nil (cw_lenU ?_))))
          rw [List.length_map]
          exact ⟨rfl, rfl⟩
        · have hge : p + 1 + roomOf e.2.2.2 ≤ row.length := by omega
          have eD2 : dueW row p = .inl (wordD e far (numA e.2.2.2 row p), p + 1 + roomOf e.2.2.2) := by
            rw [eD]
            exact if_neg (by omega)
          have q := hQ _ _ eD2
          refine w_next ?_
          repeat (walk_at "b")
          rcases room_cases hfl with ⟨hn, hr0⟩ | ⟨hn, hr⟩
          · have ea : numA e.2.2.2 row p = none := if_pos hr0
            rw [ea] at q
            refine br_ite (fun _ => ?_) (fun z => absurd (by omega) z)
            repeat (walk_at "b")
            exact ret_same q
          · have hne : ¬ roomOf e.2.2.2 = 0 := by omega
            have ea : numA e.2.2.2 row p = some (if mostOf e.2.2.2 < numV e.2.2.2 row p then numV e.2.2.2 row p - 256 else numV e.2.2.2 row p) := if_neg hne
            rw [ea] at q
            refine br_ite (fun z => absurd z (by omega)) (fun _ => ?_)
            refine w_next ?_
            repeat (walk_at "b")
            refine sw_T ?_
            rw [show (p : Int) + 1 = ((p + 1 : Nat) : Int) by omega, cut_row (by omega) hge, show p + 1 + roomOf e.2.2.2 - (p + 1) = roomOf e.2.2.2 by omega]
            refine aw_nil ⟨(row.drop (p + 1)).take (roomOf e.2.2.2), rfl, fun x hx => hrow x (List.mem_of_mem_drop (List.mem_of_mem_take hx)), by rw [List.length_take, List.length_drop]; omega, ?_⟩
            rw [wo_seg hr hge, hm hn]
            refine gw_name ?_
            dsimp only [List.set_cons_zero, List.set_cons_succ]
            repeat (walk_at "b")
            have l3 : ∀ {x y z : D}, ([x, y, z] : List D).length ≤ sizeLine := fun {x y z} => by show 3 ≤ sizeLine; decide
            have l2 : ∀ {x y : D}, ([x, y] : List D).length ≤ sizeLine := fun {x y} => by show 2 ≤ sizeLine; decide
            refine br_ite (fun hm2 => ?_) (fun hm2 => ?_)
            · rw [if_pos hm2] at q
              refine ew_op (ew_var rfl (ew_int (bw_i0 (aw_nil ⟨_, rfl, l3, aw_cons (ew_var rfl (aw_nil ⟨_, rfl, l2, ret_same q⟩))⟩))))
            · rw [if_neg hm2] at q
              refine ew_var rfl (aw_nil ⟨_, rfl, l3, aw_cons (ew_var rfl (aw_nil ⟨_, rfl, l2, ret_same q⟩))⟩)
    · have eD : dueW row p = .inr p := by
        unfold dueW
        rw [List.getElem?_eq_none (by omega)]
      repeat (walk_at "b")
      refine bw_isNN ?_
      refine ⟨_, rfl, br_T ?_⟩
      refine raise_d rfl ?_ (no p eD)
      repeat (walk_at "b")
      exact ⟨rfl, rfl⟩
end

open PySem PySem.Spec PyProof.Rows L2 Br
theorem due_up {row : List Int} {p b : Nat} {x : D} (h : dueW row p = .inl (x, b)) : p < b ∧ b ≤ row.length := by
  unfold dueW at h
  cases e1 : row[p]? with
  | none =>
    rw [e1] at h
    cases h
  | some c =>
    rw [e1] at h
    cases e2 : Pa.hd c with
    | none =>
      have h2 : (match Pa.hd c with
        | none => (Sum.inr p : (D × Nat) ⊕ Nat)
        | some (e, far) => if row.length < p + 1 + roomOf e.2.2.2 then .inr row.length else .inl (wordD e far (numA e.2.2.2 row p), p + 1 + roomOf e.2.2.2)) = .inl (x, b) := h
      rw [e2] at h2
      cases h2
    | some ef =>
      have h2 : (match Pa.hd c with
        | none => (Sum.inr p : (D × Nat) ⊕ Nat)
        | some (e, far) => if row.length < p + 1 + roomOf e.2.2.2 then .inr row.length else .inl (wordD e far (numA e.2.2.2 row p), p + 1 + roomOf e.2.2.2)) = .inl (x, b) := h
      rw [e2] at h2
      have h3 : (if row.length < p + 1 + roomOf ef.1.2.2.2 then (Sum.inr row.length : (D × Nat) ⊕ Nat) else .inl (wordD ef.1 ef.2 (numA ef.1.2.2.2 row p), p + 1 + roomOf ef.1.2.2.2)) = .inl (x, b) := h2
      split at h3
      · cases h3
      · have h4 := (Prod.mk.inj (Sum.inl.inj h3)).2
        omega
/-- the words one behind another, from p on -/
def allF (row : List Int) : Nat → Nat → List D → List D ⊕ Nat
  | 0, _, acc => .inl acc
  | n + 1, p, acc => if p < row.length then (match dueW row p with
    | .inl (x, b) => allF row n b (acc ++ [.tup [.int (p : Nat), x]])
    | .inr e => .inr e) else .inl acc
def allW (row : List Int) : List D ⊕ Nat := allF row (row.length + 1) 0 []
theorem all_fuel {row : List Int} : ∀ {n m p : Nat} {acc : List D}, row.length - p < n → row.length - p < m → allF row n p acc = allF row m p acc
  | 0, _, _, _, h, _ => by omega
  | _ + 1, 0, _, _, _, h => by omega
  | n + 1, m + 1, p, acc, h1, h2 => by
    unfold allF
    by_cases hp : p < row.length
    · rw [if_pos hp, if_pos hp]
      cases e : dueW row p with
      | inr q => rfl
      | inl xb =>
        obtain ⟨x, b⟩ := xb
        obtain ⟨u1, u2⟩ := due_up e
        exact all_fuel (by omega) (by omega)
    · rw [if_neg hp, if_neg hp]
theorem all_step {row : List Int} {p b : Nat} {x : D} {acc : List D} (hp : p < row.length) (h : dueW row p = .inl (x, b)) : allF row (row.length + 1 - p) p acc = allF row (row.length + 1 - b) b (acc ++ [.tup [.int (p : Nat), x]]) := by
  obtain ⟨u1, u2⟩ := due_up h
  obtain ⟨n, hn⟩ : ∃ n, row.length + 1 - p = n + 1 := ⟨row.length - p, by omega⟩
  rw [hn]
  show (if p < row.length then (match dueW row p with
    | .inl (x, b) => allF row n b (acc ++ [D.tup [.int (p : Nat), x]])
    | .inr e => .inr e) else .inl acc) = _
  rw [if_pos hp, h]
  exact all_fuel (by omega) (by omega)
theorem all_no {row : List Int} {p e : Nat} {acc : List D} (hp : p < row.length) (h : dueW row p = .inr e) : allF row (row.length + 1 - p) p acc = .inr e := by
  obtain ⟨n, hn⟩ : ∃ n, row.length + 1 - p = n + 1 := ⟨row.length - p, by omega⟩
  rw [hn]
  show (if p < row.length then (match dueW row p with
    | .inl (x, b) => allF row n b (acc ++ [D.tup [.int (p : Nat), x]])
    | .inr e => .inr e) else .inl acc) = _
  rw [if_pos hp, h]
theorem all_end {row : List Int} {p : Nat} {acc : List D} (hp : ¬ p < row.length) : allF row (row.length + 1 - p) p acc = .inl acc := by
  cases hn : row.length + 1 - p with
  | zero => rfl
  | succ n =>
    show (if p < row.length then _ else Sum.inl acc) = _
    rw [if_neg hp]
def fWordsOf (M : Addr) : FS := fun ds os QA EA => ∃ row : List Int, ds = [.d (rowD row)] ∧ isR row ∧ row.length ≤ 500 ∧ (∀ xs, allW row = .inl xs → QA (.o os.length) (os ++ [.ml xs])) ∧ (∀ e, allW row = .inr e → EA M [("at", .int (e : Nat))] os)
section
variable {P : Program} {w : World} {K : PySem.W.Frag} {mg : Str → Option Value} {base : Heap}
abbrev s_words_of : Stmt := topS 38
abbrev N_words_of : List Str := ["row", "words", "at", "word", "behind"]
theorem sc_words_of : FnScope N_words_of ["row"] (defScope s_words_of) := ⟨rfl, rfl, rfl, by decide +kernel, rfl, by decide +kernel, by decide +kernel⟩
theorem ok_words_of {M f a1 : Addr} {fd d1 : FuncData} (F : Fun K "words_of" "words_of" s_words_of f fd) (z_len : mg "len" = none)
    (G_word_at : FnOk P w K mg base (CX P w) 5 a1 d1 ["row", "at"] (spD K (fWordAt M))) (C_word_at : CalM K mg "word_at" a1) (KB_word_at_at : KBn K d1 ["row", "at"] 1 ["at"] (fun us ws => us ++ ws) (fun us ws => us ++ ws)) : FnOk P w K mg base (CX P w) 6 f fd ["row"] (spS K (fWordsOf M)) := by
  refine F.okX sc_words_of (fun vs H Q E h => ?_) (fun cdv A outer s H vs Q E hr h => ?_)
  · obtain ⟨as, os, ds, QA, EA, R, r, ⟨row, rfl, _⟩, _⟩ := h
    rw [r.length]
    rfl
  · refine ⟨_, (pss_cons (ps_set (i := 1) sc_words_of.nd rfl (Or.inl rfl) (pe_lst pa_nil))
  (pss_cons (ps_set (i := 2) sc_words_of.nd rfl (Or.inl rfl) pe_int)
  (pss_cons (ps_while (passes_of rfl) (pt_cmpR op_lt (pv 2) (pe_callB call_lenA (by rfl) z_len PySem.boot_len (pa_cons (pv 0) pa_nil)) (nomark _))
    (pss_cons (ps_asg (pe_callNS G_word_at (hr.mono (by decide)) rfl C_word_at.m C_word_at.k KB_word_at_at (fun σ => passAt (takes_of rfl rfl rfl rfl) σ) (pa_cons (pv 0) pa_nil) (pk_cons (pv 2) pk_nil)) (pg_tup (by rfl) (pgs_cons (pg_name (i := 3) sc_words_of.nd rfl (Or.inl rfl)) (pgs_cons (pg_name (i := 4) sc_words_of.nd rfl (Or.inl rfl)) pgs_nil))))
    (pss_cons (ps_expr (pe_bm PySem.F.plainAttrs_list PySem.F.slot_list_append PySem.F.type_list_append mt_append (pv 1) (pa_cons (pe_tup (pa_cons (pv 2) (pa_cons (pv 3) pa_nil))) pa_nil)))
    (pss_one (ps_set (i := 2) sc_words_of.nd rfl (Or.inl rfl) (pv 4))))))
  (pss_one (ps_ret (pv 1)))))), readV_of h fun ds os QA EA hf => ?_⟩
    obtain ⟨row, rfl, hrow, hl, hQ, hE⟩ := hf
    try dsimp only [cxOf, Cx.nox, Cx.wish]
    show W K _ _ _ ⟨[some (.d (rowD row)), none, none, none, none], os⟩
    refine w_seq (w_newL ?_)
    dsimp only [List.set_cons_zero, List.set_cons_succ]
    repeat (walk_at "b")
    refine w_while (fun m S' => ∃ (p : Nat) (acc : List D) (o3 o4 : Option Sv), S' = ⟨[some (.d (rowD row)), some (.o os.length), some (.d (.int (p : Nat))), o3, o4], os ++ [.ml acc]⟩ ∧ m = row.length - p ∧ acc.length ≤ p ∧ p ≤ row.length ∧ allF row (row.length + 1 - p) p acc = allW row) _
      ⟨0, [], _, _, rfl, rfl, Nat.zero_le _, Nat.zero_le _, rfl⟩ ?_
    rintro m S' ⟨p, acc, o3, o4, rfl, rfl, hal, hpl, hall⟩
    repeat (walk_at "b")
    rw [List.length_map]
    refine br_ite (fun hp => ?_) (fun hp => ?_)
    · have hp : p < row.length := by omega
      refine w_seq (w_asgG ?_)
      refine ew_callNS (gS := fun us ws => us ++ ws) (fun as H vs zs ds es a b => svA_app a b) ?_
      refine aw_cons (ew_var rfl (aw_nil ⟨rfl, aw_cons (ew_var rfl (aw_nil ⟨rfl, row, p, rfl, hrow, hl, fun x b he => ?_, fun e he => ?_⟩))⟩))
      · obtain ⟨u1, u2⟩ := due_up he
        refine gw_tup rfl (gs_cons (gw_name (gs_cons (gw_name (gs_nil ?_)))))
        dsimp only [List.set_cons_zero, List.set_cons_succ]
        refine w_seq (w_drop (ew_app (ew_var rfl ⟨_, _, rfl, last_at, ew_tup2 (aw_cons (ew_var rfl (aw_cons (ew_var rfl (aw_nil ⟨_, rfl, by show 2 ≤ sizeLine; decide, _, _, rfl, last_at, by rw [sizeLine_eq]; omega, ?_⟩)))))⟩)))
        rw [last_set]
        refine w_asg (ew_var rfl ?_)
        refine ⟨row.length - b, by omega, b, _, _, _, rfl, rfl, by rw [List.length_append, List.length_singleton]; omega, u2, ?_⟩
        rw [← all_step hp he]
        exact hall
      · show EA M _ ((os ++ [Ob.ml acc]).take os.length)
        rw [List.take_left' rfl]
        refine hE e ?_
        rw [← hall]
        exact all_no hp he
    · have hp : ¬ p < row.length := by omega
      refine w_ret (ew_var rfl ?_)
      rw [all_end hp] at hall
      exact ⟨rfl, by rw [List.length_append]; rfl, hQ acc hall.symm⟩
end

open PySem PySem.Spec PyProof.Rows L2 Br
/-! ### a display's keys -/
def kdsOf : List (D × D) → Option (List (Key × D))
  | [] => some []
  | (.str z, v) :: r => (kdsOf r).map fun k => (.inr z, v) :: k
  | (.int i, v) :: r => (kdsOf r).map fun k => (.inl i, v) :: k
  | _ :: _ => none
theorem kds_ok : ∀ {ds : List (D × D)} {kds : List (Key × D)}, kdsOf ds = some kds → ds = kds.map fun kv => (keyD kv.1, kv.2)
  | [], kds, h => by
    cases (show some [] = some kds from h)
    rfl
  | (.str z, v) :: r, kds, h => by
    obtain ⟨k, e, rfl⟩ := Option.map_eq_some_iff.mp (show (kdsOf r).map (fun k => (Sum.inr z, v) :: k) = some kds from h)
    rw [List.map_cons, ← kds_ok e]
    rfl
  | (.int z, v) :: r, kds, h => by
    obtain ⟨k, e, rfl⟩ := Option.map_eq_some_iff.mp (show (kdsOf r).map (fun k => (Sum.inl z, v) :: k) = some kds from h)
    rw [List.map_cons, ← kds_ok e]
    rfl
  | (.non, _) :: _, _, h => by cases h
  | (.bl _, _) :: _, _, h => by cases h
  | (.lst _, _) :: _, _, h => by cases h
  | (.tup _, _) :: _, _, h => by cases h
  | (.dk _, _) :: _, _, h => by cases h
  | (.ob _ _, _) :: _, _, h => by cases h
  | (.xo _ _, _) :: _, _, h => by cases h
theorem put_new {kvs : List (Key × D)} {k : Key} {v : D} (h : k ∉ kvs.map (·.1)) : putD kvs k v = kvs ++ [(k, v)] := by
  unfold putD
  have e : (kvs.any fun kv => decide (kv.1 = k)) = false := by
    rw [List.any_eq_false]
    intro kv hk hd
    exact h (List.mem_map.mpr ⟨kv, hk, of_decide_eq_true hd⟩)
  rw [e]
  rfl
theorem merge_new : ∀ {more kvs : List (Key × D)}, ((kvs ++ more).map (·.1)).Nodup → mergeD kvs more = kvs ++ more
  | [], kvs, _ => by rw [List.append_nil]; rfl
  | (k, v) :: r, kvs, h => by
    have e1 : kvs ++ (k, v) :: r = (kvs ++ [(k, v)]) ++ r := by simp
    have hk : k ∉ kvs.map (·.1) := fun z => by
      rw [List.map_append, List.map_cons] at h
      exact (List.nodup_append.mp h).2.2 k z k (by simp) rfl
    show mergeD (putD kvs k v) r = _
    rw [put_new hk, merge_new (by rw [← e1]; exact h), ← e1]
theorem set_last {os : Os} {a b : Ob} : (os ++ [a]).set os.length b = os ++ [b] := by
  rw [List.set_append_right _ _ (Nat.le_refl _)]
  simp
theorem get_last {os : Os} {a : Ob} : (os ++ [a])[os.length]? = some a := by simp
/-! ### the law's own table -/
def kndOf (p : Str) : Str := if p = "nm" then "nn" else if p = "xy" then "xx" else p
def tbL : List (Key × D) := mst.map fun e => (.inr e.1, .tup [.int e.2.1, .str (kndOf e.2.2.1), .int (roomOf e.2.2.2 : Nat)])
theorem lookD_L (z : Str) : lookD tbL (.inr z) = (mfind z).map fun e => D.tup [.int e.2.1, .str (kndOf e.2.2.1), .int (roomOf e.2.2.2 : Nat)] := by
  unfold lookD tbL mfind
  rw [List.find?_map, Option.map_map]
  have e : ((fun kv : Key × D => decide (kv.1 = Sum.inr z)) ∘ fun e : En => ((.inr e.1 : Key), D.tup [.int e.2.1, .str (kndOf e.2.2.1), .int (roomOf e.2.2.2 : Nat)])) = fun e : En => decide (e.1 = z) := by
    funext e
    show decide ((Sum.inr e.1 : Key) = Sum.inr z) = decide (e.1 = z)
    by_cases h : e.1 = z
    · simp [h]
    · rw [decide_eq_false h, decide_eq_false fun q => h (Sum.inr.inj q)]
  rw [e]
  rfl
def fTable : FD := fun ds os QA _ => ds = [] ∧ QA (.dk tbL) os
def fPickS : FD := fun ds os QA _ => ∃ (k : Nat) (z : Str) (cells : List Int) (b : Int) (o : Os), ds = [.o k, .d (.str z)] ∧ Pn k cells b o os ∧ (0 < z.length ∧ z.length ≤ 1000) ∧ b < 2 ^ 38 ∧
  ∀ c os', c ∈ z.cps.toList → Pn k cells (b + 1) o os' → QA (.str ⟨#[c]⟩) os'
section
variable {P : Program} {w : World} {K : PySem.W.Frag} {mg : Str → Option Value} {base : Heap}
theorem ok_l_pickS {f f_draw : Addr} {fd fd_draw : FuncData} (F : Fun K "_law_pick" "_law_pick" s_l_pick f fd) (z_len : mg "len" = none)
    (G_l_draw : FnOk P w K mg base CX0 1 f_draw fd_draw ["_law_pen", "_law_span"] (spD K fDraw)) (C_l_draw : Cal K mg "_law_draw" f_draw fd_draw ["_law_pen", "_law_span"]) : FnOk P w K mg base CX0 2 f fd ["_law_pen", "_law_some"] (spD K fPickS) := by
  refine F.ok sc_l_pick (fun vs H Q E h => ?_) (fun cdv A outer s H vs Q E hr h => ?_)
  · obtain ⟨as, os, ds, QA, EA, R, r, ⟨k, z, cells, b, o, rfl, _⟩, _⟩ := h
    rw [r.length]
    rfl
  · refine ⟨_, (pss_one (ps_ret (pe_ix ix_str (pv 1) (pe_call G_l_draw (hr.mono (by decide)) rfl C_l_draw.m C_l_draw.k C_l_draw.b .nil pass0 (pa_cons (pv 0) (pa_cons (pe_callB call_lenS1 (by rfl) z_len PySem.boot_len (pa_cons (pv 1) pa_nil)) pa_nil))) (fun _ _ => rfl)))), read_of h fun ds os QA EA hf => ?_⟩
    obtain ⟨k, z, cells, b, o, rfl, ho, hs, hb, q⟩ := hf
    try dsimp only [cxOf, Cx.nox, Cx.wish]
    show W K _ _ _ ⟨[some (.o k), some (.d (.str z))], os⟩
    repeat (walk_at "b")
    refine cw_lenS (small_len (Nat.le_trans hs.2 (by decide))) ?_
    repeat (walk_at "b")
    refine ⟨_, _, _, _, _, rfl, ho, by omega, by omega, fun d os' h0 h1 ho => ?_⟩
    have hzl : z.cps.toList.length = z.length := by rw [Array.length_toList]; rfl
    obtain ⟨x, hx, hm⟩ := at_mem (xs := z.cps.toList) h0 (by rw [hzl]; exact h1)
    exact bw_ixS (small_len (Nat.le_trans hs.2 (by decide))) hx (Pn.ret ‹Pn k cells b o os› ho (q x os' hm ho))
abbrev s_l_table : Stmt := topS 46
abbrev N_l_table : List Str := ["_law_found"]
theorem sc_l_table : FnScope N_l_table [] (defScope s_l_table) := ⟨rfl, rfl, rfl, by decide +kernel, rfl, by decide +kernel, by decide +kernel⟩
theorem dw_row {K : PySem.W.Frag} {S : Sa} {Q : List (D × D) → Os → Prop} {z u : Str} {i j : Int} {trs : List (TE × TE)} (h : DW K X0 trs ⟨S.s, S.os⟩ fun ds os3 => Q ((.str z, .tup [.int i, .str u, .int j]) :: ds) os3) :
    DW K X0 ((tC (.str z), tTup (tCons (tC (.int i)) (tCons (tC (.str u)) (tCons (tC (.int j)) tNil)))) :: trs) S Q :=
  dw_cons (ew_str (ew_tup2 (aw_cons (ew_int (aw_cons (ew_str (aw_cons (ew_int (aw_nil ⟨_, rfl, (small_len (Nat.le_of_ble_eq_true rfl)), ⟨_, _, rfl, rfl, h⟩⟩)))))))))
local macro_rules | `(tactic| walk_at "dw") => `(tactic| first
  | refine dw_row ?_
  | refine dw_nil ?_)
def ch0 : List (Key × D) := [(.inr "halt", .tup [.int 0, .str "", .int 0]), (.inr "back", .tup [.int 1, .str "", .int 0]), (.inr "out", .tup [.int 4, .str "n", .int 0]), (.inr "in", .tup [.int 8, .str "n", .int 0]), (.inr "push", .tup [.int 12, .str "n", .int 0])]
def ch1 : List (Key × D) := [(.inr "pop", .tup [.int 16, .str "n", .int 0]), (.inr "set.short", .tup [.int 20, .str "n", .int 1]), (.inr "set.long", .tup [.int 24, .str "n", .int 2]), (.inr "copy", .tup [.int 32, .str "nn", .int 0])]
def ch2 : List (Key × D) := [(.inr "add", .tup [.int 48, .str "nn", .int 0]), (.inr "less", .tup [.int 64, .str "nn", .int 0]), (.inr "times", .tup [.int 80, .str "nn", .int 0]), (.inr "go.short", .tup [.int 96, .str "", .int 1])]
def ch3 : List (Key × D) := [(.inr "go.long", .tup [.int 97, .str "", .int 2]), (.inr "call.short", .tup [.int 98, .str "", .int 1]), (.inr "call.long", .tup [.int 99, .str "", .int 2])]
def ch4 : List (Key × D) := [(.inr "if.short", .tup [.int 100, .str "n", .int 1]), (.inr "if.long", .tup [.int 104, .str "n", .int 2]), (.inr "point", .tup [.int 112, .str "x", .int 2])]
def ch5 : List (Key × D) := [(.inr "walk", .tup [.int 120, .str "xn", .int 0]), (.inr "turn", .tup [.int 128, .str "xn", .int 0]), (.inr "load", .tup [.int 136, .str "nx", .int 0]), (.inr "store", .tup [.int 144, .str "nx", .int 0])]
def ch6 : List (Key × D) := [(.inr "same", .tup [.int 152, .str "n", .int 0]), (.inr "move", .tup [.int 160, .str "xx", .int 0]), (.inr "take", .tup [.int 164, .str "xx", .int 0]), (.inr "keep", .tup [.int 168, .str "xx", .int 0])]
def ch7 : List (Key × D) := [(.inr "callat", .tup [.int 172, .str "x", .int 0]), (.inr "goat", .tup [.int 174, .str "x", .int 0]), (.inr "none", .tup [.int 176, .str "nx", .int 0])]
theorem w_upd1 {K : PySem.W.Frag} {X : Xc} {E : Ea} {u : TS} {trs : List (TE × TE)} {os : Os} {kvs : List (Key × D)} (more : List (Key × D)) (hd : ∀ {S : Sa} {Q : List (D × D) → Os → Prop}, Q (more.map fun kv => (keyD kv.1, kv.2)) S.os → DW K X0 trs S Q)
    (hn : ((kvs ++ more).map (·.1)).Nodup) (hl : more.length ≤ 15) (hs : kvs.length ≤ 1000) (h : W K X u E ⟨[some (.o os.length)], os ++ [.md (kvs ++ more)]⟩) :
    W K X (tSeq (tDrop (tBM K "dict" rUpd (tVar 0) (tCons (tDisp trs) tNil))) u) E ⟨[some (.o os.length)], os ++ [.md kvs]⟩ := by
  have hm : mergeD [] more = more := merge_new (kvs := []) (by rw [List.map_append] at hn; exact (List.nodup_append.mp hn).2.1)
  refine w_seq (w_drop (ew_upd (ew_var rfl ⟨os.length, kvs, rfl, get_last, ew_disp (hd ⟨os ++ [.md kvs], more, rfl, rfl, hl, kvs, more, by rw [hm], get_last, ?_, ?_⟩)⟩)))
  · rw [sizeLine_eq]
    omega
  · rw [set_last, merge_new hn]
    exact h
theorem chunks : ch0 ++ ch1 ++ ch2 ++ ch3 ++ ch4 ++ ch5 ++ ch6 ++ ch7 = tbL := by rfl
theorem ok_l_table {f : Addr} {fd : FuncData} (F : Fun K "_law_table" "_law_table" s_l_table f fd) : FnOk P w K mg base CX0 1 f fd [] (spD K fTable) := by
  refine F.ok sc_l_table (fun vs H Q E h => ?_) (fun cdv A outer s H vs Q E hr h => ?_)
  · obtain ⟨as, os, ds, QA, EA, R, r, ⟨rfl, _⟩, _⟩ := h
    rw [r.length]
    rfl
  · refine ⟨_, (pss_cons (ps_set (i := 0) sc_l_table.nd rfl (Or.inl rfl) (pe_disp (pps_cons pe_str (pe_tup (pa_cons pe_int (pa_cons pe_str (pa_cons pe_int pa_nil)))) (pps_cons pe_str (pe_tup (pa_cons pe_int (pa_cons pe_str (pa_cons pe_int pa_nil)))) (pps_cons pe_str (pe_tup (pa_cons pe_int (pa_cons pe_str (pa_cons pe_int pa_nil)))) (pps_cons pe_str (pe_tup (pa_cons pe_int (pa_cons pe_str (pa_cons pe_int pa_nil)))) (pps_cons pe_str (pe_tup (pa_cons pe_int (pa_cons pe_str (pa_cons pe_int pa_nil)))) pps_nil))))) (by rfl) (by rfl) (fun z => by cases z) (by decide)))
  (pss_cons (ps_expr (pe_bm PySem.F.plainAttrs_dict PySem.F.slot_dict_update PySem.F.type_dict_update mt_update (pv 0) (pa_cons (pe_disp (pps_cons pe_str (pe_tup (pa_cons pe_int (pa_cons pe_str (pa_cons pe_int pa_nil)))) (pps_cons pe_str (pe_tup (pa_cons pe_int (pa_cons pe_str (pa_cons pe_int pa_nil)))) (pps_cons pe_str (pe_tup (pa_cons pe_int (pa_cons pe_str (pa_cons pe_int pa_nil)))) (pps_cons pe_str (pe_tup (pa_cons pe_int (pa_cons pe_str (pa_cons pe_int pa_nil)))) pps_nil)))) (by rfl) (by rfl) (fun z => by cases z) (by decide)) pa_nil)))
  (pss_cons (ps_expr (pe_bm PySem.F.plainAttrs_dict PySem.F.slot_dict_update PySem.F.type_dict_update mt_update (pv 0) (pa_cons (pe_disp (pps_cons pe_str (pe_tup (pa_cons pe_int (pa_cons pe_str (pa_cons pe_int pa_nil)))) (pps_cons pe_str (pe_tup (pa_cons pe_int (pa_cons pe_str (pa_cons pe_int pa_nil)))) (pps_cons pe_str (pe_tup (pa_cons pe_int (pa_cons pe_str (pa_cons pe_int pa_nil)))) (pps_cons pe_str (pe_tup (pa_cons pe_int (pa_cons pe_str (pa_cons pe_int pa_nil)))) pps_nil)))) (by rfl) (by rfl) (fun z => by cases z) (by decide)) pa_nil)))
  (pss_cons (ps_expr (pe_bm PySem.F.plainAttrs_dict PySem.F.slot_dict_update PySem.F.type_dict_update mt_update (pv 0) (pa_cons (pe_disp (pps_cons pe_str (pe_tup (pa_cons pe_int (pa_cons pe_str (pa_cons pe_int pa_nil)))) (pps_cons pe_str (pe_tup (pa_cons pe_int (pa_cons pe_str (pa_cons pe_int pa_nil)))) (pps_cons pe_str (pe_tup (pa_cons pe_int (pa_cons pe_str (pa_cons pe_int pa_nil)))) pps_nil))) (by rfl) (by rfl) (fun z => by cases z) (by decide)) pa_nil)))
  (pss_cons (ps_expr (pe_bm PySem.F.plainAttrs_dict PySem.F.slot_dict_update PySem.F.type_dict_update mt_update (pv 0) (pa_cons (pe_disp (pps_cons pe_str (pe_tup (pa_cons pe_int (pa_cons pe_str (pa_cons pe_int pa_nil)))) (pps_cons pe_str (pe_tup (pa_cons pe_int (pa_cons pe_str (pa_cons pe_int pa_nil)))) (pps_cons pe_str (pe_tup (pa_cons pe_int (pa_cons pe_str (pa_cons pe_int pa_nil)))) pps_nil))) (by rfl) (by rfl) (fun z => by cases z) (by decide)) pa_nil)))
  (pss_cons (ps_expr (pe_bm PySem.F.plainAttrs_dict PySem.F.slot_dict_update PySem.F.type_dict_update mt_update (pv 0) (pa_cons (pe_disp (pps_cons pe_str (pe_tup (pa_cons pe_int (pa_cons pe_str (pa_cons pe_int pa_nil)))) (pps_cons pe_str (pe_tup (pa_cons pe_int (pa_cons pe_str (pa_cons pe_int pa_nil)))) (pps_cons pe_str (pe_tup (pa_cons pe_int (pa_cons pe_str (pa_cons pe_int pa_nil)))) (pps_cons pe_str (pe_tup (pa_cons pe_int (pa_cons pe_str (pa_cons pe_int pa_nil)))) pps_nil)))) (by rfl) (by rfl) (fun z => by cases z) (by decide)) pa_nil)))
  (pss_cons (ps_expr (pe_bm PySem.F.plainAttrs_dict PySem.F.slot_dict_update PySem.F.type_dict_update mt_update (pv 0) (pa_cons (pe_disp (pps_cons pe_str (pe_tup (pa_cons pe_int (pa_cons pe_str (pa_cons pe_int pa_nil)))) (pps_cons pe_str (pe_tup (pa_cons pe_int (pa_cons pe_str (pa_cons pe_int pa_nil)))) (pps_cons pe_str (pe_tup (pa_cons pe_int (pa_cons pe_str (pa_cons pe_int pa_nil)))) (pps_cons pe_str (pe_tup (pa_cons pe_int (pa_cons pe_str (pa_cons pe_int pa_nil)))) pps_nil)))) (by rfl) (by rfl) (fun z => by cases z) (by decide)) pa_nil)))
  (pss_cons (ps_expr (pe_bm PySem.F.plainAttrs_dict PySem.F.slot_dict_update PySem.F.type_dict_update mt_update (pv 0) (pa_cons (pe_disp (pps_cons pe_str (pe_tup (pa_cons pe_int (pa_cons pe_str (pa_cons pe_int pa_nil)))) (pps_cons pe_str (pe_tup (pa_cons pe_int (pa_cons pe_str (pa_cons pe_int pa_nil)))) (pps_cons pe_str (pe_tup (pa_cons pe_int (pa_cons pe_str (pa_cons pe_int pa_nil)))) pps_nil))) (by rfl) (by rfl) (fun z => by cases z) (by decide)) pa_nil)))
  (pss_one (ps_ret (pv 0))))))))))), readM_of h fun ds os QA EA hf => ?_⟩
    obtain ⟨rfl, q⟩ := hf
    try dsimp only [cxOf, Cx.nox, Cx.wish]
    show W K _ _ _ ⟨[none], os⟩
    refine w_seq (w_asgDisp ?_)
    repeat (walk_at "dw")
    refine ⟨os, ch0, rfl, rfl, by decide, ?_⟩
    have e0 : mergeD [] ch0 = ch0 := merge_new (kvs := []) (by decide +kernel)
    rw [e0]
    show W K _ _ _ ⟨[some (.o os.length)], os ++ [.md ch0]⟩
    refine w_upd1 ch1 (fun h => by (repeat (walk_at "dw")); exact h) (by decide +kernel) (by decide) (by decide) ?_
    refine w_upd1 ch2 (fun h => by (repeat (walk_at "dw")); exact h) (by decide +kernel) (by decide) (by decide) ?_
    refine w_upd1 ch3 (fun h => by (repeat (walk_at "dw")); exact h) (by decide +kernel) (by decide) (by decide) ?_
    refine w_upd1 ch4 (fun h => by (repeat (walk_at "dw")); exact h) (by decide +kernel) (by decide) (by decide) ?_
    refine w_upd1 ch5 (fun h => by (repeat (walk_at "dw")); exact h) (by decide +kernel) (by decide) (by decide) ?_
    refine w_upd1 ch6 (fun h => by (repeat (walk_at "dw")); exact h) (by decide +kernel) (by decide) (by decide) ?_
    refine w_upd1 ch7 (fun h => by (repeat (walk_at "dw")); exact h) (by decide +kernel) (by decide) (by decide) ?_
    rw [chunks]
    refine w_ret (ew_var rfl ⟨Nat.le_refl _, tbL, get_last, ?_⟩)
    rw [List.take_left' rfl]
    exact q
end

open PySem PySem.Spec PyProof.Rows L2 Br
/-- the letters that a pattern lets stand -/
def ltr (p : Str) : List Str := p.cps.toList.map fun c => if c = 120 ∨ c = 121 then "pq" else "abcd"
theorem knd_ltr : ∀ p ∈ pats, (kndOf p).cps.toList.map (fun c => if c = 120 then ("pq" : Str) else "abcd") = ltr p ∧ (kndOf p).length = (ltr p).length ∧ (kndOf p).length ≤ 2 := by decide +kernel
theorem near_is : ∀ e ∈ mst, decide (e.1 ∈ (["go.short", "call.short", "if.short"] : List Str)) = decide (e.2.2.2 = some ("near" : Str)) := by decide +kernel
theorem x_is {c : Nat} : decide ((⟨#[c]⟩ : Str) = "x") = decide (c = 120) := by
  by_cases h : c = 120
  · subst h
    rfl
  · rw [decide_eq_false h]
    refine decide_eq_false fun q => h ?_
    have e : (#[c] : Array Nat) = #[120] := congrArg Str.cps q
    simpa using e
theorem fld_cases {f : Option Str} (h : f ∈ flds) : (f = none ∧ roomOf f = 0 ∧ numOk f none) ∨ (f = some ("near" : Str) ∧ roomOf f = 1 ∧ ∀ n : Int, -128 ≤ n → n ≤ 127 → numOk f (some n)) ∨ (f ≠ some ("near" : Str) ∧ roomOf f = 1 ∧ ∀ n : Int, 0 ≤ n → n ≤ 255 → numOk f (some n)) ∨ (f ≠ some ("near" : Str) ∧ roomOf f = 2 ∧ ∀ n : Int, 0 ≤ n → n ≤ 65535 → numOk f (some n)) := by
  simp only [flds, List.mem_cons, List.not_mem_nil, or_false] at h
  rcases h with rfl | rfl | rfl | rfl | rfl
  · exact .inl ⟨rfl, rfl, trivial⟩
  · exact .inr (.inr (.inl ⟨by decide, rfl, fun n a b => ⟨a, b⟩⟩))
  · exact .inr (.inr (.inr ⟨by decide, rfl, fun n a b => ⟨a, b⟩⟩))
  · exact .inr (.inl ⟨rfl, rfl, fun n a b => ⟨a, b⟩⟩)
  · exact .inr (.inr (.inr ⟨by decide, rfl, fun n a b => ⟨a, b⟩⟩))
/-- all rows of letters -/
def prods : List Str → List (List Nat)
  | [] => [[]]
  | l :: ls => l.cps.toList.flatMap fun c => (prods ls).map fun r => c :: r
theorem mem_prods : ∀ {ls : List Str} {cs : List Nat}, cs.length = ls.length → (∀ (j : Nat) (c : Nat), cs[j]? = some c → ∃ l, ls[j]? = some l ∧ c ∈ l.cps.toList) → cs ∈ prods ls
  | [], [], _, _ => List.mem_singleton.mpr rfl
  | [], _ :: _, h, _ => by cases h
  | _ :: _, [], h, _ => by cases h
  | l :: ls, c :: cs, h, k => by
    have h0 := k 0 c rfl
    obtain ⟨l', e, hc⟩ := h0
    cases e
    refine List.mem_flatMap.mpr ⟨c, hc, List.mem_map.mpr ⟨cs, mem_prods (Nat.succ.inj h) fun j d hj => ?_, rfl⟩⟩
    exact k (j + 1) d hj
theorem prods_let : ∀ p ∈ pats, ∀ cs ∈ prods (ltr p), ∃ far, far < (lets p).length ∧ tx cs = (lets p).getD far "" := by
  have h : ∀ p ∈ pats, ∀ cs ∈ prods (ltr p), (List.range (lets p).length).any (fun far => decide (tx cs = (lets p).getD far "")) = true := by decide +kernel
  intro p hp cs hcs
  obtain ⟨far, h1, h2⟩ := List.any_eq_true.mp (h p hp cs hcs)
  exact ⟨far, List.mem_range.mp h1, of_decide_eq_true h2⟩
theorem bw_ix0 {K : PySem.W.Frag} {os : Os} {Q : Sv → Os → Prop} {x : D} {r : List D} (q : Q (.d x) os) : BW K (rIxT K) (.d (.tup (x :: r))) (.d (.int 0)) os Q := bw_ixT (atI_nat (j := 0) rfl) q
theorem bw_ix1 {K : PySem.W.Frag} {os : Os} {Q : Sv → Os → Prop} {x y : D} {r : List D} (q : Q (.d y) os) : BW K (rIxT K) (.d (.tup (x :: y :: r))) (.d (.int 1)) os Q := bw_ixT (atI_nat (j := 1) rfl) q
theorem bw_ix2 {K : PySem.W.Frag} {os : Os} {Q : Sv → Os → Prop} {x y z : D} {r : List D} (q : Q (.d z) os) : BW K (rIxT K) (.d (.tup (x :: y :: z :: r))) (.d (.int 2)) os Q := bw_ixT (atI_nat (j := 2) rfl) q
local macro_rules | `(tactic| walk_at "b") => `(tactic| first
  | with_reducible refine bw_ix0 ?_
  | with_reducible refine bw_ix1 ?_
  | with_reducible refine bw_ix2 ?_
  | with_reducible refine ew_notInD ?_
  | with_reducible refine ew_dgetD ?_)
theorem ew_negI {K : PySem.W.Frag} {X : Xc} {S : Sa} {Q : Sv → Os → Prop} {i : Int} (q : Q (.d (.int (-i))) S.os) : EW K X (tUn (rU fun i => V.int (-i)) (tC (.int i))) S Q :=
  ew_un (ew_int fun as H v Q' R r k => by
    cases r
    exact ⟨i, rfl, k _ H (.d (.int _)) S.os (Go.refl _ _) R (Dx.int _) q⟩)
local macro_rules | `(tactic| walk_at "b") => `(tactic| with_reducible refine ew_negI ?_)
theorem spD_or {K : PySem.W.Frag} {f1 f2 : FD} {vs : List V} {H : Hp} {Q : VK} {E : XK} (h : spD K (fun ds os QA EA => f1 ds os QA EA ∨ f2 ds os QA EA) vs H Q E) : spD K f1 vs H Q E ∨ spD K f2 vs H Q E := by
  obtain ⟨as, os, ds, QA, EA, R, r, hf, k1, k2⟩ := h
  rcases hf with hf | hf
  · exact .inl ⟨as, os, ds, QA, EA, R, r, hf, k1, k2⟩
  · exact .inr ⟨as, os, ds, QA, EA, R, r, hf, k1, k2⟩
def fPickU : FD := fun ds os QA EA => fPick ds os QA EA ∨ fPickS ds os QA EA
def fDrawn : FD := fun ds os QA _ => ∃ (k : Nat) (cells : List Int) (b : Int) (o : Os), ds = [.o k] ∧ Pn k cells b o os ∧ b < 2 ^ 37 ∧
  ∀ e far n os', Wd e far n → Pn k cells (b + 10) o os' → QA (wordD e far n) os'
theorem heads : tbL.map (·.1) = (mst.map (·.1)).map Sum.inr := by
  unfold tbL
  rw [List.map_map, List.map_map]
  rfl
theorem heads_find {z : Str} (h : z ∈ mst.map (·.1)) : ∃ e, mfind z = some e := by
  obtain ⟨e, he, rfl⟩ := List.mem_map.mp h
  cases hq : mfind e.1 with
  | some q => exact ⟨q, rfl⟩
  | none => exact absurd (List.find?_eq_none.mp hq e he) (by simp)
section
variable {P : Program} {w : World} {K : PySem.W.Frag} {mg : Str → Option Value} {base : Heap}
theorem fn_or {k : Nat} {f : Addr} {fd : FuncData} {ps : List Str} {sp sp1 sp2 : Sp} (m : ∀ vs H Q E, sp vs H Q E → sp1 vs H Q E ∨ sp2 vs H Q E) (F1 : FnOk P w K mg base CX0 k f fd ps sp1) (F2 : FnOk P w K mg base CX0 k f fd ps sp2) : FnOk P w K mg base CX0 k f fd ps sp :=
  ⟨fun vs H Q E h => (m vs H Q E h).elim (F1.len vs H Q E) (F2.len vs H Q E), fun A outer s H args us vs Q E hr e0 hb r h => (m vs H Q E h).elim (fun h1 => F1.run A outer s H args us vs Q E hr e0 hb r h1) (fun h2 => F2.run A outer s H args us vs Q E hr e0 hb r h2)⟩
theorem ok_l_pickU {f f_draw : Addr} {fd fd_draw : FuncData} (F : Fun K "_law_pick" "_law_pick" s_l_pick f fd) (z_len : mg "len" = none)
    (G_l_draw : FnOk P w K mg base CX0 1 f_draw fd_draw ["_law_pen", "_law_span"] (spD K fDraw)) (C_l_draw : Cal K mg "_law_draw" f_draw fd_draw ["_law_pen", "_law_span"]) : FnOk P w K mg base CX0 2 f fd ["_law_pen", "_law_some"] (spD K fPickU) := fn_or (fun _ _ _ _ h => spD_or h) (ok_l_pick F z_len G_l_draw C_l_draw) (ok_l_pickS F z_len G_l_draw C_l_draw)
abbrev s_l_drawn_word : Stmt := topS 47
abbrev N_l_drawn_word : List Str := ["_law_pen", "_law_table_here", "_law_head", "_law_first", "_law_kinds", "_law_room", "_law_letters", "_law_low", "_law_kind"]
theorem sc_l_drawn_word : FnScope N_l_drawn_word ["_law_pen"] (defScope s_l_drawn_word) := ⟨rfl, rfl, rfl, by decide +kernel, rfl, by decide +kernel, by decide +kernel⟩
theorem ok_l_drawn_word {f a1 a2 a3 : Addr} {fd d1 d2 d3 : FuncData} (F : Fun K "_law_drawn_word" "_law_drawn_word" s_l_drawn_word f fd) (z_sorted : mg "sorted" = none) (z_int : mg "int" = none)
    (G_l_draw : FnOk P w K mg base CX0 1 a1 d1 ["_law_pen", "_law_span"] (spD K fDraw)) (C_l_draw : Cal K mg "_law_draw" a1 d1 ["_law_pen", "_law_span"])
    (G_l_pick : FnOk P w K mg base CX0 2 a2 d2 ["_law_pen", "_law_some"] (spD K fPickU)) (C_l_pick : Cal K mg "_law_pick" a2 d2 ["_law_pen", "_law_some"])
    (G_l_table : FnOk P w K mg base CX0 1 a3 d3 [] (spD K fTable)) (C_l_table : Cal K mg "_law_table" a3 d3 []) : FnOk P w K mg base CX0 3 f fd ["_law_pen"] (spD K fDrawn) := by
  refine F.ok sc_l_drawn_word (fun vs H Q E h => ?_) (fun cdv A outer s H vs Q E hr h => ?_)
  · obtain ⟨as, os, ds, QA, EA, R, r, ⟨k, cells, b, o, rfl, _⟩, _⟩ := h
    rw [r.length]
    rfl
  · have hu := hu_of hr
    refine ⟨_, (pss_cons (ps_set (i := 1) sc_l_drawn_word.nd rfl (Or.inl rfl) (pe_call0 G_l_table (hr.mono (by decide)) rfl C_l_table.m C_l_table.k C_l_table.b .nil pass0))
  (pss_cons (ps_set (i := 2) sc_l_drawn_word.nd rfl (Or.inl rfl) (pe_call G_l_pick (hr.mono (by decide)) rfl C_l_pick.m C_l_pick.k C_l_pick.b .nil pass0 (pa_cons (pv 0) (pa_cons (pe_callB (call_sortedD rfl) (by rfl) z_sorted (by decide +kernel) (pa_cons (pv 1) pa_nil)) pa_nil))))
  (pss_cons (ps_asg (pe_dget hu (pv 1) (pv 2) (fun _ _ => rfl)) (pg_tup (by rfl) (pgs_cons (pg_name (i := 3) sc_l_drawn_word.nd rfl (Or.inl rfl)) (pgs_cons (pg_name (i := 4) sc_l_drawn_word.nd rfl (Or.inl rfl)) (pgs_cons (pg_name (i := 5) sc_l_drawn_word.nd rfl (Or.inl rfl)) pgs_nil)))))
  (pss_cons (ps_set (i := 6) sc_l_drawn_word.nd rfl (Or.inl rfl) (pe_join pe_str (pe_lc (own := [("_law_kind", 8)]) (g := (gName 8)) rfl sc_l_drawn_word.nd (pi_str (pv 4)) (blkOk_by (own := [("_law_kind", 8)]) (N := N_l_drawn_word) (sc := defScope s_l_drawn_word) (by decide +kernel)) (fun _ _ _ _ _ => (pg_name (i := 8) sc_l_drawn_word.nd rfl (Or.inl rfl))) (fun _ _ _ _ _ => pts_nil) (fun _ _ _ _ _ => (pe_call G_l_pick (hr.mono (by decide)) rfl C_l_pick.m C_l_pick.k C_l_pick.b .nil pass0 (pa_cons (pv 0) (pa_cons (pe_ix (r := rIxL K) ix_list (pe_lst (pa_cons pe_str (pa_cons pe_str pa_nil))) (pe_callTy call_intA (by rfl) z_int (by decide +kernel) (pa_cons (pe_cmpR op_eq (pv 8) pe_str (nomark _)) pa_nil)) (fun _ _ => rfl)) pa_nil)))))))
  (pss_cons (ps_if (pt_cmpR op_eq (pv 5) pe_int (nomark _)) (pss_one (ps_ret (pe_tup (pa_cons (pv 2) (pa_cons (pv 6) (pa_cons pe_non pa_nil)))))) pss_nil)
  (pss_cons (ps_if (pt_cmpR op_eq (pv 5) pe_int (nomark _)) (pss_one (ps_ret (pe_tup (pa_cons (pv 2) (pa_cons (pv 6) (pa_cons (pe_ix (r := rIxL K) ix_list (pe_lst (pa_cons pe_int (pa_cons pe_int (pa_cons pe_int (pa_cons pe_int (pa_cons (pe_call G_l_draw (hr.mono (by decide)) rfl C_l_draw.m C_l_draw.k C_l_draw.b .nil pass0 (pa_cons (pv 0) (pa_cons pe_int pa_nil))) pa_nil)))))) (pe_call G_l_draw (hr.mono (by decide)) rfl C_l_draw.m C_l_draw.k C_l_draw.b .nil pass0 (pa_cons (pv 0) (pa_cons pe_int pa_nil))) (fun _ _ => rfl)) pa_nil)))))) pss_nil)
  (pss_cons (ps_set (i := 7) sc_l_drawn_word.nd rfl (Or.inl rfl) (pe_ix (r := rIxL K) ix_list (pe_lst (pa_cons pe_int (pa_cons (pe_un un_neg pe_int) pa_nil))) (pe_callTy call_intA (by rfl) z_int (by decide +kernel) (pa_cons (pe_cmpR op_in_seq (pv 2) (pe_tup (pa_cons pe_str (pa_cons pe_str (pa_cons pe_str pa_nil)))) rfl) pa_nil)) (fun _ _ => rfl)))
  (pss_one (ps_ret (pe_tup (pa_cons (pv 2) (pa_cons (pv 6) (pa_cons (pe_op op_add (pv 7) (pe_ix (r := rIxL K) ix_list (pe_lst (pa_cons pe_int (pa_cons pe_int (pa_cons pe_int (pa_cons pe_int (pa_cons (pe_call G_l_draw (hr.mono (by decide)) rfl C_l_draw.m C_l_draw.k C_l_draw.b .nil pass0 (pa_cons (pv 0) (pa_cons pe_int pa_nil))) pa_nil)))))) (pe_call G_l_draw (hr.mono (by decide)) rfl C_l_draw.m C_l_draw.k C_l_draw.b .nil pass0 (pa_cons (pv 0) (pa_cons pe_int pa_nil))) (fun _ _ => rfl))) pa_nil))))))))))))), read_of h fun ds os QA EA hf => ?_⟩
    obtain ⟨k, cells, b, o, rfl, ho, hb, q⟩ := hf
    try dsimp only [cxOf, Cx.nox, Cx.wish]
    show W K _ _ _ ⟨[some (.o k), none, none, none, none, none, none, none, none], os⟩
    repeat (walk_at "b")
    refine ⟨rfl, ?_⟩
    try dsimp only [List.set_cons_zero, List.set_cons_succ]
    repeat (walk_at "b")
    refine cw_sortedD heads (by decide) fun ys hperm => ?_
    repeat (walk_at "b")
    have hyl : ys.length = 30 := hperm.length_eq
    refine .inl ⟨k, _, cells, b, o, rfl, ho, ⟨by rw [List.length_map]; omega, by rw [List.length_map]; omega⟩, by omega, fun d os1 hm ho1 => ?_⟩
    obtain ⟨z, hz, rfl⟩ := List.mem_map.mp hm
    obtain ⟨e, he⟩ := heads_find (hperm.mem_iff.mp hz)
    obtain ⟨hmem, hez⟩ := mfind_mem he
    subst hez
    obtain ⟨hp, hfl⟩ := in_pats e hmem
    obtain ⟨k1, k2, k3⟩ := knd_ltr _ hp
    try dsimp only [List.set_cons_zero, List.set_cons_succ]
    repeat (walk_at "b")
    refine ⟨tbL, .inr e.1, _, rfl, rfl, by rw [lookD_L, he]; rfl, ?_⟩
    refine gw_tup rfl ?_
    repeat (walk_at "b")
    have hk : k < o.length := by
      obtain ⟨_, _, _, hk, _⟩ := ho
      exact hk
    refine ew_join (ew_str ⟨"", rfl, ?_⟩)
    refine ew_lc (wg_name (by decide)) mg_name ?_
    refine iw_str ?_
    repeat (walk_at "b")
    refine ⟨fun i acc os2 => ∃ cs : List Nat, acc = cs.map (fun c => D.str ⟨#[c]⟩) ∧ cs.length = i ∧ (∀ (j : Nat) (c : Nat), cs[j]? = some c → ∃ l, (ltr e.2.2.1)[j]? = some l ∧ c ∈ l.cps.toList) ∧ Pn k cells (b + 1 + i) o os2, ⟨[], rfl, rfl, (fun j c h => by simp at h), ho1.mono (by omega)⟩, ?_, ?_⟩
    · rintro i d acc os2 hd ⟨cs, rfl, hcl, hcs, ho2⟩
      rw [List.getElem?_map] at hd
      obtain ⟨kc, hkc, rfl⟩ := Option.map_eq_some_iff.mp hd
      have hi : i < (kndOf e.2.2.1).length := by
        have h := (List.getElem?_eq_some_iff.mp hkc).1
        rw [Array.length_toList] at h
        exact h
      have hL : (ltr e.2.2.1)[i]? = some (if kc = 120 then ("pq" : Str) else "abcd") := by
        rw [← k1, List.getElem?_map, hkc]
        rfl
      refine gw_name ?_
      refine tw_yes (br_T ?_)
      show EW K X0 _ ⟨[some (.o k), some (.d (.dk tbL)), some (.d (.str e.1)), some (.d (.int e.2.1)), some (.d (.str (kndOf e.2.2.1))), some (.d (.int (roomOf e.2.2.2 : Nat))), none, none, some (.d (.str ⟨#[kc]⟩))], _⟩ _
      repeat (walk_at "b")
      refine bw_eqS ?_
      rw [x_is]
      refine aw_nil (cw_intB ?_)
      refine bw_ixL (z := .str (if kc = 120 then ("pq" : Str) else "abcd")) ?_ ?_
      · by_cases h : kc = 120
        · rw [decide_eq_true h, if_pos h]
          rfl
        · rw [decide_eq_false h, if_neg h]
          rfl
      have hlen : 0 < (if kc = 120 then ("pq" : Str) else "abcd").length ∧ (if kc = 120 then ("pq" : Str) else "abcd").length ≤ 1000 := by
        split <;> exact ⟨by decide, by decide⟩
      refine aw_nil (.inr ⟨k, _, cells, b + 1 + i, _, rfl, ho2.push _, hlen, by omega, fun c os3 hc ho3 => ?_⟩)
      obtain ⟨os4, rfl, ho4⟩ := ho3.pop hk
      refine ⟨_, _, rfl, rfl, ?_, cs ++ [c], by rw [List.map_append]; rfl, by rw [List.length_append, hcl]; rfl, ?_, ho4.mono (by omega)⟩
      · rw [List.length_map, sizeLine_eq]
        omega
      · intro j c' hj
        by_cases hjl : j < cs.length
        · rw [List.getElem?_append_left hjl] at hj
          exact hcs j c' hj
        · have hj2 := (List.getElem?_eq_some_iff.mp hj).1
          rw [List.length_append] at hj2
          have hj3 : j = cs.length := by
            have : ([c] : List Nat).length = 1 := rfl
            omega
          subst hj3
          rw [List.getElem?_append_right (Nat.le_refl _)] at hj
          simp at hj
          subst hj
          exact ⟨_, by rw [hcl]; exact hL, hc⟩
    · rintro acc os2 ⟨cs, rfl, hcl, hcs, ho2⟩
      rw [List.length_map, Array.length_toList] at hcl
      have hcl2 : cs.length = (kndOf e.2.2.1).length := hcl
      rw [List.length_map, Array.length_toList] at ho2
      have ho2' : Pn k cells (b + 3) o os2 := ho2.mono (by
        have : (kndOf e.2.2.1).cps.size = (kndOf e.2.2.1).length := rfl
        omega)
      refine ⟨cs.map fun c => (⟨#[c]⟩ : Str), by rw [List.map_map]; rfl, ?_, ?_⟩
      · rw [sum_one, List.length_map]
        have e2 : ("" : Str).length = 0 := rfl
        rw [e2]
        omega
      rw [join_cs]
      have hlc : cs.length = (ltr e.2.2.1).length := by omega
      obtain ⟨far, hfar, hfe⟩ := prods_let _ hp cs (mem_prods hlc hcs)
      rw [hfe]
      have fin : ∀ n, numOk e.2.2.2 n → Wd e far n := fun n hn => ⟨hmem, hfar, hn⟩
      repeat (walk_at "b")
      have hnear := near_is e hmem
      rcases fld_cases hfl with ⟨g1, g3, g2⟩ | ⟨g1, g3, g2⟩ | ⟨g1, g3, g2⟩ | ⟨g1, g3, g2⟩
      · refine br_ite (fun _ => ?_) (fun h => absurd (by omega) h)
        have wd := fin none g2
        repeat (walk_at "b")
        exact Pn.ret ho ho2' (q e far _ os2 wd (ho2'.mono (by omega)))
      · refine br_ite (fun h => absurd h (by omega)) (fun _ => ?_)
        repeat (walk_at "b")
        refine br_ite (fun h => absurd h (by omega)) (fun _ => ?_)
        repeat (walk_at "b")
        refine bw_inT (ns := ["go.short", "call.short", "if.short"]) ?_
        rw [hnear, decide_eq_true g1]
        refine aw_nil (cw_intB ?_)
        refine bw_ixL (z := .int (-128)) rfl ?_
        try dsimp only [List.set_cons_zero, List.set_cons_succ]
        repeat (walk_at "b")
        refine ⟨_, _, _, _, _, rfl, ho2', by omega, by omega, fun d1 os3 p0 p1 ho3 => ?_⟩
        repeat (walk_at "b")
        refine ⟨_, _, _, _, _, rfl, ho3, by omega, by omega, fun d2 os4 r0 r1 ho4 => ?_⟩
        obtain ⟨x, hx, hm2⟩ := at_mem (xs := [D.int 0, .int 255, .int 127, .int 128, .int d1]) r0 r1
        refine bw_ixL hx ?_
        have hv : ∃ v : Int, x = .int v ∧ 0 ≤ v ∧ v ≤ 255 := by
          simp only [List.mem_cons, List.not_mem_nil, or_false] at hm2
          rcases hm2 with rfl | rfl | rfl | rfl | rfl
          · exact ⟨_, rfl, by decide, by decide⟩
          · exact ⟨_, rfl, by decide, by decide⟩
          · exact ⟨_, rfl, by decide, by decide⟩
          · exact ⟨_, rfl, by decide, by decide⟩
          · exact ⟨_, rfl, by omega, by omega⟩
        obtain ⟨v, rfl, v0, v1⟩ := hv
        repeat (walk_at "b")
        have wd := fin (some (-128 + v)) (g2 _ (by omega) (by omega))
        exact Pn.ret ho ho4 (q e far _ os4 wd (ho4.mono (by omega)))
      · refine br_ite (fun h => absurd h (by omega)) (fun _ => ?_)
        repeat (walk_at "b")
        refine br_ite (fun h => absurd h (by omega)) (fun _ => ?_)
        repeat (walk_at "b")
        refine bw_inT (ns := ["go.short", "call.short", "if.short"]) ?_
        rw [hnear, decide_eq_false g1]
        refine aw_nil (cw_intB ?_)
        refine bw_ixL (z := .int (0)) rfl ?_
        try dsimp only [List.set_cons_zero, List.set_cons_succ]
        repeat (walk_at "b")
        refine ⟨_, _, _, _, _, rfl, ho2', by omega, by omega, fun d1 os3 p0 p1 ho3 => ?_⟩
        repeat (walk_at "b")
        refine ⟨_, _, _, _, _, rfl, ho3, by omega, by omega, fun d2 os4 r0 r1 ho4 => ?_⟩
        obtain ⟨x, hx, hm2⟩ := at_mem (xs := [D.int 0, .int 255, .int 127, .int 128, .int d1]) r0 r1
        refine bw_ixL hx ?_
        have hv : ∃ v : Int, x = .int v ∧ 0 ≤ v ∧ v ≤ 255 := by
          simp only [List.mem_cons, List.not_mem_nil, or_false] at hm2
          rcases hm2 with rfl | rfl | rfl | rfl | rfl
          · exact ⟨_, rfl, by decide, by decide⟩
          · exact ⟨_, rfl, by decide, by decide⟩
          · exact ⟨_, rfl, by decide, by decide⟩
          · exact ⟨_, rfl, by decide, by decide⟩
          · exact ⟨_, rfl, by omega, by omega⟩
        obtain ⟨v, rfl, v0, v1⟩ := hv
        repeat (walk_at "b")
        have wd := fin (some (0 + v)) (g2 _ (by omega) (by omega))
        exact Pn.ret ho ho4 (q e far _ os4 wd (ho4.mono (by omega)))
      · refine br_ite (fun h => absurd h (by omega)) (fun _ => ?_)
        repeat (walk_at "b")
        refine br_ite (fun _ => ?_) (fun h => absurd (by omega) h)
        repeat (walk_at "b")
        refine ⟨_, _, _, _, _, rfl, ho2', by omega, by omega, fun d1 os3 p0 p1 ho3 => ?_⟩
        repeat (walk_at "b")
        refine ⟨_, _, _, _, _, rfl, ho3, by omega, by omega, fun d2 os4 r0 r1 ho4 => ?_⟩
        obtain ⟨x, hx, hm2⟩ := at_mem (xs := [D.int 0, .int 255, .int 256, .int 65535, .int d1]) r0 r1
        refine bw_ixL hx ?_
        have hv : ∃ v : Int, x = .int v ∧ 0 ≤ v ∧ v ≤ 65535 := by
          simp only [List.mem_cons, List.not_mem_nil, or_false] at hm2
          rcases hm2 with rfl | rfl | rfl | rfl | rfl
          · exact ⟨_, rfl, by decide, by decide⟩
          · exact ⟨_, rfl, by decide, by decide⟩
          · exact ⟨_, rfl, by decide, by decide⟩
          · exact ⟨_, rfl, by decide, by decide⟩
          · exact ⟨_, rfl, by omega, by omega⟩
        obtain ⟨v, rfl, v0, v1⟩ := hv
        repeat (walk_at "b")
        have wd := fin (some v) (g2 _ (by omega) (by omega))
        exact Pn.ret ho ho4 (q e far _ os4 wd (ho4.mono (by omega)))
end

open PySem PySem.Spec PyProof.Rows L2 Br
def bnd (f : Option Str) : Option (Int × Int) := match f with
  | none => none
  | some f => if f = "byte" then some (0, 255) else if f = "near" then some (-128, 127) else some (0, 65535)
theorem fld_of {f : Option Str} (h : f ∈ flds) : (bnd f = none ∧ lookN tbF f = some (.tup [.int 0, .non, .non])) ∨ ∃ m lo hi : Int, bnd f = some (lo, hi) ∧ m ≠ 0 ∧ lookN tbF f = some (.tup [.int m, .int lo, .int hi]) := by
  simp only [flds, List.mem_cons, List.not_mem_nil, or_false] at h
  rcases h with rfl | rfl | rfl | rfl | rfl
  · exact .inl ⟨rfl, rfl⟩
  · exact .inr ⟨1, 0, 255, rfl, by decide, rfl⟩
  · exact .inr ⟨2, 0, 65535, rfl, by decide, rfl⟩
  · exact .inr ⟨1, -128, 127, rfl, by decide, rfl⟩
  · exact .inr ⟨2, 0, 65535, rfl, by decide, rfl⟩
/-- letters as they have to be -/
def rgB (ls : List (Str × Int)) (s : Str) : Bool := decide (s.length = ls.length) && (s.cps.toList.zip ls).all fun p => decide (p.1 ∈ p.2.1.cps.toList)
def nB (b : Option (Int × Int)) (n : Option Int) : Bool := match b with
  | none => (numD n).isN
  | some (lo, hi) => (numD n).isB lo hi
def wB (e : En) (r : Str) (n : Option Int) : Bool := rgB (regsL e.2.2.1) r && nB (bnd e.2.2.2) n
theorem numD_ty (n : Option Int) : ∃ a, (numD n).ty = some a := by
  cases n <;> exact ⟨_, rfl⟩
def fBetw : FD := fun ds os QA _ => ∃ x a lo hi, ds = [.d x, .d (.int lo), .d (.int hi)] ∧ x.ty = some a ∧ QA (.bl (x.isB lo hi)) os
def fTup3 : FD := fun ds os QA _ => ∃ x y z : D, ds = [.d (.tup [x, y, z]), .d (.int 3)] ∧ QA (.bl true) os
def fField2 : FD := fun ds os QA _ => ∃ e : En, ds = [.d (.str e.1)] ∧ e ∈ mst ∧ ∀ d, lookN tbF e.2.2.2 = some d → QA d os
def fHasR : FD := fun ds os QA _ => ∃ (e : En) (r : Str), ds = [.d (.str e.1), .d (.str r)] ∧ e ∈ mst ∧ r.length ≤ 100000 ∧ QA (.bl (rgB (regsL e.2.2.1) r)) os
def fHasN : FD := fun ds os QA _ => ∃ (e : En) (n : Option Int), ds = [.d (.str e.1), .d (numD n)] ∧ e ∈ mst ∧ QA (.bl (nB (bnd e.2.2.2) n)) os
def fIsW : FD := fun ds os QA _ => ∃ (e : En) (r : Str) (n : Option Int), ds = [.d (.tup [.str e.1, .str r, numD n])] ∧ e ∈ mst ∧ r.length ≤ 100000 ∧ QA (.bl (wB e r n)) os
theorem bw_isNx {K : PySem.W.Frag} {os : Os} {Q : Sv → Os → Prop} {x : D} (q : Q (.d (.bl x.isN)) os) : BW K rIsN (.d x) (.d .non) os Q :=
  bw_pure (fun as H v u Q' R rx ry k => by
    cases ry
    cases rx <;> exact ⟨rfl, k _ (.bl _)⟩) q
local macro_rules | `(tactic| walk_at "b") => `(tactic| first
  | with_reducible refine ew_notInKd (by assumption) ?_
  | with_reducible refine ew_kd (by assumption) ?_)
section
variable {P : Program} {w : World} {K : PySem.W.Frag} {mg : Str → Option Value} {base : Heap} {aW aF : Addr} {eW : Array DictEntry} {nW : Nat}
theorem ok_field_of2 {f : Addr} {fd : FuncData} (F : Fun K "field_of" "field_of" s_field_of f fd) (D_WORDS : KDict K w aW eW nW) (g_WORDS : mg "WORDS" = some (.ref aW)) (k_WORDS : kdOk K aW tbW = true)
    (N_FIELDS : NDict K w aF tbF) (g_FIELDS : mg "FIELDS" = some (.ref aF)) : FnOk P w K mg base CX0 1 f fd ["name"] (spD K fField2) := by
  refine F.ok sc_field_of (fun vs H Q E h => ?_) (fun cdv A outer s H vs Q E hr h => ?_)
  · obtain ⟨as, os, ds, QA, EA, R, r, ⟨e, rfl, _⟩, _⟩ := h
    rw [r.length]
    rfl
  · refine ⟨_, (pss_cons (ps_asg (pe_opD (op_kd D_WORDS) (ty_kd D_WORDS) (pe_glob rfl g_WORDS rfl) (pv 0) (fun _ _ => rfl)) (pg_tup (by rfl) (pgs_cons (pg_name (i := 1) sc_field_of.nd rfl (Or.inl rfl)) (pgs_cons (pg_name (i := 1) sc_field_of.nd rfl (Or.inl rfl)) (pgs_cons (pg_name (i := 2) sc_field_of.nd rfl (Or.inl rfl)) pgs_nil)))))
  (pss_one (ps_ret (pe_opD (op_nd N_FIELDS) (ty_nd N_FIELDS) (pe_glob rfl g_FIELDS rfl) (pv 2) (fun _ _ => rfl))))), read_of h fun ds os QA EA hf => ?_⟩
    obtain ⟨e, rfl, he, q⟩ := hf
    try dsimp only [cxOf, Cx.nox, Cx.wish]
    show W K _ _ _ ⟨[some (.d (.str e.1)), none, none], os⟩
    obtain ⟨_, hp⟩ := in_pats e he
    have hd : ∃ d, lookN tbF e.2.2.2 = some d := by
      obtain ⟨lo, hi, hd, _⟩ := fld_at hp
      exact ⟨_, hd⟩
    obtain ⟨d, hd⟩ := hd
    refine w_seq (w_asgG (ew_kd k_WORDS ?_))
    repeat (walk_at "b")
    refine ⟨e.1, _, rfl, by rw [lookT_W, mfind_self e he]; rfl, ?_⟩
    refine gw_tup rfl ?_
    refine gs_cons (gw_name (gs_cons (gw_name (gs_cons (gw_name (gs_nil ?_))))))
    dsimp only [List.set_cons_zero, List.set_cons_succ]
    exact w_ret (ew_nd (ew_var rfl ⟨e.2.2.2, _, rfl, hd, ret_same (q d hd)⟩))
abbrev s_is_between : Stmt := topS 2
abbrev N_is_between : List Str := ["thing", "least", "most"]
theorem sc_is_between : FnScope N_is_between ["thing", "least", "most"] (defScope s_is_between) := ⟨rfl, rfl, rfl, by decide +kernel, rfl, by decide +kernel, by decide +kernel⟩
theorem ok_is_between {f a1 : Addr} {fd d1 : FuncData} (F : Fun K "is_between" "is_between" s_is_between f fd)
    (G_is_whole : FnOk P w K mg base CX0 1 a1 d1 ["thing"] (spD K fWhole)) (C_is_whole : Cal K mg "is_whole" a1 d1 ["thing"]) : FnOk P w K mg base CX0 2 f fd ["thing", "least", "most"] (spD K fBetw) := by
  refine F.ok sc_is_between (fun vs H Q E h => ?_) (fun cdv A outer s H vs Q E hr h => ?_)
  · obtain ⟨as, os, ds, QA, EA, R, r, ⟨x, a, lo, hi, rfl, _⟩, _⟩ := h
    rw [r.length]
    rfl
  · refine ⟨_, (pss_one (ps_ret (pe_and (pe_call G_is_whole (hr.mono (by decide)) rfl C_is_whole.m C_is_whole.k C_is_whole.b .nil pass0 (pa_cons (pv 0) pa_nil)) (pe_one (pe_chain op_le op_le (pv 1) (pv 0) (pv 2)))))), read_of h fun ds os QA EA hf => ?_⟩
    obtain ⟨x, a, lo, hi, rfl, ha, q⟩ := hf
    try dsimp only [cxOf, Cx.nox, Cx.wish]
    show W K _ _ _ ⟨[some (.d x), some (.d (.int lo)), some (.d (.int hi))], os⟩
    repeat (walk_at "b")
    refine ⟨x, a, rfl, ha, _, rfl, br_iteB (fun e => ?_) (fun e => ?_)⟩
    · obtain ⟨i, rfl⟩ := isI_is e
      repeat (walk_at "b")
      refine br_ite (fun h1 => ?_) (fun h1 => ?_)
      · repeat (walk_at "b")
        refine ret_same ?_
        have e2 : (D.int i).isB lo hi = decide (i ≤ hi) := by
          show (decide (lo ≤ i) && decide (i ≤ hi)) = _
          rw [decide_eq_true h1]
          rfl
        rw [← e2]
        exact q
      · have e2 : (D.int i).isB lo hi = false := by
          show (decide (lo ≤ i) && decide (i ≤ hi)) = _
          rw [decide_eq_false h1]
          rfl
        rw [e2] at q
        exact ret_same q
    · rw [isB_no e] at q
      exact ret_same q
abbrev s_is_tuple_of : Stmt := topS 3
abbrev N_is_tuple_of : List Str := ["thing", "many"]
theorem sc_is_tuple_of : FnScope N_is_tuple_of ["thing", "many"] (defScope s_is_tuple_of) := ⟨rfl, rfl, rfl, by decide +kernel, rfl, by decide +kernel, by decide +kernel⟩
theorem ok_is_tuple_of {f : Addr} {fd : FuncData} (F : Fun K "is_tuple_of" "is_tuple_of" s_is_tuple_of f fd) (z_isinstance : mg "isinstance" = none) (z_tuple : mg "tuple" = none) (z_len : mg "len" = none) : FnOk P w K mg base CX0 1 f fd ["thing", "many"] (spD K fTup3) := by
  refine F.ok sc_is_tuple_of (fun vs H Q E h => ?_) (fun cdv A outer s H vs Q E hr h => ?_)
  · obtain ⟨as, os, ds, QA, EA, R, r, ⟨x, y, z, rfl, _⟩, _⟩ := h
    rw [r.length]
    rfl
  · refine ⟨_, (pss_one (ps_ret (pe_and (pe_callB call_isi (by rfl) z_isinstance (by decide +kernel) (pa_cons (pv 0) (pa_cons (pe_bltn (v := .ty "tuple") (by rfl) z_tuple boot_tuple rfl) pa_nil))) (pe_one (pe_cmpR op_eq (pe_callB call_lenA (by rfl) z_len PySem.boot_len (pa_cons (pv 0) pa_nil)) (pv 1) (nomark _)))))), read_of h fun ds os QA EA hf => ?_⟩
    obtain ⟨x, y, z, rfl, q⟩ := hf
    try dsimp only [cxOf, Cx.nox, Cx.wish]
    show W K _ _ _ ⟨[some (.d (.tup [x, y, z])), some (.d (.int 3))], os⟩
    repeat (walk_at "b")
    refine ⟨.tup [x, y, z], "tuple", true, rfl, rfl, rfl, _, rfl, br_T ?_⟩
    repeat (walk_at "b")
    exact ret_same q
abbrev s_has_number : Stmt := topS 35
abbrev N_has_number : List Str := ["name", "number", "many", "least", "most"]
theorem sc_has_number : FnScope N_has_number ["name", "number"] (defScope s_has_number) := ⟨rfl, rfl, rfl, by decide +kernel, rfl, by decide +kernel, by decide +kernel⟩
theorem ok_has_number {f a1 a2 : Addr} {fd d1 d2 : FuncData} (F : Fun K "has_number" "has_number" s_has_number f fd)
    (G_field_of : FnOk P w K mg base CX0 1 a1 d1 ["name"] (spD K fField2)) (C_field_of : Cal K mg "field_of" a1 d1 ["name"])
    (G_is_between : FnOk P w K mg base CX0 2 a2 d2 ["thing", "least", "most"] (spD K fBetw)) (C_is_between : Cal K mg "is_between" a2 d2 ["thing", "least", "most"]) : FnOk P w K mg base CX0 3 f fd ["name", "number"] (spD K fHasN) := by
  refine F.ok sc_has_number (fun vs H Q E h => ?_) (fun cdv A outer s H vs Q E hr h => ?_)
  · obtain ⟨as, os, ds, QA, EA, R, r, ⟨e, n, rfl, _⟩, _⟩ := h
    rw [r.length]
    rfl
  · refine ⟨_, (pss_cons (ps_asg (pe_call G_field_of (hr.mono (by decide)) rfl C_field_of.m C_field_of.k C_field_of.b .nil pass0 (pa_cons (pv 0) pa_nil)) (pg_tup (by rfl) (pgs_cons (pg_name (i := 2) sc_has_number.nd rfl (Or.inl rfl)) (pgs_cons (pg_name (i := 3) sc_has_number.nd rfl (Or.inl rfl)) (pgs_cons (pg_name (i := 4) sc_has_number.nd rfl (Or.inl rfl)) pgs_nil)))))
  (pss_cons (ps_if (pt_cmpR op_eq (pv 2) pe_int (nomark _)) (pss_one (ps_ret (pe_cmpR op_isN1 (pv 1) pe_non (nomark _)))) pss_nil)
  (pss_one (ps_ret (pe_call G_is_between (hr.mono (by decide)) rfl C_is_between.m C_is_between.k C_is_between.b .nil pass0 (pa_cons (pv 1) (pa_cons (pv 3) (pa_cons (pv 4) pa_nil)))))))), read_of h fun ds os QA EA hf => ?_⟩
    obtain ⟨e, n, rfl, he, q⟩ := hf
    try dsimp only [cxOf, Cx.nox, Cx.wish]
    show W K _ _ _ ⟨[some (.d (.str e.1)), some (.d (numD n)), none, none, none], os⟩
    obtain ⟨_, hp⟩ := in_pats e he
    obtain ⟨a, ha⟩ := numD_ty n
    repeat (walk_at "b")
    refine ⟨e, rfl, he, fun d hd => ?_⟩
    rcases fld_of hp with ⟨h1, h2⟩ | ⟨m, lo, hi, h1, h3, h2⟩
    · have ed := Option.some.inj (hd.symm.trans h2)
      subst ed
      rw [h1] at q
      refine gw_tup rfl ?_
      repeat (walk_at "b")
      refine br_ite (fun _ => ?_) (fun h => absurd rfl h)
      repeat (walk_at "b")
      exact bw_isNx (ret_same q)
    · have ed := Option.some.inj (hd.symm.trans h2)
      subst ed
      rw [h1] at q
      refine gw_tup rfl ?_
      repeat (walk_at "b")
      refine br_ite (fun h => absurd h h3) (fun _ => ?_)
      repeat (walk_at "b")
      exact ⟨numD n, a, lo, hi, rfl, ha, ret_same q⟩
abbrev s_has_registers : Stmt := topS 34
abbrev N_has_registers : List Str := ["name", "registers", "told", "letter", "letters", "_"]
theorem sc_has_registers : FnScope N_has_registers ["name", "registers"] (defScope s_has_registers) := ⟨rfl, rfl, rfl, by decide +kernel, rfl, by decide +kernel, by decide +kernel⟩
theorem ok_has_registers {f a1 : Addr} {fd d1 : FuncData} (F : Fun K "has_registers" "has_registers" s_has_registers f fd) (z_isinstance : mg "isinstance" = none) (z_str : mg "str" = none) (z_len : mg "len" = none) (z_all : mg "all" = none) (z_zip : mg "zip" = none)
    (G_registers_of : FnOk P w K mg base CX0 1 a1 d1 ["name"] (spD K fRegs)) (C_registers_of : Cal K mg "registers_of" a1 d1 ["name"]) : FnOk P w K mg base CX0 2 f fd ["name", "registers"] (spD K fHasR) := by
  refine F.ok sc_has_registers (fun vs H Q E h => ?_) (fun cdv A outer s H vs Q E hr h => ?_)
  · obtain ⟨as, os, ds, QA, EA, R, r, ⟨e, x, rfl, _⟩, _⟩ := h
    rw [r.length]
    rfl
  · refine ⟨_, (pss_cons (ps_set (i := 2) sc_has_registers.nd rfl (Or.inl rfl) (pe_call G_registers_of (hr.mono (by decide)) rfl C_registers_of.m C_registers_of.k C_registers_of.b .nil pass0 (pa_cons (pv 0) pa_nil)))
  (pss_cons (ps_if (PW.pt (pw_or (pt_not (pt_val (pe_callB call_isi (by rfl) z_isinstance (by decide +kernel) (pa_cons (pv 1) (pa_cons (pe_bltn (v := .ty "str") (by rfl) z_str boot_str rfl) pa_nil))))) (pw_or1 (pt_cmpR op_ne (pe_callB call_lenS1 (by rfl) z_len PySem.boot_len (pa_cons (pv 1) pa_nil)) (pe_callB call_lenA (by rfl) z_len PySem.boot_len (pa_cons (pv 2) pa_nil)) (nomark _))))) (pss_one (ps_ret pe_bl)) pss_nil)
  (pss_one (ps_ret (pe_callB (cr_all rfl) (by rfl) z_all (by decide +kernel) (pa_cons (pe_lc (own := [("letter", 3), ("letters", 4), ("_", 5)]) (g := (gTup _ 2 (gCons (gName 3) (gCons (gTup _ 2 (gCons (gName 4) (gCons (gName 5) gNil))) gNil)))) rfl sc_has_registers.nd (pi_zipMK (K := K) rfl (pi_zipM (by rfl) z_zip (pa_cons (pv 1) (pa_cons (pv 2) pa_nil)))) (blkOk_by (own := [("letter", 3), ("letters", 4), ("_", 5)]) (N := N_has_registers) (sc := defScope s_has_registers) (by decide +kernel)) (fun _ _ _ _ _ => (pg_tup (by rfl) (pgs_cons (pg_name (i := 3) sc_has_registers.nd rfl (Or.inl rfl)) (pgs_cons (pg_tup (by rfl) (pgs_cons (pg_name (i := 4) sc_has_registers.nd rfl (Or.inl rfl)) (pgs_cons (pg_name (i := 5) sc_has_registers.nd rfl (Or.inl rfl)) pgs_nil))) pgs_nil)))) (fun _ _ _ _ _ => pts_nil) (fun _ _ _ _ _ => (pe_cmpR op_inS (pv 3) (pv 4) rfl))) pa_nil)))))), read_of h fun ds os QA EA hf => ?_⟩
    obtain ⟨e, s, rfl, he, hs, q⟩ := hf
    try dsimp only [cxOf, Cx.nox, Cx.wish]
    show W K _ _ _ ⟨[some (.d (.str e.1)), some (.d (.str s)), none, none, none, none], os⟩
    have hs8 : s.length ≤ sizeLine := by rw [sizeLine_eq]; omega
    repeat (walk_at "b")
    refine ⟨e, rfl, he, ?_⟩
    generalize hls : regsL e.2.2.1 = ls at q ⊢
    repeat (walk_at "b")
    refine ⟨.str s, "str", true, rfl, rfl, rfl, _, rfl, ?_⟩
    repeat (walk_at "b")
    refine cw_lenS hs8 ?_
    repeat (walk_at "b")
    rw [List.length_map]
    refine br_iteN (fun hne => ?_) (fun heq => ?_)
    · repeat (walk_at "b")
      have e2 : rgB ls s = false := by
        unfold rgB
        rw [decide_eq_false fun q : s.length = ls.length => hne (by rw [q])]
        rfl
      rw [e2] at q
      exact ret_same q
    · repeat (walk_at "b")
      have heq' : s.length = ls.length := by omega
      refine ew_lc (wg_tup (wgs_cons mg_name (mgs_cons (mg_tup (mgs_cons mg_name (mgs_cons mg_name mgs_nil))) mgs_nil) (wg_name (by decide)) (wgs_cons (mg_tup (mgs_cons mg_name (mgs_cons mg_name mgs_nil))) mgs_nil (wg_tup (wgs_cons mg_name (mgs_cons mg_name mgs_nil) (wg_name (by decide)) (wgs_cons mg_name mgs_nil (wg_name (by decide)) wgs_nil))) wgs_nil)))
        (mg_tup (mgs_cons mg_name (mgs_cons (mg_tup (mgs_cons mg_name (mgs_cons mg_name mgs_nil))) mgs_nil))) ?_
      refine iw_zipM ?_
      repeat (walk_at "b")
      refine ⟨s, _, rfl, ?_⟩
      have ez : zipM s (ls.map fun l => regT l.1 l.2) = (s.cps.toList.zip ls).map fun p => D.tup [.str ⟨#[p.1]⟩, regT p.2.1 p.2.2] := by
        unfold zipM
        rw [List.zip_map_right, List.map_map]
        rfl
      have hzl : (s.cps.toList.zip ls).length ≤ 100000 := by
        rw [List.length_zip, Array.length_toList]
        exact Nat.le_trans (Nat.min_le_left _ _) hs
      rw [ez]
      refine ⟨fun i acc os2 => os2 = os ∧ acc = ((s.cps.toList.zip ls).take i).map fun p => D.bl (decide (p.1 ∈ p.2.1.cps.toList)), ⟨rfl, rfl⟩, ?_, ?_⟩
      · rintro i d acc os2 hd ⟨rfl, rfl⟩
        rw [List.getElem?_map] at hd
        obtain ⟨p, hp, rfl⟩ := Option.map_eq_some_iff.mp hd
        have hi : i < (s.cps.toList.zip ls).length := (List.getElem?_eq_some_iff.mp hp).1
        have ep : (s.cps.toList.zip ls)[i] = p := (List.getElem?_eq_some_iff.mp hp).2
        refine gw_tup rfl (gs_cons (gw_name (gs_cons (gw_tup rfl (gs_cons (gw_name (gs_cons (gw_name (gs_nil (gs_nil ?_))))))))))
        refine tw_yes (br_T ?_)
        show EW K X0 _ ⟨[some (.d (.str e.1)), some (.d (.str s)), some (.d (.tup (ls.map fun l => regT l.1 l.2))), some (.d (.str ⟨#[p.1]⟩)), some (.d (.str p.2.1)), some (.d (.int p.2.2))], _⟩ _
        repeat (walk_at "b")
        refine bw_inS ?_
        refine ⟨_, _, rfl, rfl, ?_, rfl, ?_⟩
        · rw [List.length_map, List.length_take, sizeLine_eq]
          omega
        · rw [← List.take_append_getElem hi, List.map_append, ep]
          rfl
      · rintro acc os2 ⟨rfl, rfl⟩
        rw [List.length_map, List.take_length]
        have e3 : ((s.cps.toList.zip ls).map fun p => D.bl (decide (p.1 ∈ p.2.1.cps.toList))) = ((s.cps.toList.zip ls).map fun p => decide (p.1 ∈ p.2.1.cps.toList)).map D.bl := by rw [List.map_map]; rfl
        rw [e3]
        refine aw_nil (cw_all (ret_same ?_))
        have e4 : rgB ls s = (((s.cps.toList.zip ls).map fun p => decide (p.1 ∈ p.2.1.cps.toList)).all id) := by
          unfold rgB
          rw [decide_eq_true heq', List.all_map]
          rfl
        rw [e4] at q
        exact q
abbrev s_is_word : Stmt := topS 33
abbrev N_is_word : List Str := ["thing", "name", "registers", "number"]
theorem sc_is_word : FnScope N_is_word ["thing"] (defScope s_is_word) := ⟨rfl, rfl, rfl, by decide +kernel, rfl, by decide +kernel, by decide +kernel⟩
theorem ok_is_word {f a1 a2 a3 : Addr} {fd d1 d2 d3 : FuncData} (F : Fun K "is_word" "is_word" s_is_word f fd) (z_isinstance : mg "isinstance" = none) (z_str : mg "str" = none) (D_WORDS : KDict K w aW eW nW) (g_WORDS : mg "WORDS" = some (.ref aW)) (k_WORDS : kdOk K aW tbW = true)
    (G_is_tuple_of : FnOk P w K mg base CX0 1 a1 d1 ["thing", "many"] (spD K fTup3)) (C_is_tuple_of : Cal K mg "is_tuple_of" a1 d1 ["thing", "many"])
    (G_has_registers : FnOk P w K mg base CX0 2 a2 d2 ["name", "registers"] (spD K fHasR)) (C_has_registers : Cal K mg "has_registers" a2 d2 ["name", "registers"])
    (G_has_number : FnOk P w K mg base CX0 3 a3 d3 ["name", "number"] (spD K fHasN)) (C_has_number : Cal K mg "has_number" a3 d3 ["name", "number"]) : FnOk P w K mg base CX0 4 f fd ["thing"] (spD K fIsW) := by
  refine F.ok sc_is_word (fun vs H Q E h => ?_) (fun cdv A outer s H vs Q E hr h => ?_)
  · obtain ⟨as, os, ds, QA, EA, R, r, ⟨e, s, n, rfl, _⟩, _⟩ := h
    rw [r.length]
    rfl
  · refine ⟨_, (pss_cons (ps_if (pt_not (pt_val (pe_call G_is_tuple_of (hr.mono (by decide)) rfl C_is_tuple_of.m C_is_tuple_of.k C_is_tuple_of.b .nil pass0 (pa_cons (pv 0) (pa_cons pe_int pa_nil))))) (pss_one (ps_ret pe_bl)) pss_nil)
  (pss_cons (ps_asg (pv 0) (pg_tup (by rfl) (pgs_cons (pg_name (i := 1) sc_is_word.nd rfl (Or.inl rfl)) (pgs_cons (pg_name (i := 2) sc_is_word.nd rfl (Or.inl rfl)) (pgs_cons (pg_name (i := 3) sc_is_word.nd rfl (Or.inl rfl)) pgs_nil)))))
  (pss_cons (ps_if (PW.pt (pw_or (pt_not (pt_val (pe_callB call_isi (by rfl) z_isinstance (by decide +kernel) (pa_cons (pv 1) (pa_cons (pe_bltn (v := .ty "str") (by rfl) z_str boot_str rfl) pa_nil))))) (pw_or1 (pt_cmpR (op_notInKd D_WORDS) (pv 1) (pe_glob (v := V.ref _) rfl g_WORDS rfl) rfl)))) (pss_one (ps_ret pe_bl)) pss_nil)
  (pss_one (ps_ret (pe_and (pe_call G_has_registers (hr.mono (by decide)) rfl C_has_registers.m C_has_registers.k C_has_registers.b .nil pass0 (pa_cons (pv 1) (pa_cons (pv 2) pa_nil))) (pe_one (pe_call G_has_number (hr.mono (by decide)) rfl C_has_number.m C_has_number.k C_has_number.b .nil pass0 (pa_cons (pv 1) (pa_cons (pv 3) pa_nil)))))))))), read_of h fun ds os QA EA hf => ?_⟩
    obtain ⟨e, r, n, rfl, he, hl, q⟩ := hf
    try dsimp only [cxOf, Cx.nox, Cx.wish]
    show W K _ _ _ ⟨[some (.d (.tup [.str e.1, .str r, numD n])), none, none, none], os⟩
    repeat (walk_at "b")
    refine ⟨_, _, _, rfl, _, rfl, ?_⟩
    repeat (walk_at "b")
    refine gw_tup rfl ?_
    repeat (walk_at "b")
    refine ⟨.str e.1, "str", true, rfl, rfl, rfl, _, rfl, ?_⟩
    repeat (walk_at "b")
    rw [lookT_W, mfind_self e he]
    refine br_nT ?_
    repeat (walk_at "b")
    refine ⟨e, r, rfl, he, hl, _, rfl, br_iteB (fun hb => ?_) (fun hb => ?_)⟩
    · repeat (walk_at "b")
      refine ⟨e, n, rfl, he, ret_same ?_⟩
      unfold wB at q
      rw [hb] at q
      exact q
    · unfold wB at q
      rw [hb] at q
      exact ret_same q
end

open PySem PySem.Spec PyProof.Rows L2 Br
def numS (n : Option Int) : List Str := match n with
  | none => []
  | some m => [toString m]
/-- a word as a text -/
def shw (z r : Str) (n : Option Int) : Str := Txt.join " " (z :: (sgn r ++ numS n))
def numB (n : Option Int) : Prop := ∀ m, n = some m → m.natAbs ≤ 1000000
def fShow : FD := fun ds os QA _ => ∃ (z r : Str) (n : Option Int), ds = [.d (.tup [.str z, .str r, numD n])] ∧ z.length ≤ 1000 ∧ r.length ≤ 100000 ∧ numB n ∧ QA (.str (shw z r n)) os
theorem sgn_len (r : Str) : (sgn r).length = r.length := by
  unfold sgn
  rw [List.length_map, Array.length_toList]
  rfl
theorem sgn_sum (r : Str) : ((sgn r).map (·.length)).sum = r.length := by
  have h := sum_one r.cps.toList
  rw [Array.length_toList] at h
  exact h
def figB (t : Str) : Bool := decide (1 ≤ (Txt.removeprefix t "-").length) && decide ((Txt.removeprefix t "-").length ≤ 5) && (Txt.removeprefix t "-").cps.toList.all fun c => decide (c ∈ ("0123456789" : Str).cps.toList)
/-- the number that texts tell -/
def numT : List Str → Option Int
  | [t] => if figB t = true then PySem.intText? t else none
  | _ => none
theorem fig_dig {c : Nat} : c ∈ ("0123456789" : Str).cps.toList → 48 ≤ c ∧ c ≤ 57 := by
  have h : ∀ c ∈ ("0123456789" : Str).cps.toList, 48 ≤ c ∧ c ≤ 57 := by decide +kernel
  exact h c
theorem val_lt : ∀ {cs : List Nat} {a : Nat}, (∀ c ∈ cs, 48 ≤ c ∧ c ≤ 57) → cs.foldl (fun acc c => acc * 10 + (c - 48)) a < (a + 1) * 10 ^ cs.length
  | [], a, _ => by simp
  | c :: cs, a, h => by
    have hc := h c (List.mem_cons_self ..)
    have := val_lt (cs := cs) (a := a * 10 + (c - 48)) fun d hd => h d (List.mem_cons_of_mem _ hd)
    rw [List.foldl_cons, List.length_cons, Nat.pow_succ]
    refine Nat.lt_of_lt_of_le this ?_
    have e : (a + 1) * (10 ^ cs.length * 10) = ((a + 1) * 10) * 10 ^ cs.length := by rw [Nat.mul_comm (10 ^ cs.length), Nat.mul_assoc]
    rw [e]
    exact Nat.mul_le_mul_right _ (by omega)
theorem dig_bd {cs : List Nat} (h : ∀ c ∈ cs, 48 ≤ c ∧ c ≤ 57) (hl : cs.length ≤ 5) : NumText.digitsVal cs < 100000 := by
  have h1 := val_lt (cs := cs) (a := 0) h
  have h2 : 10 ^ cs.length ≤ 10 ^ 5 := Nat.pow_le_pow_right (by decide) hl
  unfold NumText.digitsVal
  omega
theorem fig_int {t : Str} (h : figB t = true) : ∃ n, PySem.intText? t = some n ∧ n.natAbs ≤ 1000000 ∧ t.length ≤ 6 := by
  unfold figB at h
  rw [Bool.and_eq_true, Bool.and_eq_true] at h
  obtain ⟨⟨h1, h2⟩, h3⟩ := h
  have h1 := of_decide_eq_true h1
  have h2 := of_decide_eq_true h2
  have h3 : ∀ c ∈ (Txt.removeprefix t "-").cps.toList, 48 ≤ c ∧ c ≤ 57 := fun c hc => fig_dig (of_decide_eq_true (List.all_eq_true.mp h3 c hc))
  rw [PySem.StrLaws.removeprefix_eq] at h1 h2 h3
  have el : t.cps.toList.length = t.length := Array.length_toList
  by_cases hq : (decide (0 + ("-" : Str).length ≤ t.length) && Builtin.Str.subAt t "-" 0) = true
  · rw [if_pos hq] at h1 h2 h3
    rw [Bool.and_eq_true] at hq
    have hs := hq.2
    rw [PySem.StrLaws.subAt_eq] at hs
    have hs : (t.cps.toList.drop 0).take 1 = [45] := eq_of_beq hs
    cases hcs : t.cps.toList with
    | nil => rw [hcs] at hs; cases hs
    | cons c cs =>
      rw [hcs] at hs el
      have hc : c = 45 := by simpa using hs
      subst hc
      rw [List.length_cons] at el
      have hd : (t.cps.toList.drop ("-" : Str).length).take (t.length - ("-" : Str).length) = cs := by
        rw [hcs]
        show cs.take (t.length - 1) = cs
        exact List.take_of_length_le (by omega)
      rw [hd] at h1 h2 h3
      have e1 : (⟨cs.toArray⟩ : Str).length = cs.length := rfl
      rw [e1] at h1 h2
      have h3 : ∀ c ∈ cs, 48 ≤ c ∧ c ≤ 57 := h3
      refine ⟨_, intText_neg hcs h3 (fun e => ?_) (by omega), ?_, by omega⟩
      · rw [e] at h1
        simp at h1
      · have := dig_bd h3 h2
        omega
  · rw [if_neg hq] at h1 h2 h3
    refine ⟨_, intText_digits h3 (fun e => ?_) (by omega), ?_, by omega⟩
    · rw [e] at el
      simp at el
      omega
    · have := dig_bd h3 (by omega)
      omega
theorem bw_notNx {K : PySem.W.Frag} {os : Os} {Q : Sv → Os → Prop} {x : D} (q : Q (.d (.bl (!x.isN))) os) : BW K rNotN (.d x) (.d .non) os Q :=
  bw_pure (fun as H v u Q' R rx ry k => by
    cases ry
    cases rx <;> exact ⟨rfl, k _ (.bl _)⟩) q
theorem tw_val {K : PySem.W.Frag} {X : Xc} {S : Sa} {tt : TT} {Q : Bool → Os → Prop} (b0 : Bool) (h : TW K X tt S fun b os => b = b0 ∧ os = S.os) (q : Q b0 S.os) : TW K X tt S Q := fun as H σ Q' R x k =>
  h as H σ Q' R x fun b H' os' g R' ⟨e1, e2⟩ => by
    subst e1
    subst e2
    exact k b H' _ g R' q
theorem rmp_len (t : Str) : (Txt.removeprefix t "-").length ≤ t.length := by
  rw [PySem.StrLaws.removeprefix_eq]
  split
  · show ((t.cps.toList.drop ("-" : Str).length).take (t.length - ("-" : Str).length)).length ≤ _
    rw [List.length_take]
    omega
  · exact Nat.le_refl _
def fTold : FD := fun ds os QA _ => ∃ ts : List Str, ds = [.d (.lst (ts.map D.str))] ∧ ts.length ≤ 100000 ∧ (∀ t ∈ ts, t.length ≤ 100000) ∧ QA (numD (numT ts)) os
section
variable {P : Program} {w : World} {K : PySem.W.Frag} {mg : Str → Option Value} {base : Heap}
abbrev s_show_word : Stmt := topS 39
abbrev N_show_word : List Str := ["word", "name", "registers", "number", "texts"]
theorem sc_show_word : FnScope N_show_word ["word"] (defScope s_show_word) := ⟨rfl, rfl, rfl, by decide +kernel, rfl, by decide +kernel, by decide +kernel⟩
theorem ok_show_word {f : Addr} {fd : FuncData} (F : Fun K "show_word" "show_word" s_show_word f fd) (z_list : mg "list" = none) (z_str : mg "str" = none) : FnOk P w K mg base CX0 1 f fd ["word"] (spD K fShow) := by
  refine F.ok sc_show_word (fun vs H Q E h => ?_) (fun cdv A outer s H vs Q E hr h => ?_)
  · obtain ⟨as, os, ds, QA, EA, R, r, ⟨z, x, n, rfl, _⟩, _⟩ := h
    rw [r.length]
    rfl
  · refine ⟨_, (pss_cons (ps_asg (pv 0) (pg_tup (by rfl) (pgs_cons (pg_name (i := 1) sc_show_word.nd rfl (Or.inl rfl)) (pgs_cons (pg_name (i := 2) sc_show_word.nd rfl (Or.inl rfl)) (pgs_cons (pg_name (i := 3) sc_show_word.nd rfl (Or.inl rfl)) pgs_nil)))))
  (pss_cons (ps_set (i := 4) sc_show_word.nd rfl (Or.inl rfl) (pe_op op_catL (pe_lst (pa_cons (pv 1) pa_nil)) (pe_callTy (call_listS rfl) (by rfl) z_list (by decide +kernel) (pa_cons (pv 2) pa_nil))))
  (pss_cons (ps_if (pt_cmpR op_notN1 (pv 3) pe_non (nomark _)) (pss_one (ps_expr (pe_bm PySem.F.plainAttrs_list PySem.F.slot_list_append PySem.F.type_list_append mt_append (pv 4) (pa_cons (pe_callTy call_str_int (by rfl) z_str (by decide +kernel) (pa_cons (pv 3) pa_nil)) pa_nil)))) pss_nil)
  (pss_one (ps_ret (pe_join pe_str (pv 4))))))), read_of h fun ds os QA EA hf => ?_⟩
    obtain ⟨z, r, n, rfl, hz, hr, hn, q⟩ := hf
    try dsimp only [cxOf, Cx.nox, Cx.wish]
    show W K _ _ _ ⟨[some (.d (.tup [.str z, .str r, numD n])), none, none, none, none], os⟩
    have hr8 : r.length ≤ sizeLine := by rw [sizeLine_eq]; omega
    refine w_seq (w_asgG (ew_var rfl ?_))
    refine gw_tup rfl (gs_cons (gw_name (gs_cons (gw_name (gs_cons (gw_name (gs_nil ?_)))))))
    dsimp only [List.set_cons_zero, List.set_cons_succ]
    refine w_seq (w_asgCatO ?_)
    repeat (walk_at "b")
    refine cw_listS hr8 ?_
    refine ⟨[.str z], (sgn r).map D.str, rfl, rfl, by rw [List.length_map, sgn_len, sizeLine_eq]; simp; omega, ?_⟩
    have es : ∀ ys : List Str, [D.str z] ++ (sgn r).map D.str ++ ys.map D.str = (z :: (sgn r ++ ys)).map D.str := fun ys => by simp
    have sm : ∀ ys : List Str, ys.length ≤ 1 → (∀ y ∈ ys, y.length ≤ 1921) → ((z :: (sgn r ++ ys)).map (·.length)).sum + (z :: (sgn r ++ ys)).length * (" " : Str).length ≤ 16777216 := fun ys h1 h2 => by
      have e1 : (" " : Str).length = 1 := rfl
      rw [List.map_cons, List.sum_cons, List.map_append, List.sum_append, sgn_sum, List.length_cons, List.length_append, sgn_len, e1]
      have : (ys.map (·.length)).sum ≤ 1921 := by
        match ys, h1, h2 with
        | [], _, _ => exact Nat.zero_le _
        | [y], _, h2 => simpa using h2 y (List.mem_singleton.mpr rfl)
      omega
    dsimp only [List.set_cons_zero, List.set_cons_succ]
    cases n with
    | none =>
      refine w_seq ?_
      repeat (walk_at "b")
      refine bw_notNx ⟨_, rfl, br_F ?_⟩
      refine w_next ?_
      refine w_ret ?_
      refine ew_joinO ?_
      repeat (walk_at "b")
      refine ⟨_, z :: (sgn r ++ []), rfl, by rw [last_at, ← es]; simp, sm [] (by decide) (by simp), ?_⟩
      exact ret_push q
    | some m =>
      refine w_seq ?_
      repeat (walk_at "b")
      refine bw_notNx ⟨_, rfl, br_T ?_⟩
      repeat (walk_at "b")
      refine w_drop (ew_app (ew_var rfl ⟨_, _, rfl, last_at, ?_⟩))
      repeat (walk_at "b")
      refine cw_strI (log_of (M := 1000000) (hn m rfl) (by decide +kernel)) ?_
      refine ⟨_, _, rfl, last_at, by rw [List.length_append, List.length_map, sgn_len, sizeLine_eq]; simp; omega, ?_⟩
      have hs : ((toString m : Str)).length ≤ 1921 := len_int (M := 1000000) (hn m rfl) (by decide +kernel)
      rw [last_set]
      refine w_ret (ew_joinO ?_)
      repeat (walk_at "b")
      refine ⟨_, z :: (sgn r ++ [(toString m : Str)]), rfl, by rw [last_at, ← es]; rfl, sm [(toString m : Str)] (Nat.le_refl 1) (fun y hy => by rw [List.mem_singleton.mp hy]; exact hs), ?_⟩
      exact ret_push q
abbrev s_number_told : Stmt := topS 41
abbrev N_number_told : List Str := ["texts", "figures", "sign"]
theorem sc_number_told : FnScope N_number_told ["texts"] (defScope s_number_told) := ⟨rfl, rfl, rfl, by decide +kernel, rfl, by decide +kernel, by decide +kernel⟩
theorem ok_number_told {f : Addr} {fd : FuncData} {u1 u2 : Value} (F : Fun K "number_told" "number_told" s_number_told f fd) (z_len : mg "len" = none) (z_all : mg "all" = none) (z_int : mg "int" = none) (g_FIGURES : mg "FIGURES" = some u1) (r_FIGURES : RelV (.str "0123456789") u1) (g_MOST_FIGURES : mg "MOST_FIGURES" = some u2) (r_MOST_FIGURES : RelV (.int 5) u2) : FnOk P w K mg base CX0 1 f fd ["texts"] (spD K fTold) := by
  refine F.ok sc_number_told (fun vs H Q E h => ?_) (fun cdv A outer s H vs Q E hr h => ?_)
  · obtain ⟨as, os, ds, QA, EA, R, r, ⟨ts, rfl, _⟩, _⟩ := h
    rw [r.length]
    rfl
  · refine ⟨_, (pss_cons (ps_if (pt_cmpR op_ne (pe_callB call_lenA (by rfl) z_len PySem.boot_len (pa_cons (pv 0) pa_nil)) pe_int (nomark _)) (pss_one (ps_ret pe_non)) pss_nil)
  (pss_cons (ps_set (i := 1) sc_number_told.nd rfl (Or.inl rfl) (pe_rmpre (pe_ix (r := rIxL K) ix_list (pv 0) pe_int (fun _ _ => rfl)) pe_str))
  (pss_cons (ps_if (PW.pt (pw_or (pt_not (pt_chain op_le op_le pe_int (pe_callB call_lenS1 (by rfl) z_len PySem.boot_len (pa_cons (pv 1) pa_nil)) (pe_glob rfl g_MOST_FIGURES r_MOST_FIGURES))) (pw_or1 (pt_not (pt_val (pe_callB (cr_all rfl) (by rfl) z_all (by decide +kernel) (pa_cons (pe_lc (own := [("sign", 2)]) (g := (gName 2)) rfl sc_number_told.nd (pi_str (pv 1)) (blkOk_by (own := [("sign", 2)]) (N := N_number_told) (sc := defScope s_number_told) (by decide +kernel)) (fun _ _ _ _ _ => (pg_name (i := 2) sc_number_told.nd rfl (Or.inl rfl))) (fun _ _ _ _ _ => pts_nil) (fun _ _ _ _ _ => (pe_cmpR op_inS (pv 2) (pe_glob rfl g_FIGURES r_FIGURES) rfl))) pa_nil))))))) (pss_one (ps_ret pe_non)) pss_nil)
  (pss_one (ps_ret (pe_callTy (r := rIntS) call_int_str (by rfl) z_int (by decide +kernel) (pa_cons (pe_ix (r := rIxL K) ix_list (pv 0) pe_int (fun _ _ => rfl)) pa_nil))))))), read_of h fun ds os QA EA hf => ?_⟩
    obtain ⟨ts, rfl, hl, ht, q⟩ := hf
    try dsimp only [cxOf, Cx.nox, Cx.wish]
    show W K _ _ _ ⟨[some (.d (.lst (ts.map D.str))), none, none], os⟩
    repeat (walk_at "b")
    refine br_iteN (fun hne => ?_) (fun heq => ?_)
    · have e : numT ts = none := by
        rw [List.length_map] at hne
        match ts, hne with
        | [], _ => rfl
        | [t], h => exact absurd rfl h
        | _ :: _ :: _, _ => rfl
      rw [e] at q
      repeat (walk_at "b")
      exact ret_same q
    · obtain ⟨t, rfl⟩ : ∃ t, ts = [t] := by
        rw [List.length_map] at heq
        exact List.length_eq_one_iff.mp (by omega)
      have htl := ht t (List.mem_singleton.mpr rfl)
      have htl8 : t.length ≤ sizeLine := by rw [sizeLine_eq]; omega
      refine w_next ?_
      refine w_seq (w_asg (ew_rmpre ?_))
      repeat (walk_at "b")
      refine bw_ixL (atI_nat (j := 0) rfl) ⟨_, rfl, ?_⟩
      refine ew_str ⟨_, rfl, htl8, ?_⟩
      have hfl := rmp_len t
      have hB : figB t = (decide (1 ≤ (Txt.removeprefix t "-").length) && decide ((Txt.removeprefix t "-").length ≤ 5) && (Txt.removeprefix t "-").cps.toList.all fun c => decide (c ∈ ("0123456789" : Str).cps.toList)) := rfl
      generalize Txt.removeprefix t "-" = fg at hfl hB ⊢
      have hfg8 : fg.length ≤ sizeLine := by omega
      dsimp only [List.set_cons_zero, List.set_cons_succ]
      refine w_seq (w_if (tw_val (!figB t) ?_ ?_))
      · repeat (walk_at "b")
        refine cw_lenS hfg8 ?_
        refine bw_ib (i := 1) (j := (fg.length : Int)) ⟨_, rfl, br_ite (fun h1 => ?_) (fun h1 => ?_)⟩
        · repeat (walk_at "b")
          refine br_iteN (fun h2 => ?_) (fun h2 => ?_)
          · have e2 : decide (fg.length ≤ 5) = false := decide_eq_false (by omega)
            rw [hB, e2, Bool.and_false, Bool.false_and]
            exact ⟨rfl, rfl⟩
          · have e1 : decide (1 ≤ fg.length) = true := decide_eq_true (by omega)
            have e2 : decide (fg.length ≤ 5) = true := decide_eq_true (by omega)
            rw [e1, e2, Bool.and_true, Bool.true_and] at hB
            have hc : fg.cps.toList.length = fg.length := Array.length_toList
            have h5 : fg.cps.toList.length ≤ 5 := by omega
            repeat (walk_at "b")
            refine ew_lc (wg_name (by decide)) mg_name ?_
            refine iw_str ?_
            repeat (walk_at "b")
            refine ⟨fun i acc os2 => os2 = os ∧ acc = (fg.cps.toList.take i).map fun c => D.bl (decide (c ∈ ("0123456789" : Str).cps.toList)), ⟨rfl, rfl⟩, ?_, ?_⟩
            · rintro i d acc os2 hd ⟨rfl, rfl⟩
              rw [List.getElem?_map] at hd
              obtain ⟨c, hp, rfl⟩ := Option.map_eq_some_iff.mp hd
              have hi : i < fg.cps.toList.length := (List.getElem?_eq_some_iff.mp hp).1
              have ep : fg.cps.toList[i] = c := (List.getElem?_eq_some_iff.mp hp).2
              refine gw_name ?_
              refine tw_yes (br_T ?_)
              show EW K X0 _ ⟨[some (.d (.lst ([t].map D.str))), some (.d (.str fg)), some (.d (.str ⟨#[c]⟩))], _⟩ _
              repeat (walk_at "b")
              refine bw_inS ?_
              refine ⟨_, _, rfl, rfl, ?_, rfl, ?_⟩
              · rw [List.length_map, List.length_take, sizeLine_eq]
                omega
              · rw [← List.take_append_getElem hi, List.map_append, ep]
                rfl
            · rintro acc os2 ⟨rfl, rfl⟩
              rw [List.length_map, List.take_length]
              have e3 : (fg.cps.toList.map fun c => D.bl (decide (c ∈ ("0123456789" : Str).cps.toList))) = (fg.cps.toList.map fun c => decide (c ∈ ("0123456789" : Str).cps.toList)).map D.bl := by rw [List.map_map]; rfl
              rw [e3]
              refine aw_nil (cw_all ⟨_, rfl, ?_, rfl⟩)
              rw [hB, List.all_map]
              rfl
        · have e1 : decide (1 ≤ fg.length) = false := decide_eq_false (by omega)
          rw [hB, e1, Bool.false_and, Bool.false_and]
          exact ⟨_, rfl, br_nF ⟨rfl, rfl⟩⟩
      · cases hq : figB t with
        | false =>
          have e : numT [t] = none := by
            show (if figB t = true then _ else none) = _
            rw [hq]
            rfl
          rw [e] at q
          refine br_T ?_
          repeat (walk_at "b")
          exact ret_same q
        | true =>
          obtain ⟨n, hn, _, h6⟩ := fig_int hq
          have e : numT [t] = some n := by
            show (if figB t = true then _ else none) = _
            rw [hq]
            exact hn
          rw [e] at q
          refine br_F ?_
          repeat (walk_at "b")
          refine bw_ixL (atI_nat (j := 0) rfl) ?_
          repeat (walk_at "b")
          exact cw_intS hn (by omega) (ret_same q)
end

open PySem PySem.Spec PyProof.Rows L2 Br
section
open TL
theorem spl_ne : ∀ (S : List Nat) (k : Nat) (acc l : List Nat), spl S k acc l ≠ []
  | _, _, _, [] => by rw [spl_nil]; simp
  | S, 0, acc, c :: r => by
    unfold spl
    by_cases h : pre S (c :: r) = true
    · rw [if_pos h]; simp
    · rw [if_neg h]; exact spl_ne S 0 _ r
  | S, k + 1, acc, _ :: r => spl_ne S k acc r
theorem spl_bd : ∀ (S : List Nat) (k : Nat) (acc l : List Nat), (spl S k acc l).length ≤ l.length + 1 ∧ ∀ p ∈ spl S k acc l, p.length ≤ acc.length + l.length
  | _, _, acc, [] => by
    rw [spl_nil]
    exact ⟨by simp, fun p hp => by rw [List.mem_singleton.mp hp]; simp⟩
  | S, 0, acc, c :: r => by
    unfold spl
    by_cases h : pre S (c :: r) = true
    · rw [if_pos h]
      obtain ⟨h1, h2⟩ := spl_bd S (S.length - 1) [] r
      refine ⟨by simp only [List.length_cons]; omega, fun p hp => ?_⟩
      rcases List.mem_cons.mp hp with rfl | hp
      · exact Nat.le_add_right _ _
      · have := h2 p hp
        simp only [List.length_cons, List.length_nil] at this ⊢
        omega
    · rw [if_neg h]
      obtain ⟨h1, h2⟩ := spl_bd S 0 (acc ++ [c]) r
      refine ⟨by simp only [List.length_cons]; omega, fun p hp => ?_⟩
      have := h2 p hp
      simp only [List.length_append, List.length_cons, List.length_nil] at this ⊢
      omega
  | S, k + 1, acc, c :: r => by
    obtain ⟨h1, h2⟩ := spl_bd S k acc r
    show (spl S k acc r).length ≤ _ ∧ ∀ p ∈ spl S k acc r, _
    refine ⟨by simp only [List.length_cons]; omega, fun p hp => ?_⟩
    have := h2 p hp
    simp only [List.length_cons]
    omega
theorem split_map (x : Str) : (Txt.split x " ").map tl = spl [32] 0 [] (tl x) := split_spl x " " (by decide +kernel) (kind_ok (by decide +kernel))
theorem split_bd (x : Str) : Txt.split x " " ≠ [] ∧ (Txt.split x " ").length ≤ x.length + 1 ∧ ∀ p ∈ Txt.split x " ", p.length ≤ x.length := by
  have h := split_map x
  refine ⟨fun e => ?_, ?_, fun p hp => ?_⟩
  · rw [e] at h
    exact spl_ne _ _ _ _ h.symm
  · have := (spl_bd [32] 0 [] (tl x)).1
    rw [← h, List.length_map] at this
    rw [len_tl x]
    exact this
  · have := (spl_bd [32] 0 [] (tl x)).2 (tl p) (by rw [← h]; exact List.mem_map.mpr ⟨p, hp, rfl⟩)
    rw [len_tl x, len_tl p]
    simpa using this
def neg0 (k : Nat) : Bool := decide (numT [toString (-((k : Nat) : Int) - 1)] = some (-((k : Nat) : Int) - 1)) && decide (32 ∉ tl (toString (-((k : Nat) : Int) - 1)))
theorem neg_all : ∀ k < 128, neg0 k = true := by decide +kernel
theorem num_pos {n : Nat} (h : n < 100000) : numT [toString ((n : Nat) : Int)] = some ((n : Nat) : Int) ∧ 32 ∉ tl (toString ((n : Nat) : Int)) := by
  have e : tl (toString ((n : Nat) : Int)) = numL n := tl_num n
  have hl := numL_len (n := n) (k := 5) (by decide) (by omega)
  have hd := numL_digits n
  have hne := numL_ne n
  refine ⟨?_, by rw [e]; exact numL_free (.inl (by decide))⟩
  have hp : Txt.removeprefix (toString ((n : Nat) : Int)) "-" = toString ((n : Nat) : Int) := by
    rw [PySem.StrLaws.removeprefix_eq, if_neg]
    intro hq
    rw [Bool.and_eq_true] at hq
    have hs := hq.2
    rw [PySem.StrLaws.subAt_eq, show (toString ((n : Nat) : Int) : Str).cps.toList = numL n from e] at hs
    have hs : (numL n).take 1 = [45] := eq_of_beq hs
    have hm : 45 ∈ numL n := List.mem_of_mem_take (by rw [hs]; exact List.mem_singleton.mpr rfl)
    exact numL_free (.inl (by decide)) hm
  have hf : figB (toString ((n : Nat) : Int)) = true := by
    unfold figB
    rw [hp, len_tl, e, Bool.and_eq_true, Bool.and_eq_true]
    refine ⟨⟨decide_eq_true ?_, decide_eq_true hl⟩, ?_⟩
    · cases hn : numL n with
      | nil => exact absurd hn hne
      | cons c r => simp
    · rw [show (toString ((n : Nat) : Int) : Str).cps.toList = numL n from e]
      refine List.all_eq_true.mpr fun c hc => decide_eq_true ?_
      have h1 := hd c hc
      have h2 : ∀ c < 58, 48 ≤ c → c ∈ ("0123456789" : Str).cps.toList := by decide +kernel
      exact h2 c (by omega) h1.1
  show (if figB (toString ((n : Nat) : Int)) = true then _ else none) = _
  rw [if_pos hf]
  exact int_num (by omega)
theorem num_back {n : Int} (h : -128 ≤ n ∧ n ≤ 65535) : numT [toString n] = some n ∧ 32 ∉ tl (toString n) := by
  by_cases h0 : 0 ≤ n
  · obtain ⟨m, rfl⟩ := Int.eq_ofNat_of_zero_le h0
    exact num_pos (by omega)
  · have := neg_all (-n - 1).toNat (by omega)
    unfold neg0 at this
    have e : (-(((-n - 1).toNat : Nat) : Int) - 1) = n := by omega
    rw [e, Bool.and_eq_true] at this
    exact ⟨of_decide_eq_true this.1, of_decide_eq_true this.2⟩
theorem shw_split {z r : Str} {n : Option Int} (hz : 32 ∉ tl z) (hr : 32 ∉ tl r) (hn : ∀ m, n = some m → -128 ≤ m ∧ m ≤ 65535) : Txt.split (shw z r n) " " = z :: (sgn r ++ numS n) := by
  unfold shw
  refine split_join (s := 32) (S := []) (by decide +kernel) (by decide +kernel) (by simp) fun p hp => ?_
  rcases List.mem_cons.mp hp with rfl | hp
  · exact hz
  · rcases List.mem_append.mp hp with hp | hp
    · unfold sgn at hp
      obtain ⟨c, hc, rfl⟩ := List.mem_map.mp hp
      intro hm
      have : 32 = c := List.mem_singleton.mp hm
      subst this
      exact hr hc
    · cases n with
      | none => cases hp
      | some m =>
        have : p = toString m := List.mem_singleton.mp hp
        subst this
        exact (num_back (hn m rfl)).2
theorem num_in (n : Option Int) (hn : ∀ m, n = some m → -128 ≤ m ∧ m ≤ 65535) : numT (numS n) = n := by
  cases n with
  | none => rfl
  | some m => exact (num_back (hn m rfl)).1
end
/-- a text, read -/
def rd (z : Str) : Option (En × Str × Option Int) := match Txt.split z " " with
  | [] => none
  | h :: ts => match mfind h with
    | none => none
    | some e => if (wB e (Txt.join "" (ts.take (regsL e.2.2.1).length)) (numT (ts.drop (regsL e.2.2.1).length)) && decide (shw e.1 (Txt.join "" (ts.take (regsL e.2.2.1).length)) (numT (ts.drop (regsL e.2.2.1).length)) = z)) = true then some (e, Txt.join "" (ts.take (regsL e.2.2.1).length), numT (ts.drop (regsL e.2.2.1).length)) else none
theorem rd_ok {z : Str} {e : En} {r : Str} {n : Option Int} (h : rd z = some (e, r, n)) : e ∈ mst ∧ wB e r n = true ∧ shw e.1 r n = z := by
  unfold rd at h
  split at h
  · cases h
  · split at h
    · cases h
    · rename_i e' he
      split at h
      · rename_i hb
        injection h with h
        injection h with h1 h2
        injection h2 with h2 h3
        subst h1 h2 h3
        rw [Bool.and_eq_true] at hb
        exact ⟨(mfind_mem he).1, hb.1, of_decide_eq_true hb.2⟩
      · cases h
theorem word_free : ∀ e ∈ mst, 32 ∉ e.1.cps.toList ∧ e.1.length ≤ 100 ∧ ∀ far < spn e, 32 ∉ (letAt e far).cps.toList ∧ (letAt e far).length = (regsL e.2.2.1).length ∧ rgB (regsL e.2.2.1) (letAt e far) = true := by decide +kernel
theorem num_wd {f : Option Str} (h : f ∈ flds) {n : Option Int} (hn : numOk f n) : nB (bnd f) n = true ∧ ∀ m, n = some m → -128 ≤ m ∧ m ≤ 65535 := by
  simp only [flds, List.mem_cons, List.not_mem_nil, or_false] at h
  cases n with
  | none =>
    rcases h with rfl | rfl | rfl | rfl | rfl
    · exact ⟨rfl, fun m e => by cases e⟩
    all_goals exact absurd hn id
  | some m =>
    rcases h with rfl | rfl | rfl | rfl | rfl
    · exact absurd hn id
    all_goals
      have hn := hn
      refine ⟨?_, fun k e => by cases e; obtain ⟨h1, h2⟩ := hn; constructor <;> omega⟩
      show (decide (_ ≤ m) && decide (m ≤ _)) = true
      rw [Bool.and_eq_true]
      exact ⟨decide_eq_true hn.1, decide_eq_true hn.2⟩
theorem join_sgn (r : Str) : Txt.join "" (sgn r) = r := by
  unfold sgn
  rw [join_cs]
  rfl
theorem wd_ok {e : En} {far : Nat} {n : Option Int} (h : Wd e far n) : wB e (letAt e far) n = true ∧ rd (shw e.1 (letAt e far) n) = some (e, letAt e far, n) ∧ (∀ m, n = some m → -128 ≤ m ∧ m ≤ 65535) ∧ (letAt e far).length ≤ 2 ∧ e.1.length ≤ 100 := by
  obtain ⟨he, hl, hn⟩ := h
  obtain ⟨_, hp⟩ := in_pats e he
  obtain ⟨f1, f2, f3⟩ := word_free e he
  obtain ⟨g1, g2, g3⟩ := f3 far hl
  obtain ⟨b1, b2⟩ := num_wd hp hn
  have hw : wB e (letAt e far) n = true := by
    unfold wB
    rw [g3, b1]
    rfl
  refine ⟨hw, ?_, b2, (zs_ok e he far hl).2.2, f2⟩
  unfold rd
  rw [shw_split f1 g1 b2]
  dsimp only
  rw [mfind_self e he]
  dsimp only
  have e1 : (sgn (letAt e far)).length = (regsL e.2.2.1).length := by rw [sgn_len, g2]
  rw [← e1, List.take_left' rfl, List.drop_left' rfl, join_sgn, num_in n b2, hw, if_pos]
  rw [Bool.true_and]
  exact decide_eq_true rfl
theorem take_min {α : Type} (l : List α) (k : Nat) : l.take (min k l.length) = l.take k := by
  by_cases h : k ≤ l.length
  · rw [Nat.min_eq_left h]
  · rw [Nat.min_eq_right (by omega), List.take_length, List.take_of_length_le (by omega)]
theorem drop_min {α : Type} (l : List α) (k : Nat) : l.drop (min k l.length) = l.drop k := by
  by_cases h : k ≤ l.length
  · rw [Nat.min_eq_left h]
  · rw [Nat.min_eq_right (by omega), List.drop_length, List.drop_of_length_le (by omega)]
theorem cutS_hi {ts : List Str} {k : Nat} : Br.cutD (ts.map D.str) none (some (k : Int)) = (ts.take k).map D.str := by
  unfold Br.cutD
  rw [HT.sIx_nat, HT.sIx_none, List.drop_zero, Nat.sub_zero, take_min, List.map_take]
theorem cutS_lo {ts : List Str} {k : Nat} : Br.cutD (ts.map D.str) (some (k : Int)) none = (ts.drop k).map D.str := by
  unfold Br.cutD
  rw [HT.sIx_nat, HT.sIx_none, drop_min, List.take_of_length_le (by rw [List.length_drop]; omega), List.map_drop]
theorem sum_le {ts : List Str} {n : Nat} (h : ∀ t ∈ ts, t.length ≤ n) : (ts.map (·.length)).sum ≤ ts.length * n := by
  induction ts with
  | nil => simp
  | cons t r ih =>
    have h1 := h t (List.mem_cons_self ..)
    have h2 := ih fun u hu => h u (List.mem_cons_of_mem _ hu)
    rw [List.map_cons, List.sum_cons, List.length_cons, Nat.succ_mul]
    omega
theorem regs_few : ∀ e ∈ mst, (regsL e.2.2.1).length ≤ 2 := by decide +kernel
theorem numT_bd (ts : List Str) : numB (numT ts) := by
  intro m hm
  match ts, hm with
  | [t], hm =>
    have hm : (if figB t = true then PySem.intText? t else none) = some m := hm
    by_cases hq : figB t = true
    · rw [if_pos hq] at hm
      obtain ⟨n, hn, hb, _⟩ := fig_int hq
      rw [hn] at hm
      cases hm
      exact hb
    · rw [if_neg hq] at hm
      cases hm
theorem join0_len {ts : List Str} : (Txt.join "" ts).length ≤ (ts.map (·.length)).sum := by
  rw [TL.join_eq]
  have h := StrLaws.join_length_le "" ts
  have e : ("" : Str).length = 0 := rfl
  rw [e, Nat.mul_zero, Nat.add_zero] at h
  exact h
theorem rd_parts {z : Str} {e : En} {r : Str} {n : Option Int} (h : rd z = some (e, r, n)) : ∃ h0 ts, Txt.split z " " = h0 :: ts ∧ r = Txt.join "" (ts.take (regsL e.2.2.1).length) ∧ n = numT (ts.drop (regsL e.2.2.1).length) := by
  unfold rd at h
  split at h
  · cases h
  · rename_i h0 ts hs
    split at h
    · cases h
    · split at h
      · injection h with h
        injection h with h1 h2
        injection h2 with h2 h3
        subst h1 h2 h3
        exact ⟨h0, ts, hs, rfl, rfl⟩
      · cases h
theorem rd_num {z : Str} {e : En} {r : Str} {n : Option Int} (h : rd z = some (e, r, n)) : numB n := by
  obtain ⟨_, ts, _, _, rfl⟩ := rd_parts h
  exact numT_bd _
theorem rd_len {z : Str} {e : En} {r : Str} {n : Option Int} (h : rd z = some (e, r, n)) (hl : z.length ≤ 20000) : r.length ≤ 40000 := by
  obtain ⟨h0, ts, hs, rfl, _⟩ := rd_parts h
  obtain ⟨_, _, sp3⟩ := split_bd z
  rw [hs] at sp3
  have hk := regs_few e (rd_ok h).1
  generalize (regsL e.2.2.1).length = k at hk ⊢
  have h1 := sum_le (ts := ts.take k) (n := 20000) fun t ht => Nat.le_trans (sp3 t (List.mem_cons_of_mem _ (List.mem_of_mem_take ht))) hl
  have h2 : (ts.take k).length ≤ 2 := by rw [List.length_take]; omega
  have h3 : (ts.take k).length * 20000 ≤ 2 * 20000 := Nat.mul_le_mul_right _ h2
  have h4 := join0_len (ts := ts.take k)
  omega
def fRead (M : Addr) : FD := fun ds os QA EA => ∃ d, ds = [.d d] ∧ ((∃ z : Str, d = .str z ∧ z.length ≤ 20000 ∧ (∀ e r n, rd z = some (e, r, n) → QA (.tup [.str e.1, .str r, numD n]) os) ∧ (rd z = none → EA M [("at", .int 0)] os)) ∨ (∃ a, d.ty = some a ∧ kitB a "str" = some false ∧ EA M [("at", .int 0)] os))
section
variable {P : Program} {w : World} {K : PySem.W.Frag} {mg : Str → Option Value} {base : Heap} {aW : Addr} {eW : Array DictEntry} {nW : Nat}
abbrev s_read_word : Stmt := topS 40
abbrev N_read_word : List Str := ["text", "name", "texts", "many", "word"]
theorem sc_read_word : FnScope N_read_word ["text"] (defScope s_read_word) := ⟨rfl, rfl, rfl, by decide +kernel, rfl, by decide +kernel, by decide +kernel⟩
theorem ok_read_word {M f a1 a2 a3 a4 a5 : Addr} {fd d1 d2 d3 d4 d5 : FuncData} (F : Fun K "read_word" "read_word" s_read_word f fd) (z_isinstance : mg "isinstance" = none) (z_str : mg "str" = none) (z_len : mg "len" = none) (D_WORDS : KDict K w aW eW nW) (g_WORDS : mg "WORDS" = some (.ref aW)) (k_WORDS : kdOk K aW tbW = true)
    (G_registers_of : FnOk P w K mg base CX0 1 a1 d1 ["name"] (spD K fRegs)) (C_registers_of : Cal K mg "registers_of" a1 d1 ["name"])
    (G_number_told : FnOk P w K mg base CX0 1 a2 d2 ["texts"] (spD K fTold)) (C_number_told : Cal K mg "number_told" a2 d2 ["texts"])
    (G_is_word : FnOk P w K mg base CX0 4 a3 d3 ["thing"] (spD K fIsW)) (C_is_word : Cal K mg "is_word" a3 d3 ["thing"])
    (G_show_word : FnOk P w K mg base CX0 1 a4 d4 ["word"] (spD K fShow)) (C_show_word : Cal K mg "show_word" a4 d4 ["word"])
    (G_NoWord : FnOk P w K mg base CX0 3 a5 d5 ["self", "at"] (spIX K M "at" okD)) (X_NoWord : Xve K mg "NoWord" M a5 d5 ["self", "at"]) : FnOk P w K mg base (CX P w) 5 f fd ["text"] (spD K (fRead M)) := by
  refine F.okX sc_read_word (fun vs H Q E h => ?_) (fun cdv A outer s H vs Q E hr h => ?_)
  · obtain ⟨as, os, ds, QA, EA, R, r, ⟨d, rfl, _⟩, _⟩ := h
    rw [r.length]
    rfl
  · refine ⟨_, (pss_cons (ps_if (pt_not (pt_val (pe_callB call_isi (by rfl) z_isinstance (by decide +kernel) (pa_cons (pv 0) (pa_cons (pe_bltn (v := .ty "str") (by rfl) z_str boot_str rfl) pa_nil))))) (pss_one (ps_raise rfl (takes_of rfl rfl rfl rfl) (pmk_oex X_NoWord.T X_NoWord.iC X_NoWord.tI G_NoWord (hr.mono (by decide)) X_NoWord.b .nil pass0 rfl X_NoWord.m (pa_cons pe_int pa_nil)))) pss_nil)
  (pss_cons (ps_asg (pe_split (pv 0) pe_str) (pg_star rfl (pgs_cons (pg_name (i := 1) sc_read_word.nd rfl (Or.inl rfl)) (pgs_cons (pg_name (i := 2) sc_read_word.nd rfl (Or.inl rfl)) pgs_nil))))
  (pss_cons (ps_if (pt_cmpR (op_notInKd D_WORDS) (pv 1) (pe_glob (v := V.ref _) rfl g_WORDS rfl) rfl) (pss_one (ps_raise rfl (takes_of rfl rfl rfl rfl) (pmk_oex X_NoWord.T X_NoWord.iC X_NoWord.tI G_NoWord (hr.mono (by decide)) X_NoWord.b .nil pass0 rfl X_NoWord.m (pa_cons pe_int pa_nil)))) pss_nil)
  (pss_cons (ps_set (i := 3) sc_read_word.nd rfl (Or.inl rfl) (pe_callB call_lenA (by rfl) z_len PySem.boot_len (pa_cons (pe_call G_registers_of (hr.mono (by decide)) rfl C_registers_of.m C_registers_of.k C_registers_of.b .nil pass0 (pa_cons (pv 1) pa_nil)) pa_nil)))
  (pss_cons (ps_set (i := 4) sc_read_word.nd rfl (Or.inl rfl) (pe_tup (pa_cons (pv 1) (pa_cons (pe_join pe_str (pe_slice sl_list (pv 2) po_none (po_some (pv 3)))) (pa_cons (pe_call G_number_told (hr.mono (by decide)) rfl C_number_told.m C_number_told.k C_number_told.b .nil pass0 (pa_cons (pe_slice sl_list (pv 2) (po_some (pv 3)) po_none) pa_nil)) pa_nil)))))
  (pss_cons (ps_if (PW.pt (pw_or (pt_not (pt_val (pe_call G_is_word (hr.mono (by decide)) rfl C_is_word.m C_is_word.k C_is_word.b .nil pass0 (pa_cons (pv 4) pa_nil)))) (pw_or1 (pt_cmpR op_ne (pe_call G_show_word (hr.mono (by decide)) rfl C_show_word.m C_show_word.k C_show_word.b .nil pass0 (pa_cons (pv 4) pa_nil)) (pv 0) (nomark _))))) (pss_one (ps_raise rfl (takes_of rfl rfl rfl rfl) (pmk_oex X_NoWord.T X_NoWord.iC X_NoWord.tI G_NoWord (hr.mono (by decide)) X_NoWord.b .nil pass0 rfl X_NoWord.m (pa_cons pe_int pa_nil)))) pss_nil)
  (pss_one (ps_ret (pv 4))))))))), read_of h fun ds os QA EA hf => ?_⟩
    obtain ⟨d, rfl, hd⟩ := hf
    try dsimp only [cxOf, Cx.nox, Cx.wish]
    show W K _ _ _ ⟨[some (.d d), none, none, none, none], os⟩
    repeat (walk_at "b")
    rcases hd with ⟨z, rfl, hl, qs, qn⟩ | ⟨a, ea, eb, q⟩
    · refine ⟨_, "str", true, rfl, rfl, (by decide +kernel), ?_⟩
      refine ⟨_, rfl, br_nT (w_next ?_)⟩
      refine w_seq (w_asgStar (ew_split (ew_var rfl ⟨_, rfl, ew_str ⟨_, rfl, by decide +kernel, by rw [sizeLine_eq]; omega, ?_⟩⟩)))
      obtain ⟨sp1, sp2, sp3⟩ := split_bd z
      have hrd : rd z = rd z := rfl
      conv at hrd => rhs; unfold rd
      cases hs : Txt.split z " " with
      | nil => exact absurd hs sp1
      | cons h ts =>
        rw [hs] at hrd sp2 sp3
        dsimp only at hrd
        refine ⟨.str h, ts.map D.str, rfl, ?_⟩
        dsimp only [List.set_cons_zero, List.set_cons_succ]
        have hts : ts.length ≤ 20001 := by rw [List.length_cons] at sp2; omega
        have htl : ∀ t ∈ ts, t.length ≤ 20000 := fun t ht => Nat.le_trans (sp3 t (List.mem_cons_of_mem _ ht)) hl
        repeat (walk_at "b")
        rw [lookT_W]
        cases hm : mfind h with
        | none =>
          rw [hm] at hrd
          refine br_nF ?_
          refine raise_d rfl ?_ (by rw [List.take_length]; exact qn hrd)
          repeat (walk_at "b")
          exact ⟨rfl, rfl⟩
        | some e =>
          rw [hm] at hrd
          dsimp only at hrd
          obtain ⟨he, rfl⟩ := mfind_mem hm
          refine br_nT ?_
          repeat (walk_at "b")
          refine ⟨e, rfl, he, aw_nil (cw_lenU ?_)⟩
          rw [List.length_map]
          refine gw_name ?_
          have hk := regs_few e he
          generalize (regsL e.2.2.1).length = k at hrd hk ⊢
          dsimp only [List.set_cons_zero, List.set_cons_succ]
          have hsum : ((ts.take k).map (·.length)).sum ≤ 40000 := by
            have h1 := sum_le (ts := ts.take k) (n := 20000) fun t ht => htl t (List.mem_of_mem_take ht)
            have h2 : (ts.take k).length ≤ 2 := by rw [List.length_take]; omega
            have h3 : (ts.take k).length * 20000 ≤ 2 * 20000 := Nat.mul_le_mul_right _ h2
            omega
          have hjl := join0_len (ts := ts.take k)
          have hnb := numT_bd (ts.drop k)
          refine w_seq (w_asg ?_)
          repeat (walk_at "b")
          refine ew_join ?_
          repeat (walk_at "b")
          refine sw_L ?_
          rw [cutS_hi]
          refine ⟨_, rfl, by have e0 : ("" : Str).length = 0 := rfl; rw [e0]; omega, ?_⟩
          generalize Txt.join "" (ts.take k) = r at hjl hrd ⊢
          repeat (walk_at "b")
          refine sw_L ?_
          rw [cutS_lo]
          refine aw_nil ⟨_, rfl, by rw [List.length_drop]; omega, fun t ht => Nat.le_trans (htl t (List.mem_of_mem_drop ht)) (by decide), ?_⟩
          generalize numT (ts.drop k) = n at hnb hrd ⊢
          repeat (walk_at "b")
          dsimp only [List.set_cons_zero, List.set_cons_succ]
          refine ⟨e, r, n, rfl, he, by omega, _, rfl, ?_⟩
          have hel := (word_free e he).2.1
          cases hb : wB e r n with
          | false =>
            rw [hb] at hrd
            refine br_nF (br_T ?_)
            refine raise_d rfl ?_ (by rw [List.take_length]; exact qn hrd)
            repeat (walk_at "b")
            exact ⟨rfl, rfl⟩
          | true =>
            rw [hb] at hrd
            refine br_nT ?_
            repeat (walk_at "b")
            refine ⟨_, r, n, rfl, by omega, by omega, hnb, ?_⟩
            repeat (walk_at "b")
            refine bw_neS ⟨_, rfl, ?_⟩
            by_cases hq : shw e.1 r n = z
            · rw [decide_eq_true hq] at hrd ⊢
              refine br_nT ?_
              repeat (walk_at "b")
              exact ret_same (qs e r n hrd)
            · rw [decide_eq_false hq] at hrd ⊢
              refine br_nF ?_
              refine raise_d rfl ?_ (by rw [List.take_length]; exact qn hrd)
              repeat (walk_at "b")
              exact ⟨rfl, rfl⟩
    · refine ⟨_, a, false, rfl, ea, eb, ?_⟩
      repeat (walk_at "b")
      refine raise_d rfl ?_ (by rw [List.take_length]; exact q)
      repeat (walk_at "b")
      exact ⟨rfl, rfl⟩
end

namespace Hx
open PySem PySem.Spec PyProof.Rows L2 Br
def sigS : Str := "0123456789abcdef"
def sigL : List Nat := sigS.cps.toList
def standsB (c : Nat) (i : Int) : Bool := if i % 3 < 2 then decide (c ∈ sigL) else if (i / 3 + 1) % 16 = 0 then decide ((⟨#[c]⟩ : Str) = "\n") else decide ((⟨#[c]⟩ : Str) = " ")
def fMay : FD := fun ds os QA _ => ∃ (c : Nat) (i : Int), ds = [.d (.str ⟨#[c]⟩), .d (.int i)] ∧ 0 ≤ i ∧ i < 2 ^ 62 ∧ QA (.bl (standsB c i)) os
/-- the sign of a half of a byte -/
def sgC (n : Int) : Nat := sigL.getD n.toNat 0
def sepC (k : Int) : Nat := if k % 16 > 0 then 32 else 10
/-- what stands of the k-th byte -/
def pieceC (k : Int) (b : Int) : List Nat := (if k > 0 then [sepC k] else []) ++ [sgC (b / 16), sgC (b % 16)]
def hexC : Int → List Int → List Nat
  | _, [] => []
  | k, b :: r => pieceC k b ++ hexC (k + 1) r
theorem hexC_app {b : Int} : ∀ {row : List Int} {k : Int}, hexC k (row ++ [b]) = hexC k row ++ pieceC (k + row.length) b
  | [], k => by simp [hexC]
  | a :: r, k => by
    have e : (k + 1 + (r.length : Int)) = k + ((a :: r).length : Int) := by rw [List.length_cons]; omega
    rw [List.cons_append, hexC, hexC, hexC_app, List.append_assoc, e]
theorem hexC_len : ∀ {row : List Int} {k : Int}, (hexC k row).length ≤ 3 * row.length
  | [], k => by simp [hexC]
  | a :: r, k => by
    have := hexC_len (row := r) (k := k + 1)
    have h2 : (pieceC k a).length ≤ 3 := by
      unfold pieceC
      split <;> simp
    rw [hexC, List.length_append, List.length_cons]
    omega
theorem tx_len {a : List Nat} : (tx a).length = a.length := rfl
theorem sig_at {n : Int} (h0 : 0 ≤ n) (h1 : n < 16) : L2.atI sigL n = some (sgC n) := by
  obtain ⟨j, rfl⟩ : ∃ j : Nat, n = (j : Int) := ⟨n.toNat, by omega⟩
  have hl : sigL.length = 16 := by decide +kernel
  refine atI_nat ?_
  unfold sgC
  rw [Int.toNat_natCast, List.getD_eq_getElem?_getD, List.getElem?_eq_getElem (by omega)]
  rfl
theorem fits {x : Int} (h0 : -(2 ^ 62) ≤ x) (h1 : x < 2 ^ 62) : Builtin.Range.rangeFitsLong x = true := by
  unfold Builtin.Range.rangeFitsLong
  rw [decide_eq_true (show -(2 ^ 63) ≤ x by omega), decide_eq_true (show x < 2 ^ 63 by omega)]
  rfl
theorem rg_small {n c s : Int} (hc : 1 ≤ c) (hc2 : c < 100) (h0 : 0 ≤ n) (h : n < 2 ^ 40) (hs : Builtin.Range.rangeSize 0 n c = s) (s0 : 0 ≤ s) (s1 : s ≤ n) : Builtin.Range.small 0 n c = true := by
  unfold Builtin.Range.small
  rw [hs, fits (x := 0) (by decide) (by decide), fits (x := n) (by omega) (by omega), fits (x := c) (by omega) (by omega), fits (x := s) (by omega) (by omega), if_pos (show c > 0 by omega), fits (x := n + (c - 1)) (by omega) (by omega)]
  simp
theorem rg3 {n : Nat} (h : n < 2 ^ 40) : RgC 0 (n : Int) 3 ((n + 2) / 3) := by
  have e : Builtin.Range.rangeSize 0 (n : Int) 3 = (((n + 2) / 3 : Nat) : Int) := by
    rw [rangeSize_pos (by decide) (by omega)]
    omega
  exact ⟨by decide, by decide, rg_small (by decide) (by decide) (by omega) (by omega) e (by omega) (by omega), e⟩
theorem rg16 {n : Nat} (h : n < 2 ^ 40) : RgC 0 (n : Int) 16 ((n + 15) / 16) := by
  have e : Builtin.Range.rangeSize 0 (n : Int) 16 = (((n + 15) / 16 : Nat) : Int) := by
    rw [rangeSize_pos (by decide) (by omega)]
    omega
  exact ⟨by decide, by decide, rg_small (by decide) (by decide) (by omega) (by omega) e (by omega) (by omega), e⟩
/-- the value of a sign -/
def hv (c : Nat) : Nat := if c ∈ sigL then ((Builtin.Str.occurrences sigS ⟨#[c]⟩ 0 sigS.length 1).head?).getD 0 else 0
theorem hv_sig : ∀ c ∈ sigL, (Builtin.Str.occurrences sigS ⟨#[c]⟩ 0 sigS.length 1).head? = some (hv c) := by decide +kernel
theorem hv_sg : ∀ n : Fin 16, hv (sgC ((n.val : Nat) : Int)) = n.val := by decide +kernel
def okB (cs : List Nat) (k : Nat) : Bool := standsB (cs.getD k 0) k
/-- where a text can't be read on -/
def bad (cs : List Nat) : Option Nat := match (List.range cs.length).find? (fun k => !okB cs k) with
  | some k => some k
  | none => if cs.length > 0 ∧ cs.length % 3 ≠ 2 then some cs.length else none
def vals (cs : List Nat) : List Int := (List.range ((cs.length + 2) / 3)).map fun i => 16 * (hv (cs.getD (3 * i) 0) : Int) + (hv (cs.getD (3 * i + 1) 0) : Int)
def dueD (cs : List Nat) : D := match bad cs with
  | some k => .lst [.str "none", .int k]
  | none => .tup ((vals cs).map D.int)
theorem bad_at {cs : List Nat} {k : Nat} (h : ∀ j, j < k → okB cs j = true) (hk : k < cs.length) (h2 : okB cs k = false) : bad cs = some k := by
  unfold bad
  have e : (List.range cs.length).find? (fun k => !okB cs k) = some k := by
    rw [List.find?_range_eq_some]
    exact ⟨by simp [h2], by simpa using hk, fun j hj => by simp [h j hj]⟩
  rw [e]
theorem find_none {cs : List Nat} (h : ∀ j, j < cs.length → okB cs j = true) : (List.range cs.length).find? (fun k => !okB cs k) = none := by
  rw [List.find?_range_eq_none]
  intro j hj
  simp [h j hj]
theorem bad_len {cs : List Nat} (h : ∀ j, j < cs.length → okB cs j = true) (h1 : cs.length > 0) (h2 : cs.length % 3 ≠ 2) : bad cs = some cs.length := by
  unfold bad
  rw [find_none h]
  exact if_pos ⟨h1, h2⟩
theorem bad_no {cs : List Nat} (h : ∀ j, j < cs.length → okB cs j = true) (h1 : ¬ (cs.length > 0 ∧ cs.length % 3 ≠ 2)) : bad cs = none := by
  unfold bad
  rw [find_none h]
  exact if_neg h1
theorem ok_sig {cs : List Nat} {k : Nat} (h : okB cs k = true) (hk : k % 3 < 2) : cs.getD k 0 ∈ sigL := by
  unfold okB standsB at h
  rw [if_pos (by omega)] at h
  exact of_decide_eq_true h
theorem tx_at {cs : List Nat} {k : Nat} (hk : k < cs.length) : L2.atI (tx cs).cps.toList (k : Int) = some (cs.getD k 0) := by
  refine atI_nat ?_
  show cs.toArray.toList[k]? = _
  rw [List.getD_eq_getElem?_getD, List.getElem?_eq_getElem hk]
  rfl
/-- the comprehensions' numbers -/
theorem vals_snoc {cs : List Nat} {i : Nat} : (List.range (i + 1)).map (fun i => 16 * (hv (cs.getD (3 * i) 0) : Int) + (hv (cs.getD (3 * i + 1) 0) : Int)) = (List.range i).map (fun i => 16 * (hv (cs.getD (3 * i) 0) : Int) + (hv (cs.getD (3 * i + 1) 0) : Int)) ++ [16 * (hv (cs.getD (3 * i) 0) : Int) + (hv (cs.getD (3 * i + 1) 0) : Int)] := by
  rw [List.range_succ, List.map_append]
  rfl
theorem one_in {c n : Nat} {s : Str} (h : s = ⟨#[n]⟩) : decide ((⟨#[c]⟩ : Str) = s) = decide (c ∈ s.cps.toList) := by
  subst h
  by_cases e : c = n
  · subst e
    simp
  · have h1 : ¬ ((⟨#[c]⟩ : Str) = ⟨#[n]⟩) := fun z => e (by injection z with z; simpa using z)
    rw [decide_eq_false h1, decide_eq_false]
    simpa using e
theorem hv_lt : ∀ c ∈ sigL, hv c < 16 := by decide +kernel
theorem hv_all (c : Nat) : hv c < 16 := by
  by_cases h : c ∈ sigL
  · exact hv_lt c h
  · unfold hv
    rw [if_neg h]
    decide
theorem hv_bd {c : Nat} (h : c ∈ sigL) : -(2 ^ 200) < (hv c : Int) ∧ (hv c : Int) < 2 ^ 200 := by
  have := hv_lt c h
  omega
local macro_rules | `(tactic| walk_at "b") => `(tactic| first
  | with_reducible refine ew_isi ?_
  | with_reducible refine br_nT ?_
  | with_reducible refine br_nF ?_
  | with_reducible refine bw_eqI ?_
  | with_reducible refine bw_neI ?_)
theorem kit_str {a : String} {r : Bool} (h : kitB a "str" = some r) : kitB a "str" = some r := h
def twoC (b : Int) : List Nat := [sgC (b / 16), sgC (b % 16)]
theorem two_tx {b : Int} (h0 : 0 ≤ b) (h1 : b < 256) : PySem.W.br_two b.toNat = tx (twoC b) := by
  obtain ⟨n, rfl⟩ : ∃ n : Nat, b = (n : Int) := ⟨b.toNat, by omega⟩
  have hn : n < 256 := by omega
  rw [Int.toNat_natCast]
  clear h0 h1
  revert hn
  revert n
  decide +kernel
/-- a line's signs -/
def lineC (c : List Int) : List Nat := match c.map twoC with
  | [] => []
  | x :: r => x ++ r.flatMap fun y => [32] ++ y
def chunk (row : List Int) (j : Nat) : List Int := (row.drop (16 * j)).take 16
def linesOf (row : List Int) : List (List Int) := (List.range ((row.length + 15) / 16)).map (chunk row)
theorem lines_nil : linesOf [] = [] := rfl
theorem lines_cons {row : List Int} (h : row ≠ []) : linesOf row = row.take 16 :: linesOf (row.drop 16) := by
  have hl : 0 < row.length := List.length_pos_iff.mpr h
  have e : (row.length + 15) / 16 = ((row.drop 16).length + 15) / 16 + 1 := by
    rw [List.length_drop]
    omega
  unfold linesOf
  rw [e, List.range_succ_eq_map, List.map_cons, List.map_map]
  congr 1
  refine List.map_congr_left fun j _ => ?_
  show (row.drop (16 * (j + 1))).take 16 = ((row.drop 16).drop (16 * j)).take 16
  rw [List.drop_drop]
  congr 2
  omega
theorem hex_app {a b : List Int} : ∀ {k : Int}, hexC k (a ++ b) = hexC k a ++ hexC (k + a.length) b := by
  induction a with
  | nil => intro k; simp [hexC]
  | cons x r ih =>
    intro k
    rw [List.cons_append, hexC, hexC, ih, List.append_assoc]
    congr 3
    rw [List.length_cons]
    omega
/-- within a line -/
theorem hex_in : ∀ {c : List Int} {k : Int} {m : Nat}, 0 < m → k % 16 = m → m + c.length ≤ 16 → 0 ≤ k → hexC k c = (c.map twoC).flatMap fun y => [32] ++ y
  | [], _, _, _, _, _, _ => rfl
  | x :: r, k, m, h0, h1, h2, h3 => by
    rw [List.length_cons] at h2
    have hp : pieceC k x = [32] ++ twoC x := by
      unfold pieceC sepC
      rw [if_pos (show k > 0 by omega), if_pos (show k % 16 > 0 by omega)]
      rfl
    cases r with
    | nil => simp [hexC, hp]
    | cons y r =>
      rw [hexC, hp, hex_in (c := y :: r) (k := k + 1) (m := m + 1) (by omega) (by rw [List.length_cons] at h2; omega) (by omega) (by omega), List.map_cons, List.flatMap_cons]
      simp [List.flatMap_cons]
theorem hex_line0 {c : List Int} (h : c.length ≤ 16) (hne : c ≠ []) : hexC 0 c = lineC c := by
  cases c with
  | nil => exact absurd rfl hne
  | cons x r =>
    rw [List.length_cons] at h
    rw [hexC]
    have hp : pieceC 0 x = twoC x := rfl
    rw [hp, hex_in (m := 1) (by decide) (by decide) (by omega) (by decide)]
    rfl
theorem hex_line {c : List Int} {k : Int} (h : c.length ≤ 16) (hne : c ≠ []) (hk : k % 16 = 0) (h0 : 0 < k) : hexC k c = [10] ++ lineC c := by
  cases c with
  | nil => exact absurd rfl hne
  | cons x r =>
    rw [List.length_cons] at h
    have hp : pieceC k x = [10] ++ twoC x := by
      unfold pieceC sepC
      rw [if_pos h0, if_neg (show ¬ k % 16 > 0 by omega)]
      rfl
    rw [hexC, hp, hex_in (m := 1) (by decide) (by omega) (by omega) (by omega), List.append_assoc]
    rfl
theorem hex_rest : ∀ (n : Nat) {row : List Int} {k : Int}, row.length ≤ n → k % 16 = 0 → 0 < k → hexC k row = ((linesOf row).map lineC).flatMap fun y => [10] ++ y
  | n, [], k, _, _, _ => rfl
  | 0, x :: r, k, h, _, _ => by simp at h
  | n + 1, x :: r, k, h, hk, h0 => by
    have hne : x :: r ≠ [] := by simp
    rw [List.length_cons] at h
    have hl : ((x :: r).take 16).length ≤ 16 := List.length_take_le ..
    have hc : (x :: r).take 16 ≠ [] := by simp
    rw [lines_cons hne, List.map_cons, List.flatMap_cons]
    have e := hex_app (a := (x :: r).take 16) (b := (x :: r).drop 16) (k := k)
    rw [List.take_append_drop, hex_line hl hc hk h0] at e
    rw [e]
    congr 1
    by_cases hd : (x :: r).drop 16 = []
    · rw [hd]
      rfl
    · have h16 : ((x :: r).take 16).length = 16 := by
        rw [List.length_take]
        have : 0 < ((x :: r).drop 16).length := List.length_pos_iff.mpr hd
        rw [List.length_drop] at this
        omega
      rw [h16]
      exact hex_rest n (by rw [List.length_drop, List.length_cons]; omega) (by omega) (by omega)
theorem hex_all {row : List Int} : hexC 0 row = (match (linesOf row).map lineC with | [] => [] | x :: r => x ++ r.flatMap fun y => [10] ++ y) := by
  cases row with
  | nil => rfl
  | cons x r =>
    have hne : x :: r ≠ [] := by simp
    have hl : ((x :: r).take 16).length ≤ 16 := List.length_take_le ..
    have hc : (x :: r).take 16 ≠ [] := by simp
    rw [lines_cons hne, List.map_cons]
    have e := hex_app (a := (x :: r).take 16) (b := (x :: r).drop 16) (k := 0)
    rw [List.take_append_drop, hex_line0 hl hc] at e
    rw [e]
    show _ = lineC ((x :: r).take 16) ++ _
    congr 1
    by_cases hd : (x :: r).drop 16 = []
    · rw [hd]
      rfl
    · have h16 : ((x :: r).take 16).length = 16 := by
        rw [List.length_take]
        have : 0 < ((x :: r).drop 16).length := List.length_pos_iff.mpr hd
        rw [List.length_drop] at this
        omega
      rw [h16]
      exact hex_rest (x :: r).length (by rw [List.length_drop]; omega) (by decide) (by decide)
theorem line_len {c : List Int} (h : c.length ≤ 16) : (lineC c).length ≤ 48 := by
  unfold lineC
  have hf : ∀ r : List Int, ((r.map twoC).flatMap fun y => [32] ++ y).length = 3 * r.length := by
    intro r
    induction r with
    | nil => rfl
    | cons x r ih =>
      rw [List.map_cons, List.flatMap_cons, List.length_append, ih, List.length_cons]
      show 3 + _ = _
      omega
  cases c with
  | nil => simp
  | cons x r =>
    rw [List.length_cons] at h
    show ((twoC x) ++ (r.map twoC).flatMap fun y => [32] ++ y).length ≤ 48
    rw [List.length_append, hf]
    show 2 + _ ≤ _
    omega
def fShowH : FD := fun ds os QA _ => ∃ row : List Int, ds = [.d (.tup (row.map D.int))] ∧ (∀ b ∈ row, 0 ≤ b ∧ b < 256) ∧ row.length ≤ 1000 ∧ QA (.str (tx (hexC 0 row))) os
theorem cut_chunk {row : List Int} {j : Nat} (h : 16 * j < row.length) : Br.cutD (row.map D.int) (some ((16 * j : Nat) : Int)) (some (((16 * j : Nat) : Int) + 16)) = (chunk row j).map D.int := by
  unfold Br.cutD chunk
  have e : (((16 * j : Nat) : Int) + 16) = ((16 * j + 16 : Nat) : Int) := by omega
  rw [e, List.length_map, HT.sIx_nat, HT.sIx_nat, Nat.min_eq_left (Nat.le_of_lt h), List.map_take, List.map_drop]
  by_cases h2 : 16 * j + 16 ≤ row.length
  · rw [Nat.min_eq_left h2, show 16 * j + 16 - 16 * j = 16 by omega]
  · rw [Nat.min_eq_right (by omega)]
    rw [List.take_of_length_le (i := row.length - 16 * j) (by simp), List.take_of_length_le (i := 16) (by simp; omega)]
local macro_rules | `(tactic| walk_at "b") => `(tactic| first
  | with_reducible refine ew_fmt2 ?_
  | with_reducible refine ew_join ?_
  | with_reducible refine ew_joinK ?_)
theorem hx : ∀ {row : List Int} {k : Int}, 0 < k → (hexC k row).length = 3 * row.length ∧ ∀ i (h : i < row.length), (hexC k row).getD (3 * i) 0 = sepC (k + i) ∧ (hexC k row).getD (3 * i + 1) 0 = sgC (row[i] / 16) ∧ (hexC k row).getD (3 * i + 2) 0 = sgC (row[i] % 16)
  | [], k, h0 => ⟨rfl, fun i h => absurd h (by simp)⟩
  | x :: r, k, h0 => by
    obtain ⟨l, g⟩ := hx (row := r) (k := k + 1) (by omega)
    have hp : hexC k (x :: r) = sepC k :: sgC (x / 16) :: sgC (x % 16) :: hexC (k + 1) r := by
      rw [hexC]
      unfold pieceC
      rw [if_pos (show k > 0 by omega)]
      rfl
    refine ⟨by rw [hp]; simp only [List.length_cons, l]; omega, fun i h => ?_⟩
    rw [hp]
    cases i with
    | zero => exact ⟨by simp, by simp, by simp⟩
    | succ i =>
      obtain ⟨g1, g2, g3⟩ := g i (by simpa using h)
      have e1 : 3 * (i + 1) = (3 * i) + 1 + 1 + 1 := by omega
      rw [e1]
      refine ⟨?_, ?_, ?_⟩
      · rw [List.getD_cons_succ, List.getD_cons_succ, List.getD_cons_succ, g1]
        congr 1
        omega
      · rw [show 3 * i + 1 + 1 + 1 + 1 = (3 * i + 1) + 1 + 1 + 1 by omega, List.getD_cons_succ, List.getD_cons_succ, List.getD_cons_succ, g2]
        rfl
      · rw [show 3 * i + 1 + 1 + 1 + 2 = (3 * i + 2) + 1 + 1 + 1 by omega, List.getD_cons_succ, List.getD_cons_succ, List.getD_cons_succ, g3]
        rfl
theorem sg_mem {n : Int} (h0 : 0 ≤ n) (h1 : n < 16) : sgC n ∈ sigL := by
  obtain ⟨j, rfl⟩ : ∃ j : Nat, n = (j : Int) := ⟨n.toNat, by omega⟩
  have h : ∀ j : _root_.Fin 16, sgC ((j.val : Nat) : Int) ∈ sigL := by decide +kernel
  exact h ⟨j, by omega⟩
theorem hv_sgI {n : Int} (h0 : 0 ≤ n) (h1 : n < 16) : (hv (sgC n) : Int) = n := by
  obtain ⟨j, rfl⟩ : ∃ j : Nat, n = (j : Int) := ⟨n.toNat, by omega⟩
  rw [hv_sg ⟨j, by omega⟩]
theorem ok_of_sig {cs : List Nat} {p : Nat} (h : cs.getD p 0 ∈ sigL) (hp : p % 3 < 2) : okB cs p = true := by
  unfold okB standsB
  rw [if_pos (by omega)]
  exact decide_eq_true h
theorem ok_of_sep {cs : List Nat} {p i : Nat} (e : p = 3 * i + 2) (h : cs.getD p 0 = sepC ((i : Int) + 1)) : okB cs p = true := by
  subst e
  unfold okB standsB
  rw [h, if_neg (by omega)]
  unfold sepC
  by_cases z : (((3 * i + 2 : Nat) : Int) / 3 + 1) % 16 = 0
  · rw [if_pos z, if_neg (by omega)]
    rfl
  · rw [if_neg z, if_pos (by omega)]
    rfl
theorem due_hex {row : List Int} (hb : ∀ b ∈ row, 0 ≤ b ∧ b < 256) : dueD (hexC 0 row) = .tup (row.map D.int) := by
  cases row with
  | nil => rfl
  | cons x r =>
    have hp : hexC 0 (x :: r) = sgC (x / 16) :: sgC (x % 16) :: hexC 1 r := rfl
    obtain ⟨l, g⟩ := hx (row := r) (k := 1) (by decide)
    have hlen : (hexC 0 (x :: r)).length = 3 * r.length + 2 := by rw [hp, List.length_cons, List.length_cons, l]
    obtain ⟨x0, x1⟩ := hb x List.mem_cons_self
    have hr : ∀ i (h : i < r.length), 0 ≤ r[i] ∧ r[i] < 256 := fun i h => hb _ (List.mem_cons_of_mem _ (List.getElem_mem h))
    have ok : ∀ p, p < (hexC 0 (x :: r)).length → okB (hexC 0 (x :: r)) p = true := by
      intro p h
      rw [hlen] at h
      rcases Nat.lt_or_ge p 2 with h2 | h2
      · refine ok_of_sig ?_ (by omega)
        rw [hp]
        rcases (show p = 0 ∨ p = 1 by omega) with rfl | rfl
        · exact sg_mem (by omega) (by omega)
        · exact sg_mem (by omega) (by omega)
      · obtain ⟨q, rfl⟩ : ∃ q, p = q + 1 + 1 := ⟨p - 2, by omega⟩
        have hq : q / 3 < r.length := by omega
        obtain ⟨g1, g2, g3⟩ := g (q / 3) hq
        obtain ⟨b0, b1⟩ := hr _ hq
        have hg : (hexC 0 (x :: r)).getD (q + 1 + 1) 0 = (hexC 1 r).getD q 0 := by
          rw [hp, List.getD_cons_succ, List.getD_cons_succ]
        rcases (show q % 3 = 0 ∨ q % 3 = 1 ∨ q % 3 = 2 by omega) with z | z | z
        · refine ok_of_sep (i := q / 3) (by omega) ?_
          rw [hg, show q = 3 * (q / 3) by omega, g1]
          congr 1
          omega
        · refine ok_of_sig ?_ (by omega)
          rw [hg, show q = 3 * (q / 3) + 1 by omega, g2]
          exact sg_mem (by omega) (by omega)
        · refine ok_of_sig ?_ (by omega)
          rw [hg, show q = 3 * (q / 3) + 2 by omega, g3]
          exact sg_mem (by omega) (by omega)
    have hno := bad_no ok (by rw [hlen]; omega)
    unfold dueD
    rw [hno]
    show D.tup _ = _
    congr 2
    unfold vals
    rw [hlen, show (3 * r.length + 2 + 2) / 3 = r.length + 1 by omega, List.range_succ_eq_map, List.map_cons, List.map_map]
    congr 1
    · rw [hp]
      show 16 * (hv (sgC (x / 16)) : Int) + (hv (sgC (x % 16)) : Int) = x
      rw [hv_sgI (by omega) (by omega), hv_sgI (by omega) (by omega)]
      omega
    · refine List.ext_getElem (by simp) fun i h1 h2 => ?_
      obtain ⟨g1, g2, g3⟩ := g i h2
      obtain ⟨b0, b1⟩ := hr _ h2
      rw [List.getElem_map, List.getElem_range]
      show 16 * (hv ((hexC 0 (x :: r)).getD (3 * (i + 1)) 0) : Int) + (hv ((hexC 0 (x :: r)).getD (3 * (i + 1) + 1) 0) : Int) = r[i]
      rw [hp, show 3 * (i + 1) = (3 * i + 1) + 1 + 1 by omega, List.getD_cons_succ, List.getD_cons_succ, List.getD_cons_succ, List.getD_cons_succ, g2, g3, hv_sgI (by omega) (by omega), hv_sgI (by omega) (by omega)]
      omega
def fReadH : FD := fun ds os QA _ => ∃ row : List Int, ds = [.d (.str (tx (hexC 0 row)))] ∧ (∀ b ∈ row, 0 ≤ b ∧ b < 256) ∧ row.length ≤ 1000 ∧ QA (.tup (row.map D.int)) os
theorem good_hex {row : List Int} (hb : ∀ b ∈ row, 0 ≤ b ∧ b < 256) : bad (hexC 0 row) = none ∧ vals (hexC 0 row) = row := by
  have h := due_hex hb
  unfold dueD at h
  cases e : bad (hexC 0 row) with
  | some k => rw [e] at h; cases h
  | none =>
    rw [e] at h
    refine ⟨rfl, ?_⟩
    injection h with h
    have inj : ∀ {a b : List Int}, a.map D.int = b.map D.int → a = b := by
      intro a
      induction a with
      | nil => intro b q; cases b with
        | nil => rfl
        | cons => cases q
      | cons x r ih => intro b q; cases b with
        | nil => cases q
        | cons y s =>
          rw [List.map_cons, List.map_cons] at q
          injection q with q1 q2
          injection q1 with q1
          rw [q1, ih q2]
    exact inj h
section
variable {P : Program} {w : World} {K : PySem.W.Frag} {mg : Str → Option Value} {base : Heap}
abbrev s_may_stand : Stmt := topS 18
abbrev N_may_stand : List Str := ["sign", "at"]
theorem sc_may_stand : FnScope N_may_stand ["sign", "at"] (defScope s_may_stand) := ⟨rfl, rfl, rfl, by decide +kernel, rfl, by decide +kernel, by decide +kernel⟩
theorem ok_may_stand {f : Addr} {fd : FuncData} {u1 u2 : Value} (F : Fun K "may_stand" "may_stand" s_may_stand f fd) (g_SIGNS : mg "SIGNS" = some u1) (r_SIGNS : RelV (.str sigS) u1) (g_BYTES_A_LINE : mg "BYTES_A_LINE" = some u2) (r_BYTES_A_LINE : RelV (.int 16) u2) : FnOk P w K mg base CX0 1 f fd ["sign", "at"] (spD K fMay) := by
  refine F.ok sc_may_stand (fun vs H Q E h => ?_) (fun cdv A outer s H vs Q E hr h => ?_)
  · obtain ⟨as, os, ds, QA, EA, R, r, ⟨c, i, rfl, _⟩, _⟩ := h
    rw [r.length]
    rfl
  · refine ⟨_, (pss_cons (ps_if (pt_cmpR op_lt (pe_op op_mod (pv 1) pe_int) pe_int (nomark _)) (pss_one (ps_ret (pe_cmpR op_inS (pv 0) (pe_glob rfl g_SIGNS r_SIGNS) rfl))) pss_nil)
  (pss_cons (ps_if (pt_cmpR op_eq (pe_op op_mod (pe_op op_add (pe_op op_fdivW (pv 1) pe_int) pe_int) (pe_glob rfl g_BYTES_A_LINE r_BYTES_A_LINE)) pe_int (nomark _)) (pss_one (ps_ret (pe_cmpR op_eq (pv 0) pe_str (nomark _)))) pss_nil)
  (pss_one (ps_ret (pe_cmpR op_eq (pv 0) pe_str (nomark _)))))), read_of h fun ds os QA EA hf => ?_⟩
    obtain ⟨c, i, rfl, h0, h1, q⟩ := hf
    try dsimp only [cxOf, Cx.nox, Cx.wish]
    show W K _ _ _ ⟨[some (.d (.str ⟨#[c]⟩)), some (.d (.int i))], os⟩
    repeat (walk_at "b")
    unfold standsB at q
    refine br_ite (fun h2 => ?_) (fun h2 => ?_)
    · rw [if_pos h2] at q
      repeat (walk_at "b")
      exact bw_inS (ret_same q)
    · rw [if_neg h2] at q
      repeat (walk_at "b")
      refine br_ite (fun h3 => ?_) (fun h3 => ?_)
      · rw [if_pos h3] at q
        repeat (walk_at "b")
        exact bw_eqS (ret_same q)
      · rw [if_neg h3] at q
        repeat (walk_at "b")
        exact bw_eqS (ret_same q)
abbrev s_show_hex : Stmt := topS 16
abbrev N_show_hex : List Str := ["row", "lines", "at", "line", "byte"]
theorem sc_show_hex : FnScope N_show_hex ["row"] (defScope s_show_hex) := ⟨rfl, rfl, rfl, by decide +kernel, rfl, by decide +kernel, by decide +kernel⟩
theorem ok_show_hex {f : Addr} {fd : FuncData} {u2 : Value} (F : Fun K "show_hex" "show_hex" s_show_hex f fd) (z_len : mg "len" = none) (z_range : mg "range" = none) (g_BYTES_A_LINE : mg "BYTES_A_LINE" = some u2) (r_BYTES_A_LINE : RelV (.int 16) u2) : FnOk P w K mg base CX0 1 f fd ["row"] (spD K fShowH) := by
  refine F.ok sc_show_hex (fun vs H Q E h => ?_) (fun cdv A outer s H vs Q E hr h => ?_)
  · obtain ⟨as, os, ds, QA, EA, R, r, ⟨row, rfl, _⟩, _⟩ := h
    rw [r.length]
    rfl
  · refine ⟨_, (pss_cons (ps_setLc (i := 1) (own := [("at", 2)]) (g := (gName 2)) rfl sc_show_hex.nd rfl rfl (sw_true rfl rfl rfl (by decide +kernel)) (pi_range3 (by rfl) z_range (pa_cons pe_int (pa_cons (pe_callB call_lenA (by rfl) z_len PySem.boot_len (pa_cons (pv 0) pa_nil)) (pa_cons (pe_glob rfl g_BYTES_A_LINE r_BYTES_A_LINE) pa_nil)))) (blkOk_by (own := [("at", 2)]) (N := N_show_hex) (sc := defScope s_show_hex) (by decide +kernel)) (fun _ _ _ _ _ => (pg_name (i := 2) sc_show_hex.nd rfl (Or.inl rfl))) (fun _ _ _ _ _ => pts_nil) (fun _ _ _ _ _ => (pe_slice (r := rSlA K) sl_tupA (pv 0) (po_some (pv 2)) (po_some (pe_op op_add (pv 2) (pe_glob rfl g_BYTES_A_LINE r_BYTES_A_LINE))))))
  (pss_one (ps_ret (pe_join pe_str (pe_lc (own := [("line", 3)]) (g := (gName 3)) rfl sc_show_hex.nd (pi_list (pv 1)) (blkOk_by (own := [("line", 3)]) (N := N_show_hex) (sc := defScope s_show_hex) (by decide +kernel)) (fun _ _ _ _ _ => (pg_name (i := 3) sc_show_hex.nd rfl (Or.inl rfl))) (fun _ _ _ _ _ => pts_nil) (fun _ _ _ _ _ => (pe_joinK (K := K) rfl pe_str (pe_lc (own := [("byte", 4)]) (g := (gName 4)) rfl sc_show_hex.nd (pi_tupK (K := K) rfl (pv 3)) (by show BlkOk N_show_hex (relS _ (defScope s_show_hex)) _ _; exact blkOk_by (own := [("byte", 4)]) (by decide +kernel)) (fun _ _ _ _ _ => (pg_name (i := 4) sc_show_hex.nd rfl (Or.inl rfl))) (fun _ _ _ _ _ => pts_nil) (fun _ _ _ _ _ => (pe_joined1 (pe_fmt02x (pv 4)))))))))))), read_of h fun ds os QA EA hf => ?_⟩
    obtain ⟨row, rfl, hb, hl, q⟩ := hf
    try dsimp only [cxOf, Cx.nox, Cx.wish]
    show W K _ _ _ ⟨[some (.d (.tup (row.map D.int))), none, none, none, none], os⟩
    refine w_seq (w_asg ?_)
    refine ew_lc (wg_name (by decide)) mg_name ?_
    refine iw_rng3 ?_
    repeat (walk_at "b")
    rw [List.length_map]
    refine ⟨_, _, _, _, rfl, rg16 (by omega), ?_⟩
    refine ⟨fun i acc os2 => os2 = os ∧ acc = (List.range i).map fun j => D.tup ((chunk row j).map D.int), ⟨rfl, rfl⟩, ?_, ?_⟩
    · rintro i d acc os2 hd ⟨rfl, rfl⟩
      obtain ⟨hi, rfl⟩ := rngD_get hd
      have e1 : (0 + (i : Int) * 16) = ((16 * i : Nat) : Int) := by omega
      rw [e1]
      refine gw_name ?_
      refine tw_yes (br_T ?_)
      show EW K X0 _ ⟨[some (.d (.tup (row.map D.int))), none, some (.d (.int ((16 * i : Nat) : Int))), none, none], _⟩ _
      repeat (walk_at "b")
      refine sw_T ?_
      rw [cut_chunk (by omega)]
      refine ⟨_, _, rfl, rfl, by rw [List.length_map, List.length_range, sizeLine_eq]; omega, rfl, ?_⟩
      rw [List.range_succ, List.map_append]
      rfl
    · rintro acc os2 ⟨rfl, rfl⟩
      rw [rngD_len]
      dsimp only [List.set_cons_zero, List.set_cons_succ]
      repeat (walk_at "b")
      refine ew_lc (wg_name (by decide)) mg_name ?_
      refine iw_list ?_
      repeat (walk_at "b")
      refine ⟨fun i acc os3 => os3 = os2 ∧ acc = (List.range i).map fun j => D.str (tx (lineC (chunk row j))), ⟨rfl, rfl⟩, ?_, ?_⟩
      · rintro i d acc os3 hd ⟨rfl, rfl⟩
        have hi : i < (row.length + 15) / 16 := by
          have z := (List.getElem?_eq_some_iff.mp hd).1
          rw [List.length_map, List.length_range] at z
          exact z
        have ed : d = D.tup ((chunk row i).map D.int) := by
          rw [List.getElem?_map, List.getElem?_range hi] at hd
          cases hd
          rfl
        subst ed
        have hc : (chunk row i).length ≤ 16 := List.length_take_le ..
        have hm : ∀ b ∈ chunk row i, 0 ≤ b ∧ b < 256 := fun b hb' => hb b (List.mem_of_mem_drop (List.mem_of_mem_take hb'))
        refine gw_name ?_
        refine tw_yes (br_T ?_)
        show EW K X0 _ ⟨[some (.d (.tup (row.map D.int))), some (.d _), none, some (.d (.tup ((chunk row i).map D.int))), none], _⟩ _
        repeat (walk_at "b")
        refine ew_lc (wg_name (by decide)) mg_name ?_
        refine iw_tup ?_
        repeat (walk_at "b")
        refine ⟨fun n acc os4 => os4 = os3 ++ [.ml ((List.range i).map fun j => D.str (tx (lineC (chunk row j))))] ∧ acc = ((chunk row i).take n).map fun b => D.str (tx (twoC b)), ⟨rfl, rfl⟩, ?_, ?_⟩
        · rintro n d acc os4 hd ⟨rfl, rfl⟩
          have hn : n < (chunk row i).length := by
            have z := (List.getElem?_eq_some_iff.mp hd).1
            rw [List.length_map] at z
            exact z
          have ed : d = D.int (chunk row i)[n] := by
            rw [List.getElem?_map, List.getElem?_eq_getElem hn] at hd
            cases hd
            rfl
          subst ed
          obtain ⟨b0, b1⟩ := hm _ (List.getElem_mem hn)
          refine gw_name ?_
          refine tw_yes (br_T ?_)
          show EW K X0 _ ⟨[some (.d (.tup (row.map D.int))), some (.d _), none, some (.d (.tup ((chunk row i).map D.int))), some (.d (.int (chunk row i)[n]))], _⟩ _
          repeat (walk_at "b")
          refine ⟨(chunk row i)[n].toNat, by rw [Int.toNat_of_nonneg b0], by omega, _, _, rfl, rfl, by rw [List.length_map, List.length_take, sizeLine_eq]; omega, rfl, ?_⟩
          rw [← List.take_append_getElem hn, List.map_append, two_tx b0 b1]
          rfl
        · rintro acc os4 ⟨rfl, rfl⟩
          rw [List.length_map, List.take_length]
          refine ⟨((chunk row i).map twoC).map tx, by rw [List.map_map, List.map_map]; rfl, ?_, ?_⟩
          · have hs : ∀ l : List Int, ((((l.map twoC).map tx).map (·.length)).sum) = 2 * l.length := by
              intro l
              induction l with
              | nil => rfl
              | cons x r ih =>
                rw [List.map_cons, List.map_cons, List.map_cons, List.sum_cons, ih, List.length_cons]
                show 2 + _ = _
                omega
            rw [hs, List.length_map, List.length_map]
            show 2 * _ + _ * 1 ≤ _
            omega
          · have e : Txt.join (" " : Str) (((chunk row i).map twoC).map tx) = tx (lineC (chunk row i)) := tj (sep := [32]) _
            rw [e]
            refine ⟨_, _, rfl, rfl, by rw [List.length_map, List.length_range, sizeLine_eq]; omega, rfl, ?_⟩
            rw [List.range_succ, List.map_append]
            rfl
      · rintro acc os3 ⟨rfl, rfl⟩
        rw [List.length_map, List.length_range]
        refine ⟨((linesOf row).map lineC).map tx, by unfold linesOf; rw [List.map_map, List.map_map, List.map_map]; rfl, ?_, ?_⟩
        · have hs : ∀ l : List (List Int), (∀ c ∈ l, c.length ≤ 16) → ((((l.map lineC).map tx).map (·.length)).sum) ≤ 48 * l.length := by
            intro l
            induction l with
            | nil => intro _; simp
            | cons x r ih =>
              intro hh
              rw [List.map_cons, List.map_cons, List.map_cons, List.sum_cons, List.length_cons]
              have h1 := ih fun c hc => hh c (List.mem_cons_of_mem _ hc)
              have h2 : (tx (lineC x)).length ≤ 48 := line_len (hh x List.mem_cons_self)
              omega
          have h1 := hs (linesOf row) fun c hc => by
            unfold linesOf at hc
            obtain ⟨j, _, rfl⟩ := List.mem_map.mp hc
            exact List.length_take_le ..
          have h2 : (linesOf row).length ≤ 100 := by
            unfold linesOf
            rw [List.length_map, List.length_range]
            omega
          rw [List.length_map, List.length_map]
          show _ + _ * 1 ≤ _
          omega
        · have e : Txt.join ("\n" : Str) (((linesOf row).map lineC).map tx) = tx (hexC 0 row) := by
            rw [hex_all]
            exact tj (sep := [10]) _
          rw [e]
          exact ret_same q
abbrev s_read_hex : Stmt := topS 17
abbrev N_read_hex : List Str := ["text", "at"]
theorem sc_read_hex : FnScope N_read_hex ["text"] (defScope s_read_hex) := ⟨rfl, rfl, rfl, by decide +kernel, rfl, by decide +kernel, by decide +kernel⟩
theorem ok_read_hex {f f_may : Addr} {fd fd_may : FuncData} {u1 : Value} (F : Fun K "read_hex" "read_hex" s_read_hex f fd) (z_len : mg "len" = none) (z_range : mg "range" = none) (z_isinstance : mg "isinstance" = none) (z_str : mg "str" = none) (z_tuple : mg "tuple" = none)
    (g_SIGNS : mg "SIGNS" = some u1) (r_SIGNS : RelV (.str sigS) u1)
    (G_may_stand : FnOk P w K mg base CX0 1 f_may fd_may ["sign", "at"] (spD K fMay)) (C_may_stand : Cal K mg "may_stand" f_may fd_may ["sign", "at"]) : FnOk P w K mg base CX0 2 f fd ["text"] (spD K fReadH) := by
  refine F.ok sc_read_hex (fun vs H Q E h => ?_) (fun cdv A outer s H vs Q E hr h => ?_)
  · obtain ⟨as, os, ds, QA, EA, R, r, ⟨row, rfl, _⟩, _⟩ := h
    rw [r.length]
    rfl
  · refine ⟨_, (pss_cons (ps_if (pt_not (pt_val (pe_callB call_isi (by rfl) z_isinstance (by decide +kernel) (pa_cons (pv 0) (pa_cons (pe_bltn (v := .ty "str") (by rfl) z_str boot_str rfl) pa_nil))))) pss_never pss_nil)
  (pss_cons (ps_for PassesOwn.never rfl (pi_range1 (by rfl) z_range (pa_cons (pe_callB call_lenS1 (by rfl) z_len PySem.boot_len (pa_cons (pv 0) pa_nil)) pa_nil)) (pg_name (i := 1) sc_read_hex.nd rfl (Or.inl rfl))
    (pss_one (ps_if (pt_not (pt_val (pe_call G_may_stand (hr.mono (by decide)) rfl C_may_stand.m C_may_stand.k C_may_stand.b .nil pass0 (pa_cons (pe_ix ix_str (pv 0) (pv 1) (fun _ _ => rfl)) (pa_cons (pv 1) pa_nil))))) pss_never pss_nil)))
  (pss_cons (ps_if (PW.pt (pw_and (pt_cmpR op_gt (pe_callB call_lenS1 (by rfl) z_len PySem.boot_len (pa_cons (pv 0) pa_nil)) pe_int (nomark _)) (pw_and1 (pt_cmpR op_ne (pe_op op_mod (pe_callB call_lenS1 (by rfl) z_len PySem.boot_len (pa_cons (pv 0) pa_nil)) pe_int) pe_int (nomark _))))) pss_never pss_nil)
  (pss_one (ps_ret (pe_callTy call_tupA (by rfl) z_tuple (by decide +kernel) (pa_cons (pe_lc (own := [("at", 1)]) (g := (gName 1)) rfl sc_read_hex.nd (pi_range3 (by rfl) z_range (pa_cons pe_int (pa_cons (pe_callB call_lenS1 (by rfl) z_len PySem.boot_len (pa_cons (pv 0) pa_nil)) (pa_cons pe_int pa_nil)))) (blkOk_by (own := [("at", 1)]) (N := N_read_hex) (sc := defScope s_read_hex) (by decide +kernel)) (fun _ _ _ _ _ => (pg_name (i := 1) sc_read_hex.nd rfl (Or.inl rfl))) (fun _ _ _ _ _ => pts_nil) (fun _ _ _ _ _ => (pe_op op_add (pe_op op_mulW pe_int (pe_m1 PySem.F.slot_str_index PySem.F.type_str_index mt_sindex (pe_glob rfl g_SIGNS r_SIGNS) (pe_ix ix_str (pv 0) (pv 1) (fun _ _ => rfl)))) (pe_m1 PySem.F.slot_str_index PySem.F.type_str_index mt_sindex (pe_glob rfl g_SIGNS r_SIGNS) (pe_ix ix_str (pv 0) (pe_op op_add (pv 1) pe_int) (fun _ _ => rfl)))))) pa_nil))))))), read_of h fun ds os QA EA hf => ?_⟩
    obtain ⟨row, rfl, hb, hl0, q⟩ := hf
    have hl : (hexC 0 row).length ≤ 10000 := by
      have := hexC_len (row := row) (k := 0)
      omega
    obtain ⟨gb, gv⟩ := good_hex hb
    rw [← gv] at q
    revert gb hl q
    generalize hexC 0 row = cs
    intro q hl gb
    try dsimp only [cxOf, Cx.nox, Cx.wish]
    show W K _ _ _ ⟨[some (.d (.str (tx cs))), none], os⟩
    repeat (walk_at "b")
    · refine ⟨_, "str", true, rfl, rfl, (by decide +kernel), ?_⟩
      repeat (walk_at "b")
      refine w_for ?_
      refine iw_rng1 ?_
      repeat (walk_at "b")
      refine cw_lenS (small_len (by rw [tx_len]; omega)) ?_
      repeat (walk_at "b")
      refine ⟨by omega, by rw [tx_len]; omega, fun i S' => (∀ j, j < i → okB cs j = true) ∧ ∃ o1 : Option Sv, S' = ⟨[some (.d (.str (tx cs))), o1], os⟩, ⟨fun j hj => absurd hj (by omega), _, rfl⟩, ?_, ?_⟩
      · rintro i d S' hd ⟨hok, o1, rfl⟩
        obtain ⟨hi, rfl⟩ := rngD_get hd
        have hi2 : i < cs.length := by rw [tx_len] at hi; omega
        have ei : (0 + (i : Int) * 1) = (i : Int) := by omega
        rw [ei]
        refine gw_name ?_
        dsimp only [List.set_cons_zero, List.set_cons_succ]
        repeat (walk_at "b")
        refine bw_ixS (small_len (by rw [tx_len]; omega)) (tx_at hi2) ?_
        repeat (walk_at "b")
        refine ⟨_, _, rfl, by omega, by omega, ?_⟩
        refine ⟨_, rfl, ?_⟩
        show if (!okB cs i) = true then _ else _
        cases hb : okB cs i with
        | true =>
          repeat (walk_at "b")
          refine ⟨fun j hj => ?_, _, rfl⟩
          rcases Nat.lt_succ_iff_lt_or_eq.mp hj with h | h
          · exact hok j h
          · rw [h]
            exact hb
        | false =>
          refine br_nF ?_
          have e := (bad_at hok hi2 hb).symm.trans gb
          cases e
      · rintro S' ⟨hok, o1, rfl⟩
        have hok2 : ∀ j, j < cs.length → okB cs j = true := fun j hj => hok j (by rw [rngD_len, tx_len]; omega)
        refine w_cut (fun S' => ¬ (cs.length > 0 ∧ cs.length % 3 ≠ 2) ∧ S' = ⟨[some (.d (.str (tx cs))), o1], os⟩) ?_ ?_
        · repeat (walk_at "b")
          refine cw_lenS (small_len (by rw [tx_len]; omega)) ?_
          repeat (walk_at "b")
          rw [tx_len]
          refine br_ite (fun h => ?_) (fun h => ?_)
          · have hpos : cs.length > 0 := by omega
            repeat (walk_at "b")
            refine cw_lenS (small_len (by rw [tx_len]; omega)) ?_
            repeat (walk_at "b")
            rw [tx_len]
            refine br_iteN (fun h3 => ?_) (fun h3 => ?_)
            · have e := (bad_len hok2 hpos (by omega)).symm.trans gb
              cases e
            · repeat (walk_at "b")
              exact ⟨fun z => z.2 (by omega), rfl⟩
          · repeat (walk_at "b")
            exact ⟨fun z => h (by omega), rfl⟩
        · rintro S' ⟨hno, rfl⟩
          refine w_ret (ew_cb (aw_cons ?_))
          refine ew_lc (wg_name (by decide)) mg_name ?_
          refine iw_rng3 ?_
          repeat (walk_at "b")
          refine cw_lenS (small_len (by rw [tx_len]; omega)) ?_
          repeat (walk_at "b")
          refine ⟨_, _, _, _, rfl, rg3 (by rw [tx_len]; omega), ?_⟩
          rw [tx_len]
          refine ⟨fun i acc os2 => os2 = os ∧ acc = ((List.range i).map fun i => 16 * (hv (cs.getD (3 * i) 0) : Int) + (hv (cs.getD (3 * i + 1) 0) : Int)).map D.int, ⟨rfl, rfl⟩, ?_, ?_⟩
          · rintro i d acc os2 hd ⟨rfl, rfl⟩
            obtain ⟨hi, rfl⟩ := rngD_get hd
            have e1 : (0 + (i : Int) * 3) = ((3 * i : Nat) : Int) := by omega
            rw [e1]
            have hlen : cs.length % 3 = 2 := by
              by_cases z : cs.length % 3 = 2
              · exact z
              · exact absurd ⟨by omega, z⟩ hno
            have h1 : 3 * i + 1 < cs.length := by omega
            have m1 : cs.getD (3 * i) 0 ∈ sigL := ok_sig (hok2 _ (by omega)) (by omega)
            have m2 : cs.getD (3 * i + 1) 0 ∈ sigL := ok_sig (hok2 _ (by omega)) (by omega)
            refine gw_name ?_
            refine tw_yes (br_T ?_)
            show EW K X0 _ ⟨[some (.d (.str (tx cs))), some (.d (.int ((3 * i : Nat) : Int)))], _⟩ _
            repeat (walk_at "b")
            refine ew_sindex ?_
            repeat (walk_at "b")
            refine bw_ixS (small_len (by rw [tx_len]; omega)) (tx_at (by omega)) ?_
            refine ⟨_, _, rfl, hv_sig _ m1, ?_⟩
            repeat (walk_at "b")
            refine bw_i (c_mulS (by omega) (hv_bd m1)) ?_
            refine ew_sindex ?_
            repeat (walk_at "b")
            have e2 : (((3 * i : Nat) : Int) + 1) = ((3 * i + 1 : Nat) : Int) := by omega
            rw [e2]
            refine bw_ixS (small_len (by rw [tx_len]; omega)) (tx_at h1) ?_
            refine ⟨_, _, rfl, hv_sig _ m2, ?_⟩
            repeat (walk_at "b")
            refine ⟨_, _, rfl, rfl, by rw [List.length_map, List.length_map, List.length_range, sizeLine_eq]; omega, rfl, ?_⟩
            rw [vals_snoc, List.map_append]
            rfl
          · rintro acc os2 ⟨rfl, rfl⟩
            rw [rngD_len]
            refine aw_nil (cw_tupL ?_)
            exact ret_same q
end
end Hx
open Br
local macro_rules | `(tactic| walk_at "b") => `(tactic| first
  | with_reducible refine ew_isi ?_
  | with_reducible refine br_nT ?_
  | with_reducible refine br_nF ?_
  | with_reducible refine bw_eqI ?_
  | with_reducible refine bw_neI ?_
  | with_reducible refine ew_fmt2 ?_
  | with_reducible refine ew_join ?_
  | with_reducible refine ew_joinK ?_)

open PySem PySem.Spec PyProof.Rows L2 Br
def fSigns : FD := fun ds os QA _ => ds = [] ∧ ∀ z : Str, 0 < z.length → z.length ≤ 200 → QA (.str z) os
def fBent : FD := fun ds os QA _ => ∃ (k : Nat) (text near : Str) (cells : List Int) (b : Int) (o : Os), ds = [.o k, .d (.str text), .d (.str near)] ∧ Pn k cells b o os ∧ text.length ≤ 100000 ∧ (0 < near.length ∧ near.length ≤ 200) ∧ b < 2 ^ 36 ∧
  ∀ (z : Str) (os' : Os), z.length ≤ 3 * text.length + 3 → Pn k cells (b + 4) o os' → QA (.str z) os'
theorem str_at {z : Str} {i : Int} (h0 : 0 ≤ i) (h1 : i < (z.length : Int)) : ∃ c, L2.atI z.cps.toList i = some c := by
  obtain ⟨d, h, _⟩ := at_mem (xs := z.cps.toList) h0 (by rw [Array.length_toList]; exact h1)
  exact ⟨d, h⟩
theorem app_len {a b : Str} : (a ++ b).length = a.length + b.length := by
  show (a.cps ++ b.cps).size = a.cps.size + b.cps.size
  exact Array.size_append ..
local macro_rules | `(tactic| walk_at "b") => `(tactic| first
  | with_reducible refine ew_sl ?_
  | with_reducible refine ow_none ?_
  | with_reducible refine ow_some ?_
  | with_reducible refine ew_if ?_)
theorem ew_revs2 {K : PySem.W.Frag} {X : Xc} {S : Sa} {Q : Sv → Os → Prop} {te : TE} (h : EW K X te S fun x os => ∃ z : Str, x = .d (.str z) ∧ z.length ≤ sizeLine ∧ ∀ y : Str, y.length ≤ z.length → (∀ c ∈ y.cps.toList, c ∈ z.cps.toList) → Q (.d (.str y)) os) : EW K X (tRevS2 te) S Q := fun as H σ Q' R x k =>
  h as H σ _ R x fun v H1 d os1 g1 R1 r1 ⟨z, ed, hz, q⟩ => by
    subst ed
    cases r1
    exact ⟨z, rfl, hz, fun y hy hc => k (.str y) H1 (.d (.str y)) os1 g1 R1 (Dx.str y) (q y hy hc)⟩
/-- what is asked of a kept exception of the class at C with the field f -/
structure Kex (K : PySem.W.Frag) (C : Addr) (f : Str) : Prop where
  T : XfC K C
  E : ExcC K C
  cl : (PySem.W.clsIn K C).isSome = true
  at_ : PySem.W.findIn K (.ref C) f = some none
  xm : PySem.W.exmOne K (.ref C) (.ref C) = some true
section
variable {P : Program} {w : World} {K : PySem.W.Frag} {mg : Str → Option Value} {base : Heap}
abbrev s_l_signs : Stmt := topS 48
abbrev N_l_signs : List Str := ["_law_signs_here"]
theorem sc_l_signs : FnScope N_l_signs [] (defScope s_l_signs) := ⟨rfl, rfl, rfl, by decide +kernel, rfl, by decide +kernel, by decide +kernel⟩
theorem ok_l_signs {f : Addr} {fd : FuncData} (F : Fun K "_law_signs" "_law_signs" s_l_signs f fd) : FnOk P w K mg base CX0 1 f fd [] (spD K fSigns) := by
  refine F.ok sc_l_signs (fun vs H Q E h => ?_) (fun cdv A outer s H vs Q E hr h => ?_)
  · obtain ⟨as, os, ds, QA, EA, R, r, ⟨rfl, _⟩, _⟩ := h
    rw [r.length]
    rfl
  · refine ⟨_, (pss_cons (ps_set (i := 0) sc_l_signs.nd rfl (Or.inl rfl) pe_str)
  (pss_one (ps_ret (pe_op op_addS (pv 0) pe_str)))), read_of h fun ds os QA EA hf => ?_⟩
    obtain ⟨rfl, q⟩ := hf
    try dsimp only [cxOf, Cx.nox, Cx.wish]
    show W K _ _ _ ⟨[none], os⟩
    repeat (walk_at "b")
    refine bw_catS (by decide) (ret_same (q _ (by decide) (by decide)))
abbrev s_l_bent_text : Stmt := topS 49
abbrev N_l_bent_text : List Str := ["_law_pen", "_law_text_here", "_law_near", "_law_spot", "_law_way", "_law_signs_here", "_law_sign", "_law_ahead", "_law_behind"]
theorem sc_l_bent_text : FnScope N_l_bent_text ["_law_pen", "_law_text_here", "_law_near"] (defScope s_l_bent_text) := ⟨rfl, rfl, rfl, by decide +kernel, rfl, by decide +kernel, by decide +kernel⟩
theorem ok_l_bent_text {f f_draw f_signs : Addr} {fd fd_draw fd_signs : FuncData} (F : Fun K "_law_bent_text" "_law_bent_text" s_l_bent_text f fd) (z_len : mg "len" = none)
    (G_l_draw : FnOk P w K mg base CX0 1 f_draw fd_draw ["_law_pen", "_law_span"] (spD K fDraw)) (C_l_draw : Cal K mg "_law_draw" f_draw fd_draw ["_law_pen", "_law_span"])
    (G_l_signs : FnOk P w K mg base CX0 1 f_signs fd_signs [] (spD K fSigns)) (C_l_signs : Cal K mg "_law_signs" f_signs fd_signs []) : FnOk P w K mg base CX0 2 f fd ["_law_pen", "_law_text_here", "_law_near"] (spD K fBent) := by
  refine F.ok sc_l_bent_text (fun vs H Q E h => ?_) (fun cdv A outer s H vs Q E hr h => ?_)
  · obtain ⟨as, os, ds, QA, EA, R, r, ⟨k, text, near, cells, b, o, rfl, _⟩, _⟩ := h
    rw [r.length]
    rfl
  · refine ⟨_, (pss_cons (ps_par (i := 3) (j := 4) (by rfl) sc_l_bent_text.nd rfl rfl (by decide) rfl rfl (pa_cons (pe_call G_l_draw (hr.mono (by decide)) rfl C_l_draw.m C_l_draw.k C_l_draw.b .nil pass0 (pa_cons (pv 0) (pa_cons (pe_op op_add (pe_callB call_lenS1 (by rfl) z_len PySem.boot_len (pa_cons (pv 1) pa_nil)) pe_int) pa_nil))) (pa_cons (pe_call G_l_draw (hr.mono (by decide)) rfl C_l_draw.m C_l_draw.k C_l_draw.b .nil pass0 (pa_cons (pv 0) (pa_cons pe_int pa_nil))) pa_nil)) (by rfl))
  (pss_cons (ps_set (i := 5) sc_l_bent_text.nd rfl (Or.inl rfl) (pe_ix (r := rIxL K) ix_list (pe_lst (pa_cons (pv 2) (pa_cons (pe_call0 G_l_signs (hr.mono (by decide)) rfl C_l_signs.m C_l_signs.k C_l_signs.b .nil pass0) pa_nil))) (pe_call G_l_draw (hr.mono (by decide)) rfl C_l_draw.m C_l_draw.k C_l_draw.b .nil pass0 (pa_cons (pv 0) (pa_cons pe_int pa_nil))) (fun _ _ => rfl)))
  (pss_cons (ps_set (i := 6) sc_l_bent_text.nd rfl (Or.inl rfl) (pe_ix ix_str (pv 5) (pe_call G_l_draw (hr.mono (by decide)) rfl C_l_draw.m C_l_draw.k C_l_draw.b .nil pass0 (pa_cons (pv 0) (pa_cons (pe_callB call_lenS1 (by rfl) z_len PySem.boot_len (pa_cons (pv 5) pa_nil)) pa_nil))) (fun _ _ => rfl)))
  (pss_cons (ps_if (pt_cmpR op_lt (pv 4) pe_int (nomark _)) (pss_one (ps_ret (pe_op op_addS (pe_op op_addS (pe_slice sl_str (pv 1) po_none (po_some (pv 3))) (pv 6)) (pe_slice sl_str (pv 1) (po_some (pe_op op_add (pv 3) (pe_op op_fdivW (pv 4) pe_int))) po_none)))) pss_nil)
  (pss_cons (ps_if (pt_cmpR op_eq (pv 4) pe_int (nomark _)) (pss_one (ps_ret (pe_op op_addS (pe_slice sl_str (pv 1) po_none (po_some (pv 3))) (pe_slice sl_str (pv 1) (po_some (pe_op op_add (pv 3) pe_int)) po_none)))) pss_nil)
  (pss_cons (ps_par (i := 7) (j := 8) (by rfl) sc_l_bent_text.nd rfl rfl (by decide) rfl rfl (pa_cons (pe_slice sl_str (pv 1) po_none (po_some (pv 3))) (pa_cons (pe_slice sl_str (pv 1) (po_some (pv 3)) po_none) pa_nil)) (by rfl))
  (pss_cons (ps_if (pt_cmpR op_eq (pv 4) pe_int (nomark _)) (pss_one (ps_ret (pe_op op_addS (pe_op op_addS (pv 7) (pe_revs2 (pe_slice sl_str (pv 8) po_none (po_some pe_int)))) (pe_slice sl_str (pv 8) (po_some pe_int) po_none)))) pss_nil)
  (pss_one (ps_ret (pe_ifExp (pt_cmpR op_eq (pv 4) pe_int (nomark _)) (pv 7) (pe_op op_addS (pe_op op_addS (pv 7) (pe_slice sl_str (pv 8) po_none (po_some pe_int))) (pv 8)))))))))))), read_of h fun ds os QA EA hf => ?_⟩
    obtain ⟨k, text, near, cells, b, o, rfl, ho, hl, hn, hb, q⟩ := hf
    try dsimp only [cxOf, Cx.nox, Cx.wish]
    show W K _ _ _ ⟨[some (.o k), some (.d (.str text)), some (.d (.str near)), none, none, none, none, none, none], os⟩
    refine w_seq (w_par ?_)
    repeat (walk_at "b")
    refine cw_lenS (small_len (by omega)) ?_
    repeat (walk_at "b")
    refine ⟨_, _, _, _, _, rfl, ho, by omega, by omega, fun spot os1 s0 s1 ho1 => ?_⟩
    repeat (walk_at "b")
    refine ⟨_, _, _, _, _, rfl, ho1, by omega, by omega, fun way os2 w0 w1 ho2 => ?_⟩
    repeat (walk_at "b")
    refine ⟨_, _, rfl, ?_⟩
    dsimp only [List.set_cons_zero, List.set_cons_succ]
    refine w_cut (fun S' => ∃ (z : Str) (os3 : Os), S' = ⟨[some (.o k), some (.d (.str text)), some (.d (.str near)), some (.d (.int spot)), some (.d (.int way)), some (.d (.str z)), none, none, none], os3⟩ ∧ (0 < z.length ∧ z.length ≤ 200) ∧ Pn k cells (b + 3) o os3) ?_ ?_
    · refine w_asg ?_
      repeat (walk_at "b")
      refine ⟨rfl, fun sg sg0 sg1 => ?_⟩
      dsimp only
      repeat (walk_at "b")
      refine ⟨_, _, _, _, _, rfl, ho2, by omega, by omega, fun e os3 e0 e1 ho3 => ?_⟩
      have ho3' : Pn k cells (b + 3) o os3 := ho3.mono (by omega)
      obtain ⟨x, hx, hm⟩ := at_mem (xs := [D.str near, D.str sg]) e0 e1
      refine bw_ixL hx ?_
      simp only [List.mem_cons, List.not_mem_nil, or_false] at hm
      rcases hm with rfl | rfl
      · exact ⟨near, os3, rfl, hn, ho3'⟩
      · exact ⟨sg, os3, rfl, ⟨sg0, sg1⟩, ho3'⟩
    · rintro S' ⟨z, os3, rfl, ⟨z0, z1⟩, ho3⟩
      refine w_seq (w_asg ?_)
      repeat (walk_at "b")
      refine cw_lenS (small_len (by omega)) ?_
      repeat (walk_at "b")
      refine ⟨_, _, _, _, _, rfl, ho3, by omega, by omega, fun e os4 e0 e1 ho4 => ?_⟩
      have ho4' : Pn k cells (b + 4) o os4 := ho4.mono (by omega)
      obtain ⟨c, hc⟩ := str_at e0 e1
      refine bw_ixS (small_len (by omega)) hc ?_
      dsimp only [List.set_cons_zero, List.set_cons_succ]
      have lc : (⟨#[c]⟩ : Str).length = 1 := rfl
      have ltx : text.length ≤ sizeLine := small_len (by omega)
      repeat (walk_at "b")
      refine br_ite (fun h4 => ?_) (fun h4 => ?_)
      · repeat (walk_at "b")
        refine sw_S ltx ?_
        have k1 := cutS_length text none (some spot)
        repeat (walk_at "b")
        refine bw_catS (small_len (by omega)) ?_
        repeat (walk_at "b")
        refine sw_S ltx ?_
        refine bw_catS (small_len ?_) (ho.ret ho4' (q _ _ ?_ ho4'))
        · rw [app_len]
          have k2 := cutS_length text (some (spot + way / 2)) none
          omega
        · rw [app_len, app_len]
          have k2 := cutS_length text (some (spot + way / 2)) none
          omega
      · repeat (walk_at "b")
        refine br_ite (fun h5 => ?_) (fun h5 => ?_)
        · repeat (walk_at "b")
          refine sw_S ltx ?_
          have k1 := cutS_length text none (some spot)
          repeat (walk_at "b")
          refine sw_S ltx ?_
          have k2 := cutS_length text (some (spot + 1)) none
          refine bw_catS (small_len (by omega)) (ho.ret ho4' (q _ _ ?_ ho4'))
          rw [app_len]
          omega
        · refine w_next ?_
          refine w_seq (w_par ?_)
          refine aw_cons ?_
          repeat (walk_at "b")
          refine sw_S ltx ?_
          have k1 := cutS_length text none (some spot)
          refine aw_cons ?_
          repeat (walk_at "b")
          refine sw_S ltx ?_
          have k2 := cutS_length text (some spot) none
          generalize cutS text none (some spot) = u1 at k1 ⊢
          generalize cutS text (some spot) none = u2 at k2 ⊢
          refine aw_nil ⟨_, _, rfl, ?_⟩
          dsimp only [List.set_cons_zero, List.set_cons_succ]
          repeat (walk_at "b")
          refine br_ite (fun h6 => ?_) (fun h6 => ?_)
          · repeat (walk_at "b")
            refine ew_revs2 ?_
            repeat (walk_at "b")
            refine sw_S (z := u2) (small_len (by omega)) ?_
            have k3 := cutS_length u2 none (some 2)
            refine ⟨_, rfl, small_len (by omega), fun y hy _ => ?_⟩
            refine bw_catS (small_len (by omega)) ?_
            repeat (walk_at "b")
            refine sw_S (small_len (by omega)) ?_
            have k4 := cutS_length u2 (some 2) none
            refine bw_catS (small_len ?_) (ho.ret ho4' (q _ _ ?_ ho4'))
            · rw [app_len]
              omega
            · rw [app_len, app_len]
              omega
          · repeat (walk_at "b")
            refine br_ite (fun h7 => ?_) (fun h7 => ?_)
            · repeat (walk_at "b")
              exact ho.ret ho4' (q _ _ (by omega) ho4')
            · repeat (walk_at "b")
              refine sw_S (small_len (by omega)) ?_
              have k3 := cutS_length u2 none (some 1)
              refine bw_catS (small_len (by omega)) ?_
              repeat (walk_at "b")
              refine bw_catS (small_len ?_) (ho.ret ho4' (q _ _ ?_ ho4'))
              · rw [app_len]
                omega
              · rw [app_len, app_len]
                omega
abbrev s_l_text : Stmt := topS 50
abbrev N_l_text : List Str := ["_law_word", "_law_one"]
theorem sc_l_text : FnScope N_l_text ["_law_word"] (defScope s_l_text) := ⟨rfl, rfl, rfl, by decide +kernel, rfl, by decide +kernel, by decide +kernel⟩
theorem ok_l_text {f : Addr} {fd : FuncData} (F : Fun K "_law_text" "_law_text" s_l_text f fd) (z_list : mg "list" = none) (z_str : mg "str" = none) : FnOk P w K mg base CX0 1 f fd ["_law_word"] (spD K fShow) := by
  refine F.ok sc_l_text (fun vs H Q E h => ?_) (fun cdv A outer s H vs Q E hr h => ?_)
  · obtain ⟨as, os, ds, QA, EA, R, r, ⟨z, x, n, rfl, _⟩, _⟩ := h
    rw [r.length]
    rfl
  · refine ⟨_, (pss_one (ps_ret (pe_join pe_str (pe_op op_catL (pe_op op_catL (pe_lst (pa_cons (pe_ix (r := rIxT K) ix_tup (pv 0) pe_int (fun _ _ => rfl)) pa_nil)) (pe_callTy (call_listS rfl) (by rfl) z_list (by decide +kernel) (pa_cons (pe_ix (r := rIxT K) ix_tup (pv 0) pe_int (fun _ _ => rfl)) pa_nil))) (pe_lc (own := [("_law_one", 1)]) (g := (gName 1)) rfl sc_l_text.nd (pi_tup (pe_slice (r := rSlA K) sl_tupA (pv 0) (po_some pe_int) po_none)) (blkOk_by (own := [("_law_one", 1)]) (N := N_l_text) (sc := defScope s_l_text) (by decide +kernel)) (fun _ _ _ _ _ => (pg_name (i := 1) sc_l_text.nd rfl (Or.inl rfl))) (fun _ _ _ _ _ => (pts_one (pt_cmpR op_notN1 (pv 1) pe_non (nomark _)))) (fun _ _ _ _ _ => (pe_callTy call_str_int (by rfl) z_str (by decide +kernel) (pa_cons (pv 1) pa_nil)))))))), read_of h fun ds os QA EA hf => ?_⟩
    obtain ⟨z, r, n, rfl, hz, hr, hn, q⟩ := hf
    try dsimp only [cxOf, Cx.nox, Cx.wish]
    show W K _ _ _ ⟨[some (.d (.tup [.str z, .str r, numD n])), none], os⟩
    have hr8 : r.length ≤ sizeLine := by rw [sizeLine_eq]; omega
    refine w_ret (ew_join ?_)
    repeat (walk_at "b")
    refine cw_listS hr8 ?_
    repeat (walk_at "b")
    refine bw_catL (by rw [List.length_map, sgn_len, sizeLine_eq]; simp; omega) ?_
    have es : ∀ ys : List Str, [D.str z] ++ (sgn r).map D.str ++ ys.map D.str = (z :: (sgn r ++ ys)).map D.str := fun ys => by simp
    have hns : (numS n).length ≤ 1 ∧ ∀ y ∈ numS n, y.length ≤ 1921 := by
      cases n with
      | none => exact ⟨Nat.zero_le _, fun y hy => by cases hy⟩
      | some m => exact ⟨Nat.le_refl 1, fun y hy => by rw [List.mem_singleton.mp hy]; exact len_int (M := 1000000) (hn m rfl) (by decide +kernel)⟩
    have sm : ((z :: (sgn r ++ numS n)).map (·.length)).sum + (z :: (sgn r ++ numS n)).length * (" " : Str).length ≤ 16777216 := by
      have e1 : (" " : Str).length = 1 := rfl
      rw [List.map_cons, List.sum_cons, List.map_append, List.sum_append, sgn_sum, List.length_cons, List.length_append, sgn_len, e1]
      have h1 := sum_le hns.2
      have h2 : (numS n).length * 1921 ≤ 1 * 1921 := Nat.mul_le_mul_right _ hns.1
      omega
    refine ew_lc (wg_name (by decide)) mg_name ?_
    refine iw_tup ?_
    repeat (walk_at "b")
    refine sw_T ?_
    have ec : Br.cutD [D.str z, .str r, numD n] (some 2) none = [numD n] := rfl
    rw [ec]
    refine ⟨_, rfl, ?_⟩
    refine ⟨fun i acc os2 => os2 = os ∧ acc = ((numS n).take i).map D.str, ⟨rfl, rfl⟩, ?_, ?_⟩
    · rintro i d acc os2 hd ⟨rfl, rfl⟩
      have hi : i = 0 ∧ d = numD n := by
        cases i with
        | zero => exact ⟨rfl, (Option.some.inj hd).symm⟩
        | succ j => cases hd
      obtain ⟨rfl, rfl⟩ := hi
      refine gw_name ?_
      show TW K X0 _ ⟨[some (.d (.tup [.str z, .str r, numD n])), some (.d (numD n))], _⟩ _
      repeat (walk_at "b")
      refine bw_notNx ⟨_, rfl, ?_⟩
      cases n with
      | none =>
        refine br_F ?_
        exact ⟨_, rfl, rfl, rfl⟩
      | some m =>
        refine br_T ?_
        repeat (walk_at "b")
        refine cw_strI (log_of (M := 1000000) (hn m rfl) (by decide +kernel)) ?_
        exact ⟨_, _, rfl, rfl, by show 0 < sizeLine; decide, rfl, rfl⟩
    · rintro acc os2 ⟨rfl, rfl⟩
      have e2 : (numS n).take ([numD n].length) = numS n := List.take_of_length_le hns.1
      rw [e2]
      refine bw_catL (by rw [List.length_append, List.length_map, List.length_map, sgn_len, sizeLine_eq]; simp; omega) ?_
      rw [es]
      exact ⟨_, rfl, sm, ret_same q⟩
def fReadL : FD := fun ds os QA _ => ∃ d, ds = [.d d] ∧ ((∃ z : Str, d = .str z ∧ z.length ≤ 20000 ∧ (∀ e r n, rd z = some (e, r, n) → QA (.tup [.str e.1, .str r, numD n]) os) ∧ (rd z = none → QA .non os)) ∨ (∃ a, d.ty = some a ∧ kitB a "str" = some false ∧ QA .non os))
abbrev s_l_read : Stmt := topS 51
abbrev N_l_read : List Str := ["_law_thing", "_law_kept", "_law_found", "e"]
theorem sc_l_read : FnScope N_l_read ["_law_thing"] (defScope s_l_read) := ⟨rfl, rfl, rfl, by decide +kernel, rfl, by decide +kernel, by decide +kernel⟩
theorem ok_l_read {M f a1 : Addr} {fd d1 : FuncData} (F : Fun K "_law_read" "_law_read" s_l_read f fd) (z_isinstance : mg "isinstance" = none) (z_bool : mg "bool" = none) (m_NoWord : mg "NoWord" = some (.ref M)) (KC : Kex K M "at")
    (G_read_word : FnOk P w K mg base (CX P w) 5 a1 d1 ["text"] (spD K (fRead M))) (C_read_word : Cal K mg "read_word" a1 d1 ["text"]) : FnOk P w K mg base CX0 6 f fd ["_law_thing"] (spD K fReadL) := by
  refine F.ok sc_l_read (fun vs H Q E h => ?_) (fun cdv A outer s H vs Q E hr h => ?_)
  · obtain ⟨as, os, ds, QA, EA, R, r, ⟨d, rfl, _⟩, _⟩ := h
    rw [r.length]
    rfl
  · refine ⟨_, (pss_cons (ps_set (i := 1) sc_l_read.nd rfl (Or.inl rfl) pe_non)
  (pss_cons (ps_try_keep (i := 3) (j := 1) (c := .ref M) rfl rfl sc_l_read.nd rfl rfl rfl rfl rfl ⟨rfl, rfl, .inl m_NoWord⟩ rfl
    (fun Wx pn xe tk _ => (pss_one (ps_set (i := 2) sc_l_read.nd rfl (Or.inl rfl) (pe_callS G_read_word (hr.mono (by decide)) rfl C_read_word.m C_read_word.k C_read_word.b (fun σ => passAt tk σ) (pa_cons (pv 0) pa_nil))))))
  (pss_cons (ps_if (pt_cmpR op_isN1 (pv 1) pe_non (nomark _)) (pss_one (ps_ret (pv 2))) pss_nil)
  (pss_one (ps_ret (pe_ifExp (PW.pt (pw_and (pt_cmpR op_eq (pe_xk KC.T KC.at_ (pv 1)) pe_int (nomark _)) (pw_and1 (pt_not (pt_val (pe_callB call_isi (by rfl) z_isinstance (by decide +kernel) (pa_cons (pe_xk KC.T KC.at_ (pv 1)) (pa_cons (pe_bltn (v := .ty "bool") (by rfl) z_bool boot_bool rfl) pa_nil)))))))) pe_non pe_str)))))), read_of h fun ds os QA EA hf => ?_⟩
    obtain ⟨d, rfl, hf⟩ := hf
    try dsimp only [cxOf, Cx.nox, Cx.wish]
    show W K _ _ _ ⟨[some (.d d), none, none, none], os⟩
    refine w_seq (w_asg (ew_non ?_))
    dsimp only [List.set_cons_zero, List.set_cons_succ]
    refine w_cut (fun S' => (∃ z : D, S' = ⟨[some (.d d), some (.d .non), some (.d z), none], os⟩ ∧ QA z os) ∨ (S' = ⟨[some (.d d), some (.d (.xo M [("at", .int 0)])), none, none], os⟩ ∧ QA .non os)) ?_ ?_
    · refine w_try_keep (tb := fun W => tAsg (tCallS (spD K (fRead M)) (WE W) (tCons (tVar 0) tNil)) (gName 2)) (xe := fun C' fds S' => C' = M ∧ fds = ([("at", .int 0)] : List (Str × D)) ∧ S' = ⟨[some (.d d), some (.d .non), none, none], os⟩ ∧ QA .non os) (by show 3 < 4; decide) (fun wx => ?_) ?_
      · refine w_asg (ew_callS ?_)
        repeat (walk_at "b")
        rcases hf with ⟨z, rfl, hl, q1, q2⟩ | ⟨a, ea, eb, q⟩
        · refine ⟨_, rfl, .inl ⟨z, rfl, hl, fun e r n h => .inl ⟨_, rfl, q1 e r n h⟩, fun h => ⟨rfl, rfl, rfl, q2 h⟩⟩⟩
        · exact ⟨_, rfl, .inr ⟨a, ea, eb, rfl, rfl, rfl, q⟩⟩
      · rintro C' fds S' ⟨rfl, rfl, rfl, q⟩
        exact ⟨KC.xm, (by show 3 < 4; decide), .inr ⟨rfl, q⟩⟩
    · rintro S' (⟨z, rfl, q⟩ | ⟨rfl, q⟩)
      · repeat (walk_at "b")
        refine bw_isN0 ⟨_, rfl, ?_⟩
        repeat (walk_at "b")
        exact ret_same q
      · repeat (walk_at "b")
        refine bw_isN1 ⟨_, rfl, ?_⟩
        repeat (walk_at "b")
        refine ew_xk (ew_var rfl ⟨_, D.int 0, rfl, rfl, ?_⟩)
        repeat (walk_at "b")
        refine br_ite (fun _ => ?_) (fun h => absurd rfl h)
        repeat (walk_at "b")
        refine ew_xk (ew_var rfl ⟨_, D.int 0, rfl, rfl, ?_⟩)
        refine ⟨_, "int", false, rfl, rfl, (by decide +kernel), ?_⟩
        refine ⟨_, rfl, br_nF ?_⟩
        repeat (walk_at "b")
        exact ret_same q
def fNumbers : FD := fun ds os QA _ => ∃ (k : Nat) (z : Str) (cells : List Int) (b : Int) (o : Os), ds = [.o k, .d (.str z)] ∧ Pn k cells b o os ∧ z.length ≤ 3000 ∧ b < 2 ^ 36 ∧ ∀ (y : Str) (os' : Os), y.length ≤ 9000 → Pn k cells (b + 1) o os' → QA (.str y) os'
abbrev s_l_numbers : Stmt := topS 52
abbrev N_l_numbers : List Str := ["_law_pen", "_law_text_here"]
theorem sc_l_numbers : FnScope N_l_numbers ["_law_pen", "_law_text_here"] (defScope s_l_numbers) := ⟨rfl, rfl, rfl, by decide +kernel, rfl, by decide +kernel, by decide +kernel⟩
theorem ok_l_numbers {f a1 : Addr} {fd d1 : FuncData} (F : Fun K "_law_numbers" "_law_numbers" s_l_numbers f fd)
    (G_l_pick : FnOk P w K mg base CX0 2 a1 d1 ["_law_pen", "_law_some"] (spD K fPickU)) (C_l_pick : Cal K mg "_law_pick" a1 d1 ["_law_pen", "_law_some"]) : FnOk P w K mg base CX0 3 f fd ["_law_pen", "_law_text_here"] (spD K fNumbers) := by
  refine F.ok sc_l_numbers (fun vs H Q E h => ?_) (fun cdv A outer s H vs Q E hr h => ?_)
  · obtain ⟨as, os, ds, QA, EA, R, r, ⟨k, z, cells, b, o, rfl, _⟩, _⟩ := h
    rw [r.length]
    rfl
  · refine ⟨_, (pss_one (ps_ret (pe_op op_addS (pv 1) (pe_call G_l_pick (hr.mono (by decide)) rfl C_l_pick.m C_l_pick.k C_l_pick.b .nil pass0 (pa_cons (pv 0) (pa_cons (pe_lst (pa_cons pe_str (pa_cons pe_str (pa_cons pe_str (pa_cons pe_str (pa_cons pe_str (pa_cons pe_str (pa_cons pe_str (pa_cons pe_str (pa_cons pe_str (pa_cons pe_str (pa_cons pe_str (pa_cons pe_str (pa_cons pe_str (pa_cons pe_str (pa_cons pe_str (pa_cons (pe_op op_addS pe_str (pe_op op_mulS pe_str pe_int)) (pa_cons pe_str (pa_cons pe_str (pa_cons (pe_op op_addS pe_str (pe_op op_mulS pe_str pe_int)) pa_nil)))))))))))))))))))) pa_nil)))))), read_of h fun ds os QA EA hf => ?_⟩
    obtain ⟨k, z, cells, b, o, rfl, ho, hl, hb, q⟩ := hf
    try dsimp only [cxOf, Cx.nox, Cx.wish]
    show W K _ _ _ ⟨[some (.o k), some (.d (.str z))], os⟩
    repeat (walk_at "b")
    have hm := mul_4400.2
    refine bw_mulS mul_4400.1 ?_
    generalize Txt.mul "0" 4400 = m at hm ⊢
    refine bw_catS (by rw [hm]; decide) ?_
    repeat (walk_at "b")
    have hm2 := mul_4400.2
    refine bw_mulS mul_4400.1 ?_
    generalize Txt.mul "0" 4400 = m2 at hm2 ⊢
    refine bw_catS (by rw [hm2]; decide) ?_
    refine aw_nil ⟨_, rfl, by show 19 ≤ sizeLine; decide, aw_nil (.inl ⟨k, _, cells, b, o, rfl, ho, ⟨by show 0 < 19; decide, by show 19 ≤ 1000; decide⟩, by omega, fun d os' hd ho' => ?_⟩)⟩
    have fin : ∀ y : Str, y.length ≤ 5000 → BW K rCatS (.d (.str z)) (.d (.str y)) os' (RetOk os.length QA) := fun y hy =>
      bw_catS (small_len (by omega)) (ho.ret ho' (q _ _ (by rw [app_len]; omega) ho'))
    simp only [List.mem_cons, List.not_mem_nil, or_false] at hd
    rcases hd with rfl | rfl | rfl | rfl | rfl | rfl | rfl | rfl | rfl | rfl | rfl | rfl | rfl | rfl | rfl | rfl | rfl | rfl | rfl
    all_goals first
      | exact fin _ (by decide +kernel)
      | exact fin _ (by rw [app_len, hm]; decide +kernel)
      | exact fin _ (by rw [app_len, hm2]; decide +kernel)
def fRight : FD := fun ds os QA _ => ∃ d, ds = [.d d] ∧ ((∃ z : Str, d = .str z ∧ z.length ≤ 20000) ∨ (∃ a, d.ty = some a ∧ kitB a "str" = some false)) ∧ QA (.bl true) os
abbrev s_l_right : Stmt := topS 53
abbrev N_l_right : List Str := ["_law_thing", "_law_found"]
theorem sc_l_right : FnScope N_l_right ["_law_thing"] (defScope s_l_right) := ⟨rfl, rfl, rfl, by decide +kernel, rfl, by decide +kernel, by decide +kernel⟩
theorem ok_l_right {f a1 a2 a3 a4 : Addr} {fd d1 d2 d3 d4 : FuncData} (F : Fun K "_law_right" "_law_right" s_l_right f fd) (z_isinstance : mg "isinstance" = none) (z_str : mg "str" = none)
    (G_l_read : FnOk P w K mg base CX0 6 a1 d1 ["_law_thing"] (spD K fReadL)) (C_l_read : Cal K mg "_law_read" a1 d1 ["_law_thing"])
    (G_is_word : FnOk P w K mg base CX0 4 a2 d2 ["thing"] (spD K fIsW)) (C_is_word : Cal K mg "is_word" a2 d2 ["thing"])
    (G_l_text : FnOk P w K mg base CX0 1 a3 d3 ["_law_word"] (spD K fShow)) (C_l_text : Cal K mg "_law_text" a3 d3 ["_law_word"])
    (G_show_word : FnOk P w K mg base CX0 1 a4 d4 ["word"] (spD K fShow)) (C_show_word : Cal K mg "show_word" a4 d4 ["word"]) : FnOk P w K mg base CX0 7 f fd ["_law_thing"] (spD K fRight) := by
  refine F.ok sc_l_right (fun vs H Q E h => ?_) (fun cdv A outer s H vs Q E hr h => ?_)
  · obtain ⟨as, os, ds, QA, EA, R, r, ⟨d, rfl, _⟩, _⟩ := h
    rw [r.length]
    rfl
  · refine ⟨_, (pss_cons (ps_set (i := 1) sc_l_right.nd rfl (Or.inl rfl) (pe_call G_l_read (hr.mono (by decide)) rfl C_l_read.m C_l_read.k C_l_read.b .nil pass0 (pa_cons (pv 0) pa_nil)))
  (pss_cons (ps_if (pt_cmpR op_isN1 (pv 1) pe_non (nomark _)) (pss_one (ps_ret pe_bl)) pss_nil)
  (pss_one (ps_ret (pe_and (pe_call G_is_word (hr.mono (by decide)) rfl C_is_word.m C_is_word.k C_is_word.b .nil pass0 (pa_cons (pv 1) pa_nil)) (pe_and (pe_callB call_isi (by rfl) z_isinstance (by decide +kernel) (pa_cons (pv 0) (pa_cons (pe_bltn (v := .ty "str") (by rfl) z_str boot_str rfl) pa_nil))) (pe_and (pe_cmpR op_eq (pe_call G_l_text (hr.mono (by decide)) rfl C_l_text.m C_l_text.k C_l_text.b .nil pass0 (pa_cons (pv 1) pa_nil)) (pv 0) (nomark _)) (pe_one (pe_cmpR op_eq (pe_call G_show_word (hr.mono (by decide)) rfl C_show_word.m C_show_word.k C_show_word.b .nil pass0 (pa_cons (pv 1) pa_nil)) (pv 0) (nomark _)))))))))), read_of h fun ds os QA EA hf => ?_⟩
    obtain ⟨d, rfl, hd, q⟩ := hf
    try dsimp only [cxOf, Cx.nox, Cx.wish]
    show W K _ _ _ ⟨[some (.d d), none], os⟩
    repeat (walk_at "b")
    refine ⟨d, rfl, ?_⟩
    rcases hd with ⟨z, rfl, hl⟩ | ⟨a, ea, eb⟩
    · refine .inl ⟨z, rfl, hl, fun e r n h => ?_, fun h => ?_⟩
      · obtain ⟨he, hw, hz⟩ := rd_ok h
        have hr := rd_len h hl
        have hn := rd_num h
        have hel := (word_free e he).2.1
        repeat (walk_at "b")
        refine bw_isNT ⟨_, rfl, br_F ?_⟩
        repeat (walk_at "b")
        refine ⟨e, r, n, rfl, he, by omega, ?_⟩
        rw [hw]
        refine ⟨_, rfl, br_T ?_⟩
        repeat (walk_at "b")
        refine ⟨_, "str", true, rfl, rfl, (by decide +kernel), _, rfl, br_T ?_⟩
        repeat (walk_at "b")
        refine ⟨_, r, n, rfl, by omega, by omega, hn, ?_⟩
        rw [hz]
        repeat (walk_at "b")
        refine bw_eqS ⟨_, rfl, ?_⟩
        rw [decide_eq_true rfl]
        refine br_T ?_
        repeat (walk_at "b")
        refine ⟨_, r, n, rfl, by omega, by omega, hn, ?_⟩
        rw [hz]
        repeat (walk_at "b")
        refine bw_eqS ?_
        rw [decide_eq_true rfl]
        exact ret_same q
      · repeat (walk_at "b")
        refine bw_isNN ⟨_, rfl, br_T ?_⟩
        repeat (walk_at "b")
        exact ret_same q
    · refine .inr ⟨a, ea, eb, ?_⟩
      repeat (walk_at "b")
      refine bw_isNN ⟨_, rfl, br_T ?_⟩
      repeat (walk_at "b")
      exact ret_same q
end

open PySem PySem.Spec PyProof.Rows L2 Br
theorem fst_ok : ∀ e ∈ mst, ∀ far < spn e, 0 ≤ e.2.1 + (far : Int) ∧ e.2.1 + (far : Int) < 256 := by decide +kernel
theorem rowW_ok {e : En} {far : Nat} {n : Option Int} (h : Wd e far n) : isR (rowW e far n) ∧ (rowW e far n).length ≤ 3 := by
  have h1 := fst_ok e h.m far h.l
  obtain ⟨_, hfl⟩ := in_pats e h.m
  have h2 : isR (tailW e.2.2.2 n) ∧ (tailW e.2.2.2 n).length ≤ 2 := by
    unfold tailW
    cases n with
    | none => exact ⟨fun x hx => (by cases hx), Nat.zero_le _⟩
    | some n =>
      rcases fld_some hfl h.n with ⟨r, a, b, _⟩ | ⟨r, _, a, b, _⟩
      · rw [r]
        refine ⟨fun x hx => ?_, by show 1 ≤ 2; decide⟩
        have : x = n % 256 := List.mem_singleton.mp hx
        omega
      · rw [r]
        refine ⟨fun x hx => ?_, by show 2 ≤ 2; decide⟩
        have h3 : x = n / 256 ∨ x = n % 256 := by
          have h4 : x ∈ [n / 256, n % 256] := hx
          simpa using h4
        omega
  refine ⟨fun x hx => ?_, by show (tailW e.2.2.2 n).length + 1 ≤ 3; omega⟩
  rcases List.mem_cons.mp hx with rfl | hx
  · exact h1
  · exact h2.1 x hx
theorem isR_app {a b : List Int} (h : isR a) (g : isR b) : isR (a ++ b) := fun x hx => (List.mem_append.mp hx).elim (h x) (g x)
theorem isR_take {a : List Int} (h : isR a) (n : Nat) : isR (a.take n) := fun x hx => h x (List.mem_of_mem_take hx)
theorem isR_drop {a : List Int} (h : isR a) (n : Nat) : isR (a.drop n) := fun x hx => h x (List.mem_of_mem_drop hx)
theorem isR_one {x : Int} (h0 : 0 ≤ x) (h1 : x < 256) : isR [x] := fun y hy => by
  rw [List.mem_singleton.mp hy]
  exact ⟨h0, h1⟩
theorem hd_word0 : ∀ e ∈ mst, ∀ far < spn e, (match Pa.hd (e.2.1 + (far : Nat)) with | some ef => decide (ef.1 = e) && decide (ef.2 = far) | none => false) = true := by decide +kernel
theorem hd_word {e : En} (he : e ∈ mst) {far : Nat} (hf : far < spn e) : Pa.hd (e.2.1 + (far : Nat)) = some (e, far) := by
  have h := hd_word0 e he far hf
  cases hh : Pa.hd (e.2.1 + (far : Nat)) with
  | none =>
    rw [hh] at h
    cases h
  | some ef =>
    rw [hh] at h
    obtain ⟨h1, h2⟩ := Bool.and_eq_true_iff.mp h
    rw [← of_decide_eq_true h1, ← of_decide_eq_true h2]
theorem tail_len {f : Option Str} (h : f ∈ flds) {n : Option Int} (hn : numOk f n) : (tailW f n).length = roomOf f := by
  cases n with
  | none =>
    cases f with
    | none => rfl
    | some f => exact absurd hn id
  | some n =>
    unfold tailW
    rcases fld_some h hn with ⟨r, _⟩ | ⟨r, _⟩
    · rw [r]; rfl
    · rw [r]; rfl
theorem row_len {e : En} {far : Nat} {n : Option Int} (h : Wd e far n) : (rowW e far n).length = 1 + roomOf e.2.2.2 := by
  show (tailW e.2.2.2 n).length + 1 = _
  rw [tail_len (in_pats e h.m).2 h.n, Nat.add_comm]
theorem getD_drop {row : List Int} {p k : Nat} : row.getD (p + k) 0 = (row.drop p).getD k 0 := by
  rw [List.getD_eq_getElem?_getD, List.getD_eq_getElem?_getD, List.getElem?_drop]
theorem num_read {e : En} {far : Nat} {n : Option Int} (h : Wd e far n) {row rest : List Int} {p : Nat} (hd : row.drop p = rowW e far n ++ rest) : numA e.2.2.2 row p = n := by
  have hfl := (in_pats e h.m).2
  have hn := h.n
  unfold numA
  cases n with
  | none =>
    have e0 : roomOf e.2.2.2 = 0 := by
      cases hf : e.2.2.2 with
      | none => rfl
      | some f => rw [hf] at hn; exact absurd hn id
    rw [e0, if_pos rfl]
  | some m =>
    have d1 : row.getD (p + 1) 0 = (tailW e.2.2.2 (some m) ++ rest).getD 0 0 := by rw [getD_drop, hd]; rfl
    have d2 : row.getD (p + 2) 0 = (tailW e.2.2.2 (some m) ++ rest).getD 1 0 := by rw [getD_drop, hd]; rfl
    unfold numV
    unfold tailW at d1 d2
    rcases fld_some hfl hn with ⟨r, h1, h2, h3⟩ | ⟨r, h1, h2, h3, _⟩
    · rw [r] at d1 d2 ⊢
      have d1 : row.getD (p + 1) 0 = m % 256 := d1
      rw [if_neg (by decide), if_pos rfl, d1]
      rcases h3 with ⟨h3, h4⟩ | ⟨h3, h4, _⟩
      · rw [h3, if_neg (by omega)]
        congr 1
        omega
      · rw [h3]
        by_cases h5 : 0 ≤ m
        · rw [if_neg (by omega)]
          congr 1
          omega
        · rw [if_pos (by omega)]
          congr 1
          omega
    · rw [r] at d1 d2 ⊢
      have d1 : row.getD (p + 1) 0 = m / 256 := d1
      have d2 : row.getD (p + 2) 0 = m % 256 := d2
      rw [if_neg (show ¬ (2 : Nat) = 0 by decide), if_neg (show ¬ (2 : Nat) = 1 by decide), d1, d2, h1, if_neg (by omega)]
      congr 1
      omega
theorem due_word {e : En} {far : Nat} {n : Option Int} (h : Wd e far n) {row rest : List Int} {p : Nat} (hd : row.drop p = rowW e far n ++ rest) : dueW row p = .inl (wordD e far n, p + (rowW e far n).length) := by
  have hl : p + (rowW e far n).length ≤ row.length := by
    have e1 : (row.drop p).length = (rowW e far n).length + rest.length := by rw [hd, List.length_append]
    rw [List.length_drop, row_len h] at e1
    rw [row_len h]
    omega
  have h0 : row[p]? = some (e.2.1 + (far : Nat)) := by
    have : (row.drop p)[0]? = some (e.2.1 + (far : Nat)) := by rw [hd]; rfl
    rw [List.getElem?_drop] at this
    exact this
  unfold dueW
  rw [h0]
  dsimp only
  rw [hd_word h.m h.l]
  dsimp only
  rw [row_len h] at hl ⊢
  rw [if_neg (by omega), num_read h hd, Nat.add_assoc]
/-- words as they are drawn -/
abbrev W3 := En × Nat × Option Int
def W3.ok (x : W3) : Prop := Wd x.1 x.2.1 x.2.2
abbrev W3.d (x : W3) : D := wordD x.1 x.2.1 x.2.2
abbrev W3.r (x : W3) : List Int := rowW x.1 x.2.1 x.2.2
def rowL (ws : List W3) : List Int := ws.flatMap W3.r
def dueL : List W3 → Nat → List D
  | [], _ => []
  | x :: ws, p => .tup [.int (p : Nat), x.d] :: dueL ws (p + x.r.length)
theorem rowL_ok {ws : List W3} (h : ∀ x ∈ ws, x.ok) : isR (rowL ws) ∧ (rowL ws).length ≤ 3 * ws.length := by
  induction ws with
  | nil => exact ⟨fun x hx => (by cases hx), Nat.le_refl _⟩
  | cons x r ih =>
    obtain ⟨h1, h2⟩ := ih fun y hy => h y (List.mem_cons_of_mem _ hy)
    obtain ⟨h3, h4⟩ := rowW_ok (h x (List.mem_cons_self ..))
    refine ⟨isR_app h3 h1, ?_⟩
    show (x.r ++ rowL r).length ≤ _
    rw [List.length_append, List.length_cons]
    have h4 : x.r.length ≤ 3 := h4
    omega
theorem rowL_app {ws us : List W3} : rowL (ws ++ us) = rowL ws ++ rowL us := by
  unfold rowL
  rw [List.flatMap_append]
theorem dueL_len {ws : List W3} : ∀ {p : Nat}, (dueL ws p).length = ws.length := by
  induction ws with
  | nil => intro p; rfl
  | cons x r ih => intro p; show (dueL r _).length + 1 = _; rw [ih]; rfl
theorem dueL_app {us : List W3} : ∀ {ws : List W3} {p : Nat}, dueL (ws ++ us) p = dueL ws p ++ dueL us (p + (rowL ws).length)
  | [], p => rfl
  | x :: r, p => by
    show _ :: dueL (r ++ us) _ = _ :: (dueL r _ ++ _)
    rw [dueL_app]
    have e : p + x.r.length + (rowL r).length = p + (rowL (x :: r)).length := by
      show _ = p + (x.r ++ rowL r).length
      rw [List.length_append]
      omega
    rw [e]
theorem dueL_at {ws : List W3} : ∀ {p i : Nat} {d : D}, (dueL ws p)[i]? = some d → ∃ x, ws[i]? = some x ∧ d = .tup [.int ((p + (rowL (ws.take i)).length : Nat) : Int), x.d] := by
  induction ws with
  | nil => intro p i d h; cases h
  | cons x r ih =>
    intro p i d h
    cases i with
    | zero =>
      refine ⟨x, rfl, ?_⟩
      have h : some (D.tup [.int (p : Nat), x.d]) = some d := h
      cases h
      rfl
    | succ i =>
      obtain ⟨y, hy, rfl⟩ := ih (p := p + x.r.length) (i := i) h
      refine ⟨y, hy, ?_⟩
      have e : p + x.r.length + (rowL (r.take i)).length = p + (rowL ((x :: r).take (i + 1))).length := by
        show _ = p + (x.r ++ rowL (r.take i)).length
        rw [List.length_append]
        omega
      rw [e]
theorem all_words {row : List Int} : ∀ {ws : List W3} {p : Nat} {acc : List D}, (∀ x ∈ ws, x.ok) → row.drop p = rowL ws → p ≤ row.length → allF row (row.length + 1 - p) p acc = .inl (acc ++ dueL ws p)
  | [], p, acc, _, hd, hp => by
    have e : (row.drop p).length = 0 := by rw [hd]; rfl
    rw [List.length_drop] at e
    rw [all_end (by omega)]
    show _ = Sum.inl (acc ++ [])
    rw [List.append_nil]
  | x :: ws, p, acc, h, hd, hp => by
    have hx := h x (List.mem_cons_self ..)
    have hd2 : row.drop p = x.r ++ rowL ws := hd
    have hdue := due_word hx hd2
    have el : (row.drop p).length = x.r.length + (rowL ws).length := by rw [hd2, List.length_append]
    have e1 : x.r.length = 1 + roomOf x.1.2.2.2 := row_len hx
    rw [List.length_drop] at el
    rw [all_step (by omega) hdue]
    have e2 : row.drop (p + x.r.length) = rowL ws := by
      rw [← List.drop_drop, hd2, List.drop_left' rfl]
    have := all_words (ws := ws) (p := p + x.r.length) (acc := acc ++ [.tup [.int (p : Nat), x.d]]) (fun y hy => h y (List.mem_cons_of_mem _ hy)) e2 (by omega)
    refine this.trans ?_
    rw [List.append_assoc]
    rfl
theorem all_is {ws : List W3} (h : ∀ x ∈ ws, x.ok) : allW (rowL ws) = .inl (dueL ws 0) := by
  have := all_words (row := rowL ws) (ws := ws) (p := 0) (acc := []) h rfl (Nat.zero_le _)
  exact this
theorem due_at {ws : List W3} (h : ∀ x ∈ ws, x.ok) {i : Nat} {x : W3} (hx : ws[i]? = some x) (ahead : List Int) : dueW (ahead ++ rowL ws) (ahead.length + (rowL (ws.take i)).length) = .inl (x.d, ahead.length + (rowL (ws.take i)).length + x.r.length) := by
  have hi := (List.getElem?_eq_some_iff.mp hx).1
  have ex : ws[i] = x := (List.getElem?_eq_some_iff.mp hx).2
  refine due_word (h x (List.mem_of_getElem? hx)) (rest := rowL (ws.drop (i + 1))) ?_
  have e : ws = ws.take i ++ (x :: ws.drop (i + 1)) := by rw [← ex, List.getElem_cons_drop, List.take_append_drop]
  have e2 : rowL ws = rowL (ws.take i) ++ (x.r ++ rowL (ws.drop (i + 1))) := by
    have := congrArg rowL e
    rw [rowL_app] at this
    exact this
  rw [← List.drop_drop, List.drop_left' rfl, e2, List.drop_left' rfl]

open PySem PySem.Spec PyProof.Rows L2 Br
theorem okG {P : Program} {w : World} {K : PySem.W.Frag} {mg : Str → Option Value} {base : Heap} {x qual : Str} {st : Stmt} {f : Addr} {fd : FuncData} {N ps : List Str} {k : Nat} {sp : Sp} (F : Fun K x qual st f fd) (S : FnScope N ps (defScope st)) (len : ∀ vs H Q E, sp vs H Q E → vs.length = ps.length)
    (body : ∀ (cdv : Value) (A : Around) (outer : List Env) (s : Shared) (H : Hp) (vs : List V) (Q : VK) (E : XK), (A.deeper (envOfC qual (defScope st) s.heap.objs.size f cdv)).guards = some [] → Room k (A.deeper (envOfC qual (defScope st) s.heap.objs.size f cdv)) → sp vs H Q E →
      ∃ t, PSs (cxOf CX0 P w K mg base N qual (defScope st) f cdv A outer s H E).nox (defBody st) t ∧ t { nx := fun _ H' => Q .non H', rt := Q } (L2.start N vs) H) : FnG P w K mg base (k + 1) f fd ps sp := by
  obtain ⟨oc, od, kV, doc, pm, an, cdv, ct, osl, rfl, lk, hcd⟩ := F.ex
  refine fn_ofG lk hcd S len fun A outer s H vs Q E hg hr hsp => ?_
  obtain ⟨t, h, q⟩ := body cdv A outer s H vs Q E hg hr hsp
  exact ⟨t, h.nox, q⟩
def fLaw : FD := fun ds os QA _ => ∃ ns : List Int, ds = [.d (.lst (ns.map D.int))] ∧ os = [] ∧ ns.length ≤ 63 ∧ ∀ os', QA (.bl true) os'
theorem tab_at {k : Nat} {cells : List Int} {b : Int} {o os : Os} {j : Nat} (h : Pn k cells b o os) (hj : k ≠ j) : os[j]? = o[j]? := by
  obtain ⟨n, l, e, _⟩ := h
  rw [e, List.getElem?_set_ne hj]
theorem shw_len {z r : Str} {n : Option Int} (hn : numB n) : (shw z r n).length ≤ z.length + 2 * r.length + 1930 := by
  have hns : (numS n).length ≤ 1 ∧ ∀ y ∈ numS n, y.length ≤ 1921 := by
    cases n with
    | none => exact ⟨Nat.zero_le _, fun y hy => by cases hy⟩
    | some m => exact ⟨Nat.le_refl 1, fun y hy => by rw [List.mem_singleton.mp hy]; exact len_int (M := 1000000) (hn m rfl) (by decide +kernel)⟩
  unfold shw
  rw [TL.join_eq]
  have h := StrLaws.join_length_le " " (z :: (sgn r ++ numS n))
  have e1 : (" " : Str).length = 1 := rfl
  rw [List.map_cons, List.sum_cons, List.map_append, List.sum_append, sgn_sum, List.length_cons, List.length_append, sgn_len, e1] at h
  have h1 := sum_le hns.2
  have h2 : (numS n).length * 1921 ≤ 1 * 1921 := Nat.mul_le_mul_right _ hns.1
  omega
theorem numB_of {n : Option Int} (h : ∀ m, n = some m → -128 ≤ m ∧ m ≤ 65535) : numB n := fun m e => by
  have := h m e
  omega
theorem ew_dnew {K : PySem.W.Frag} {X : Xc} {S : Sa} {Q : Sv → Os → Prop} (q : Q (.d (.dk [])) S.os) : EW K X tDNewK S Q := fun as H σ Q' R x k p hp =>
  k (.ref p) _ (.d (.dk [])) S.os (Go.new hp) (R.o.new hp) (Dx.dk (R.o.notin hp) (.inl upd_same) .nil) q
local macro_rules | `(tactic| walk_at "b") => `(tactic| with_reducible refine ew_dnew ?_)
def askR (d : D) : Prop := (∃ z : Str, d = .str z ∧ z.length ≤ 20000) ∨ (∃ a, d.ty = some a ∧ kitB a "str" = some false)
def numP (n : Option Int) : PyData := match n with
  | none => .none
  | some m => .int m
def wordP (x : W3) : PyData := .tuple [.str x.1.1, .str (letAt x.1 x.2.1), numP x.2.2]
theorem word_py (x : W3) : x.d.py = some (wordP x) := by
  obtain ⟨e, far, n⟩ := x
  cases n <;> rfl
theorem word_str : ∀ e ∈ mst, e.1.cps.all (· < 0x110000) = true ∧ ∀ far < spn e, (letAt e far).cps.all (· < 0x110000) = true := by decide +kernel
theorem word_lay {x : W3} (h : x.ok) : (wordP x).canLay0 = true ∧ (wordP x).depth = 1 := by
  obtain ⟨e, far, n⟩ := x
  have h1 := (word_str e h.m).1
  have h2 := (word_str e h.m).2 far h.l
  unfold wordP
  cases n with
  | none => exact ⟨by simp only [PyData.canLay0, PyData.canLayAll0, numP]; simp [PyData.strOk, h1, h2], by simp [PyData.depth, PyData.depthAll, numP]⟩
  | some m => exact ⟨by simp only [PyData.canLay0, PyData.canLayAll0, numP]; simp [PyData.strOk, h1, h2], by simp [PyData.depth, PyData.depthAll, numP]⟩
def dueP : List W3 → Nat → List PyData
  | [], _ => []
  | x :: ws, p => .tuple [.int (p : Nat), wordP x] :: dueP ws (p + x.r.length)
theorem due_py : ∀ {ws : List W3} {p : Nat}, D.pys (dueL ws p) = some (dueP ws p)
  | [], _ => rfl
  | x :: ws, p => by
    show ((D.py (.tup [.int (p : Nat), x.d])).bind fun q => (D.pys (dueL ws (p + x.r.length))).map fun ps => q :: ps) = _
    rw [due_py]
    have e : (D.tup [.int (p : Nat), x.d]).py = some (.tuple [.int (p : Nat), wordP x]) := by
      show (D.pys [.int (p : Nat), x.d]).map PyData.tuple = _
      show (((D.py (.int (p : Nat))).bind fun q => (((D.py x.d).bind fun q => (D.pys []).map fun ps => q :: ps)).map fun ps => q :: ps)).map PyData.tuple = _
      rw [word_py]
      rfl
    rw [e]
    rfl
theorem due_lay : ∀ {ws : List W3} {p : Nat}, (∀ x ∈ ws, x.ok) → PyData.canLayAll0 (dueP ws p) = true ∧ PyData.depthAll (dueP ws p) ≤ 2
  | [], _, _ => ⟨rfl, Nat.zero_le _⟩
  | x :: ws, p, h => by
    obtain ⟨h1, h2⟩ := due_lay (ws := ws) (p := p + x.r.length) fun y hy => h y (List.mem_cons_of_mem _ hy)
    obtain ⟨h3, h4⟩ := word_lay (h x (List.mem_cons_self ..))
    show PyData.canLayAll0 (.tuple [.int (p : Nat), wordP x] :: dueP ws (p + x.r.length)) = true ∧ PyData.depthAll (.tuple [.int (p : Nat), wordP x] :: dueP ws (p + x.r.length)) ≤ 2
    refine ⟨?_, ?_⟩
    · simp only [PyData.canLayAll0, PyData.canLay0, h1, h3, Bool.and_true]
    · simp only [PyData.depthAll, PyData.depth, h4]
      omega
theorem due_sh {ws : List W3} (h : ∀ x ∈ ws, x.ok) : SeqAt.shaped (.list (dueP ws 0)) = true := by
  obtain ⟨h1, h2⟩ := due_lay (p := 0) h
  unfold SeqAt.shaped
  rw [Bool.and_eq_true]
  refine ⟨by simp only [PyData.canLay0, h1], decide_eq_true ?_⟩
  simp only [PyData.depth]
  omega
theorem word_sh {x : W3} (h : x.ok) : SeqAt.shaped (wordP x) = true := by
  obtain ⟨h1, h2⟩ := word_lay h
  unfold SeqAt.shaped
  rw [h1, h2]
  rfl
theorem at_sh {x : W3} (h : x.ok) {b : Int} : SeqAt.shaped (.tuple [wordP x, .int b]) = true ∧ (D.tup [x.d, .int b]).py = some (.tuple [wordP x, .int b]) := by
  obtain ⟨h1, h2⟩ := word_lay h
  refine ⟨?_, ?_⟩
  · unfold SeqAt.shaped
    simp [PyData.canLay0, PyData.canLayAll0, PyData.depth, PyData.depthAll, h1, h2]
  · show (((D.py x.d).bind fun q => (D.pys [.int b]).map fun ps => q :: ps)).map PyData.tuple = _
    rw [word_py]
    rfl
theorem bw_neSelf {K : PySem.W.Frag} {os : Os} {Q : Sv → Os → Prop} {x : D} {p : PyData} (e : x.py = some p) (sh : SeqAt.shaped p = true) (q : Q (.d (.bl false)) os) : BW K (rNeD K) (.d x) (.d x) os Q :=
  bw_neD e e sh sh (by rw [SeqAt.eqv_refl p (SeqAt.canLay_of_shaped sh)]; exact q)
theorem bw_eqSelf {K : PySem.W.Frag} {os : Os} {Q : Sv → Os → Prop} {x : D} {p : PyData} (e : x.py = some p) (sh : SeqAt.shaped p = true) (q : Q (.d (.bl true)) os) : BW K (rEqD K) (.d x) (.d x) os Q :=
  bw_eqD e e sh sh (by rw [SeqAt.eqv_refl p (SeqAt.canLay_of_shaped sh)]; exact q)
theorem row_py (row : List Int) : (rowD row).py = some (.tuple (row.map PyData.int)) := by
  show (D.pys (row.map D.int)).map PyData.tuple = _
  rw [pys_ints]
  rfl
theorem row_lay : ∀ row : List Int, PyData.canLayAll0 (row.map PyData.int) = true ∧ PyData.depthAll (row.map PyData.int) = 0
  | [] => ⟨rfl, rfl⟩
  | x :: r => by
    obtain ⟨h1, h2⟩ := row_lay r
    exact ⟨by simp only [List.map_cons, PyData.canLayAll0, PyData.canLay0, h1, Bool.and_true], by simp only [List.map_cons, PyData.depthAll, PyData.depth, h2]; rfl⟩
theorem row_sh (row : List Int) : SeqAt.shaped (.tuple (row.map PyData.int)) = true := by
  obtain ⟨h1, h2⟩ := row_lay row
  unfold SeqAt.shaped
  simp [PyData.canLay0, PyData.depth, h1, h2]
section
variable {P : Program} {w : World} {K : PySem.W.Frag} {mg : Str → Option Value} {base : Heap}
abbrev s_law : Stmt := topS 54
abbrev N_law : List Str := ["_law_script", "_law_pen", "_law_turn", "_law_some", "_law_row", "_law_due", "_law_word", "_law_ahead", "_law_spot", "_law_bent", "_law_things", "_law_stem", "_law_thing", "_law_k"]
theorem sc_law : FnScope N_law ["_law_script"] (defScope s_law) := ⟨rfl, rfl, rfl, by decide +kernel, rfl, by decide +kernel, by decide +kernel⟩
theorem ok_law {M f a1 a2 a3 a4 a5 a6 a7 a8 a9 b1 b2 b3 b4 b5 b6 b7 : Addr} {fd d1 d2 d3 d4 d5 d6 d7 d8 d9 e1 e2 e3 e4 e5 e6 e7 : FuncData} (F : Fun K "law" "law" s_law f fd)
    (z_range : mg "range" = none) (z_min : mg "min" = none) (z_len : mg "len" = none) (z_list : mg "list" = none) (z_isinstance : mg "isinstance" = none) (z_tuple : mg "tuple" = none) (z_str : mg "str" = none)
    (G_l_feed : FnOk P w K mg base CX0 1 a1 d1 ["_law_script"] (spN K fFeed)) (C_l_feed : Cal K mg "_law_feed" a1 d1 ["_law_script"])
    (G_l_draw : FnOk P w K mg base CX0 1 a2 d2 ["_law_pen", "_law_span"] (spD K fDraw)) (C_l_draw : Cal K mg "_law_draw" a2 d2 ["_law_pen", "_law_span"])
    (G_l_pick : FnOk P w K mg base CX0 2 a3 d3 ["_law_pen", "_law_some"] (spD K fPickU)) (C_l_pick : Cal K mg "_law_pick" a3 d3 ["_law_pen", "_law_some"])
    (G_l_drawn_word : FnOk P w K mg base CX0 3 a4 d4 ["_law_pen"] (spD K fDrawn)) (C_l_drawn_word : Cal K mg "_law_drawn_word" a4 d4 ["_law_pen"])
    (G_l_bent_text : FnOk P w K mg base CX0 2 a5 d5 ["_law_pen", "_law_text_here", "_law_near"] (spD K fBent)) (C_l_bent_text : Cal K mg "_law_bent_text" a5 d5 ["_law_pen", "_law_text_here", "_law_near"])
    (G_l_text : FnOk P w K mg base CX0 1 a6 d6 ["_law_word"] (spD K fShow)) (C_l_text : Cal K mg "_law_text" a6 d6 ["_law_word"])
    (G_l_read : FnOk P w K mg base CX0 6 a7 d7 ["_law_thing"] (spD K fReadL)) (C_l_read : Cal K mg "_law_read" a7 d7 ["_law_thing"])
    (G_l_numbers : FnOk P w K mg base CX0 3 a8 d8 ["_law_pen", "_law_text_here"] (spD K fNumbers)) (C_l_numbers : Cal K mg "_law_numbers" a8 d8 ["_law_pen", "_law_text_here"])
    (G_l_right : FnOk P w K mg base CX0 7 a9 d9 ["_law_thing"] (spD K fRight)) (C_l_right : Cal K mg "_law_right" a9 d9 ["_law_thing"])
    (G_bytes_of_word : FnOk P w K mg base CX0 6 b1 e1 ["word"] (spD K fBOW)) (C_bytes_of_word : Cal K mg "bytes_of_word" b1 e1 ["word"])
    (G_word_at : FnOk P w K mg base (CX P w) 5 b2 e2 ["row", "at"] (spD K (fWordAt M))) (C_word_at : CalM K mg "word_at" b2) (KB_word_at_at : KBn K e2 ["row", "at"] 1 ["at"] (fun us ws => us ++ ws) (fun us ws => us ++ ws))
    (G_words_of : FnOk P w K mg base (CX P w) 6 b3 e3 ["row"] (spS K (fWordsOf M))) (C_words_of : Cal K mg "words_of" b3 e3 ["row"])
    (G_show_hex : FnOk P w K mg base CX0 1 b4 e4 ["row"] (spD K Hx.fShowH)) (C_show_hex : Cal K mg "show_hex" b4 e4 ["row"])
    (G_read_hex : FnOk P w K mg base CX0 2 b5 e5 ["text"] (spD K Hx.fReadH)) (C_read_hex : Cal K mg "read_hex" b5 e5 ["text"])
    (G_show_word : FnOk P w K mg base CX0 1 b6 e6 ["word"] (spD K fShow)) (C_show_word : Cal K mg "show_word" b6 e6 ["word"])
    (G_read_word : FnOk P w K mg base (CX P w) 5 b7 e7 ["text"] (spD K (fRead M))) (C_read_word : Cal K mg "read_word" b7 e7 ["text"]) : FnG P w K mg base 9 f fd ["_law_script"] (spD K fLaw) := by
  refine okG F sc_law (fun vs H Q E h => ?_) (fun cdv A outer s H vs Q E hgd hr h => ?_)
  · obtain ⟨as, os, ds, QA, EA, R, r, ⟨ns, rfl, _⟩, _⟩ := h
    rw [r.length]
    rfl
  · have hu64 : (A.deeper (envOfC "law" (defScope s_law) s.heap.objs.size f cdv)).units + 64 < cLine := by
      have := hr.un
      omega
    have hu65 := hu64
    refine ⟨_, (pss_cons (ps_set (i := 1) sc_law.nd rfl (Or.inr rfl) (pe_call G_l_feed (hr.mono (by decide)) rfl C_l_feed.m C_l_feed.k C_l_feed.b .nil pass0 (pa_cons (pv 0) pa_nil)))
  (pss_cons (ps_for PassesOwn.never rfl (pi_range1 (by rfl) z_range (pa_cons (pe_op op_add pe_int (pe_callB (call_min2A rfl) (by rfl) z_min (by decide +kernel) (pa_cons pe_int (pa_cons (pe_callB call_lenA (by rfl) z_len PySem.boot_len (pa_cons (pv 0) pa_nil)) pa_nil)))) pa_nil)) (pg_name (i := 2) sc_law.nd rfl (Or.inl rfl))
    (pss_cons (ps_setLc (i := 3) (own := [("_law_k", 13)]) (g := (gName 13)) rfl sc_law.nd rfl rfl (sw_true rfl rfl rfl (by decide +kernel)) (pi_range1 (by rfl) z_range (pa_cons (pe_call G_l_draw (hr.mono (by decide)) rfl C_l_draw.m C_l_draw.k C_l_draw.b .nil pass0 (pa_cons (pv 1) (pa_cons pe_int pa_nil))) pa_nil)) (blkOk_by (own := [("_law_k", 13)]) (N := N_law) (sc := defScope s_law) (by decide +kernel)) (fun _ _ _ _ _ => (pg_name (i := 13) sc_law.nd rfl (Or.inl rfl))) (fun _ _ _ _ _ => pts_nil) (fun _ _ _ _ _ => (pe_call G_l_drawn_word (hr.mono (by decide)) rfl C_l_drawn_word.m C_l_drawn_word.k C_l_drawn_word.b .nil pass0 (pa_cons (pv 1) pa_nil))))
    (pss_cons (ps_par (i := 4) (j := 5) (by rfl) sc_law.nd rfl rfl (by decide) rfl rfl (pa_cons (pe_tup pa_nil) (pa_cons (pe_lst pa_nil) pa_nil)) (by rfl))
    (pss_cons (ps_for PassesOwn.never rfl (pi_list (pv 3)) (pg_name (i := 6) sc_law.nd rfl (Or.inl rfl))
      (pss_cons (ps_expr (pe_bm PySem.F.plainAttrs_list PySem.F.slot_list_append PySem.F.type_list_append mt_append (pv 5) (pa_cons (pe_tup (pa_cons (pe_callB call_lenA (by rfl) z_len PySem.boot_len (pa_cons (pv 4) pa_nil)) (pa_cons (pv 6) pa_nil))) pa_nil)))
      (pss_one (ps_set (i := 4) sc_law.nd rfl (Or.inl rfl) (pe_op op_catA (pv 4) (pe_call G_bytes_of_word (hr.mono (by decide)) rfl C_bytes_of_word.m C_bytes_of_word.k C_bytes_of_word.b .nil pass0 (pa_cons (pv 6) pa_nil)))))))
    (pss_cons (ps_if (PW.pt (pw_or (pt_cmpR (op_neD hu64) (pe_callS G_words_of (hr.mono (by decide)) rfl C_words_of.m C_words_of.k C_words_of.b (fun σ => passAt LamX.takes0 σ) (pa_cons (pv 4) pa_nil)) (pv 5) (nomark _)) (pw_or1 (pt_cmpR (op_neD hu64) (pe_call G_read_hex (hr.mono (by decide)) rfl C_read_hex.m C_read_hex.k C_read_hex.b .nil pass0 (pa_cons (pe_call G_show_hex (hr.mono (by decide)) rfl C_show_hex.m C_show_hex.k C_show_hex.b .nil pass0 (pa_cons (pv 4) pa_nil)) pa_nil)) (pv 4) (nomark _))))) (pss_one (ps_ret pe_bl)) pss_nil)
    (pss_cons (ps_set (i := 7) sc_law.nd rfl (Or.inl rfl) (pe_callTy call_tupA (by rfl) z_tuple (by decide +kernel) (pa_cons (pe_lc (own := [("_law_k", 13)]) (g := (gName 13)) rfl sc_law.nd (pi_range1 (by rfl) z_range (pa_cons (pe_call G_l_draw (hr.mono (by decide)) rfl C_l_draw.m C_l_draw.k C_l_draw.b .nil pass0 (pa_cons (pv 1) (pa_cons pe_int pa_nil))) pa_nil)) (blkOk_by (own := [("_law_k", 13)]) (N := N_law) (sc := defScope s_law) (by decide +kernel)) (fun _ _ _ _ _ => (pg_name (i := 13) sc_law.nd rfl (Or.inl rfl))) (fun _ _ _ _ _ => pts_nil) (fun _ _ _ _ _ => (pe_call G_l_draw (hr.mono (by decide)) rfl C_l_draw.m C_l_draw.k C_l_draw.b .nil pass0 (pa_cons (pv 1) (pa_cons pe_int pa_nil))))) pa_nil)))
    (pss_cons (ps_for PassesOwn.never rfl (pi_list (pv 5)) (pg_tup (by rfl) (pgs_cons (pg_name (i := 8) sc_law.nd rfl (Or.inl rfl)) (pgs_cons (pg_name (i := 6) sc_law.nd rfl (Or.inl rfl)) pgs_nil)))
      (pss_cons (ps_if (pt_cmpR (op_neD hu64) (pe_callNS G_word_at (hr.mono (by decide)) rfl C_word_at.m C_word_at.k KB_word_at_at (fun σ => passAt LamX.takes0 σ) (pa_cons (pe_op op_catA (pv 7) (pv 4)) pa_nil) (pk_cons (pe_op op_add (pe_callB call_lenA (by rfl) z_len PySem.boot_len (pa_cons (pv 7) pa_nil)) (pv 8)) pk_nil)) (pe_tup (pa_cons (pv 6) (pa_cons (pe_op op_add (pe_op op_add (pe_callB call_lenA (by rfl) z_len PySem.boot_len (pa_cons (pv 7) pa_nil)) (pv 8)) (pe_callB call_lenA (by rfl) z_len PySem.boot_len (pa_cons (pe_call G_bytes_of_word (hr.mono (by decide)) rfl C_bytes_of_word.m C_bytes_of_word.k C_bytes_of_word.b .nil pass0 (pa_cons (pv 6) pa_nil)) pa_nil))) pa_nil))) (nomark _)) (pss_one (ps_ret pe_bl)) pss_nil)
      (pss_one (ps_if (PW.pt (pw_or (pt_cmpR op_ne (pe_call G_show_word (hr.mono (by decide)) rfl C_show_word.m C_show_word.k C_show_word.b .nil pass0 (pa_cons (pv 6) pa_nil)) (pe_call G_l_text (hr.mono (by decide)) rfl C_l_text.m C_l_text.k C_l_text.b .nil pass0 (pa_cons (pv 6) pa_nil)) (nomark _)) (pw_or1 (pt_cmpR (op_neD hu64) (pe_call G_l_read (hr.mono (by decide)) rfl C_l_read.m C_l_read.k C_l_read.b .nil pass0 (pa_cons (pe_call G_l_text (hr.mono (by decide)) rfl C_l_text.m C_l_text.k C_l_text.b .nil pass0 (pa_cons (pv 6) pa_nil)) pa_nil)) (pv 6) (nomark _))))) (pss_one (ps_ret pe_bl)) pss_nil))))
    (pss_cons (ps_set (i := 6) sc_law.nd rfl (Or.inl rfl) (pe_call G_l_drawn_word (hr.mono (by decide)) rfl C_l_drawn_word.m C_l_drawn_word.k C_l_drawn_word.b .nil pass0 (pa_cons (pv 1) pa_nil)))
    (pss_cons (ps_set (i := 9) sc_law.nd rfl (Or.inl rfl) (pe_call G_l_bent_text (hr.mono (by decide)) rfl C_l_bent_text.m C_l_bent_text.k C_l_bent_text.b .nil pass0 (pa_cons (pv 1) (pa_cons (pe_call G_l_text (hr.mono (by decide)) rfl C_l_text.m C_l_text.k C_l_text.b .nil pass0 (pa_cons (pv 6) pa_nil)) (pa_cons pe_str pa_nil)))))
    (pss_cons (ps_set (i := 10) sc_law.nd rfl (Or.inl rfl) (pe_lst (pa_cons (pv 9) (pa_cons (pe_call G_l_bent_text (hr.mono (by decide)) rfl C_l_bent_text.m C_l_bent_text.k C_l_bent_text.b .nil pass0 (pa_cons (pv 1) (pa_cons (pv 9) (pa_cons pe_str pa_nil)))) pa_nil))))
    (pss_cons (ps_set (i := 11) sc_law.nd rfl (Or.inl rfl) (pe_call G_l_pick (hr.mono (by decide)) rfl C_l_pick.m C_l_pick.k C_l_pick.b .nil pass0 (pa_cons (pv 1) (pa_cons (pe_lst (pa_cons (pe_ix (r := rIxT K) ix_tup (pv 6) pe_int (fun _ _ => rfl)) (pa_cons (pe_call G_l_text (hr.mono (by decide)) rfl C_l_text.m C_l_text.k C_l_text.b .nil pass0 (pa_cons (pv 6) pa_nil)) (pa_cons (pe_op op_addS (pe_ix (r := rIxT K) ix_tup (pv 6) pe_int (fun _ _ => rfl)) pe_str) (pa_cons (pe_op op_addS (pe_ix (r := rIxT K) ix_tup (pv 6) pe_int (fun _ _ => rfl)) pe_str) pa_nil))))) pa_nil))))
    (pss_cons (ps_set (i := 10) sc_law.nd rfl (Or.inl rfl) (pe_op op_catL (pv 10) (pe_lst (pa_cons (pe_call G_l_numbers (hr.mono (by decide)) rfl C_l_numbers.m C_l_numbers.k C_l_numbers.b .nil pass0 (pa_cons (pv 1) (pa_cons (pv 11) pa_nil))) pa_nil))))
    (pss_cons (ps_for PassesOwn.never rfl (pi_list (pe_op op_catL (pv 10) (pe_lst (pa_cons (pe_call G_l_pick (hr.mono (by decide)) rfl C_l_pick.m C_l_pick.k C_l_pick.b .nil pass0 (pa_cons (pv 1) (pa_cons (pe_lst (pa_cons pe_non (pa_cons pe_int (pa_cons pe_bl (pa_cons (pv 6) (pa_cons (pe_lst pa_nil) (pa_cons pe_dnewK (pa_cons pe_str (pa_cons (pe_callTy call_lstA (by rfl) z_list (by decide +kernel) (pa_cons (pv 6) pa_nil)) pa_nil))))))))) pa_nil))) pa_nil)))) (pg_name (i := 12) sc_law.nd rfl (Or.inl rfl))
      (pss_one (ps_if (pt_not (pt_val (pe_call G_l_right (hr.mono (by decide)) rfl C_l_right.m C_l_right.k C_l_right.b .nil pass0 (pa_cons (pv 12) pa_nil)))) (pss_one (ps_ret pe_bl)) pss_nil)))
    (pss_one (ps_if (pt_val (pe_callB call_isi (by rfl) z_isinstance (by decide +kernel) (pa_cons (pe_call G_l_read (hr.mono (by decide)) rfl C_l_read.m C_l_read.k C_l_read.b .nil pass0 (pa_cons (pe_call G_l_text (hr.mono (by decide)) rfl C_l_text.m C_l_text.k C_l_text.b .nil pass0 (pa_cons (pe_tup (pa_cons (pe_ix (r := rIxT K) ix_tup (pv 6) pe_int (fun _ _ => rfl)) (pa_cons (pe_revs2 (pe_ix (r := rIxT K) ix_tup (pv 6) pe_int (fun _ _ => rfl))) (pa_cons (pe_ix (r := rIxT K) ix_tup (pv 6) pe_int (fun _ _ => rfl)) pa_nil)))) pa_nil)) pa_nil)) (pa_cons (pe_bltn (v := .ty "str") (by rfl) z_str boot_str rfl) pa_nil)))) (pss_one (ps_ret pe_bl)) pss_nil)))))))))))))))
  (pss_one (ps_ret (pe_and (pe_cmpR (op_eqNilL hu64) (pe_callS G_words_of (hr.mono (by decide)) rfl C_words_of.m C_words_of.k C_words_of.b (fun σ => passAt LamX.takes0 σ) (pa_cons (pe_tup pa_nil) pa_nil)) (pe_lst pa_nil) (nomark _)) (pe_one (pe_cmpR (op_eqD hu64) (pe_callS G_read_word (hr.mono (by decide)) rfl C_read_word.m C_read_word.k C_read_word.b (fun σ => passAt LamX.takes0 σ) (pa_cons pe_str pa_nil)) (pe_tup (pa_cons pe_str (pa_cons pe_str (pa_cons pe_non pa_nil)))) (nomark _)))))))), read_of h fun ds os QA EA hf => ?_⟩
    obtain ⟨ns, rfl, rfl, hl, q⟩ := hf
    try dsimp only [cxOf, Cx.nox, Cx.wish]
    show W K _ _ _ ⟨[some (.d (.lst (ns.map D.int))), none, none, none, none, none, none, none, none, none, none, none, none, none], []⟩
    refine w_seq (w_asgN ?_)
    repeat (walk_at "b")
    refine ⟨ns, rfl, hl, ?_⟩
    dsimp only [List.set_cons_zero, List.set_cons_succ, List.nil_append, List.length_nil]
    refine w_seq (w_for ?_)
    refine iw_rng1 ?_
    repeat (walk_at "b")
    rw [List.length_map]
    refine cw_min2 ?_
    repeat (walk_at "b")
    refine ⟨by split <;> omega, by split <;> omega, ?_⟩
    have h12 : (4 + if (ns.length : Int) < 8 then (ns.length : Int) else 8).toNat ≤ 12 := by split <;> omega
    generalize (4 + if (ns.length : Int) < 8 then (ns.length : Int) else 8).toNat = turns at h12
    refine ⟨fun i S' => ∃ (o2 o3 o4 o5 o6 o7 o8 o9 o10 o11 o12 o13 : Option Sv) (o os : Os), S' = ⟨[some (.d (.lst (ns.map D.int))), some (.o 0), o2, o3, o4, o5, o6, o7, o8, o9, o10, o11, o12, o13], os⟩ ∧ Pn 0 ns (200 * i) o os, ⟨_, _, _, _, _, _, _, _, _, _, _, _, [.md (pen ns 0 0)], _, rfl, 0, 0, rfl, (by show 0 < 1; decide), (by omega), by decide⟩, ?_, ?_⟩
    · rintro i d S' hd ⟨o2, o3, o4, o5, o6, o7, o8, o9, o10, o11, o12, o13, o, os, rfl, ho⟩
      obtain ⟨hi, rfl⟩ := rngD_get hd
      refine gw_name ?_
      dsimp only [List.set_cons_zero, List.set_cons_succ]
      generalize (0 + (i : Int) * 1) = tn
      -- words
      refine w_seq (w_asg ?_)
      refine ew_lc (wg_name (by decide)) mg_name ?_
      refine iw_rng1 ?_
      repeat (walk_at "b")
      refine ⟨_, _, _, _, _, rfl, ho, by omega, by omega, fun m os1 m0 m1 ho1 => ?_⟩
      repeat (walk_at "b")
      refine ⟨by omega, by omega, fun n acc os3 => ∃ ws : List W3, acc = ws.map W3.d ∧ ws.length = n ∧ (∀ x ∈ ws, x.ok) ∧ Pn 0 ns (200 * i + 1 + 10 * n) o os3, ⟨[], rfl, rfl, fun b hb => (nomatch hb), ho1.mono (by omega)⟩, ?_, ?_⟩
      · rintro n d acc os3 hd ⟨ws, rfl, hn, hok, ho3⟩
        obtain ⟨hn2, rfl⟩ := rngD_get hd
        refine gw_name ?_
        refine tw_yes (br_T ?_)
        show EW K X0 _ ⟨[some (.d (.lst (ns.map D.int))), some (.o 0), some (.d (.int tn)), o3, o4, o5, o6, o7, o8, o9, o10, o11, o12, some (.d (.int (0 + (n : Int) * 1)))], _⟩ _
        repeat (walk_at "b")
        refine ⟨0, ns, _, _, rfl, ho3.push _, by omega, fun e far k os4 wd ho4 => ?_⟩
        obtain ⟨os5, rfl, ho5⟩ := ho4.pop (by obtain ⟨_, _, _, h, _⟩ := ho; exact h)
        refine ⟨_, _, rfl, rfl, by rw [List.length_map, sizeLine_eq]; omega, ws ++ [(e, far, k)], by rw [List.map_append]; rfl, by rw [List.length_append, hn]; rfl, fun c hc => ?_, ho5.mono (by omega)⟩
        rcases List.mem_append.mp hc with z | z
        · exact hok c z
        · rw [List.mem_singleton.mp z]
          exact wd
      · rintro acc os3 ⟨ws, rfl, hwn, hok, ho3⟩
        rw [rngD_len] at hwn ho3
        have hw12 : ws.length ≤ 11 := by omega
        dsimp only [List.set_cons_zero, List.set_cons_succ]
        -- their row
        refine w_seq (w_parTL ?_)
        dsimp only [List.set_cons_zero, List.set_cons_succ]
        refine w_seq (w_for ?_)
        refine iw_list ?_
        repeat (walk_at "b")
        refine ⟨fun j S' => ∃ o6' : Option Sv, S' = ⟨[some (.d (.lst (ns.map D.int))), some (.o 0), some (.d (.int tn)), some (.d (.lst (ws.map W3.d))), some (.d (rowD (rowL (ws.take j)))), some (.o os3.length), o6', o7, o8, o9, o10, o11, o12, o13], os3 ++ [.ml (dueL (ws.take j) 0)]⟩, ⟨_, rfl⟩, ?_, ?_⟩
        · rintro j d S' hd ⟨o6', rfl⟩
          rw [List.getElem?_map] at hd
          obtain ⟨x, hx, rfl⟩ := Option.map_eq_some_iff.mp hd
          have hj : j < ws.length := (List.getElem?_eq_some_iff.mp hx).1
          have ex : ws[j] = x := (List.getElem?_eq_some_iff.mp hx).2
          have hxo := hok x (List.mem_of_getElem? hx)
          obtain ⟨r1, r2⟩ := rowL_ok (ws := ws.take j) fun y hy => hok y (List.mem_of_mem_take hy)
          have r3 : (ws.take j).length ≤ 11 := by rw [List.length_take]; omega
          have et : ws.take (j + 1) = ws.take j ++ [x] := by rw [← List.take_append_getElem hj, ex]
          obtain ⟨r4, r5⟩ := rowW_ok hxo
          refine gw_name ?_
          dsimp only [List.set_cons_zero, List.set_cons_succ]
          refine w_seq (w_drop (ew_app (ew_var rfl ⟨_, _, rfl, last_at, ?_⟩)))
          repeat (walk_at "b")
          rw [List.length_map]
          refine ⟨_, _, rfl, last_at, by rw [dueL_len, sizeLine_eq]; omega, ?_⟩
          rw [last_set]
          refine w_asg ?_
          repeat (walk_at "b")
          refine ⟨x.1, x.2.1, x.2.2, rfl, hxo, ?_⟩
          refine bw_catT (by rw [List.length_map, List.length_map, sizeLine_eq]; omega) ?_
          rw [et, rowL_app, dueL_app, ← List.map_append, Nat.zero_add]
          have e1 : rowL [x] = x.r := by show x.r ++ [] = _; rw [List.append_nil]
          rw [e1]
          exact ⟨_, rfl⟩
        · rintro S' ⟨o6', rfl⟩
          rw [List.length_map, List.take_length]
          obtain ⟨r1, r2⟩ := rowL_ok hok
          have hsh := due_sh hok
          refine w_seq (w_if ?_)
          repeat (walk_at "b")
          refine ew_ofR (ews_callS00 ?_)
          repeat (walk_at "b")
          refine ⟨rowL ws, rfl, r1, by omega, fun xs hx => ?_, fun e he => by rw [all_is hok] at he; cases he⟩
          have exs : xs = dueL ws 0 := by rw [all_is hok] at hx; exact (Sum.inl.inj hx).symm
          subst exs
          refine ⟨Nat.le_refl _, _, last_at, ?_⟩
          rw [List.take_left' rfl]
          refine ew_var rfl ?_
          refine bw_neL rfl (by show (os3 ++ [_])[os3.length]?.bind _ = _; rw [last_at]; rfl) due_py hsh ⟨_, rfl, br_F ?_⟩
          repeat (walk_at "b")
          refine ⟨rowL ws, rfl, r1, by omega, ?_⟩
          repeat (walk_at "b")
          refine ⟨rowL ws, rfl, r1, by omega, ?_⟩
          repeat (walk_at "b")
          refine bw_neSelf (row_py _) (row_sh _) ⟨_, rfl, br_F ?_⟩
          refine w_next ?_
          -- what stands ahead
          have ho3' := ho3.push (.ml (dueL ws 0))
          have hol : o.length = os3.length := ho3.len.symm
          have hlen : 0 < (o ++ [Ob.ml (dueL ws 0)]).length := by rw [List.length_append]; exact Nat.succ_pos _
          refine w_seq (w_asg (ew_cb (aw_cons ?_)))
          refine ew_lc (wg_name (by decide)) mg_name ?_
          refine iw_rng1 ?_
          repeat (walk_at "b")
          refine ⟨_, _, _, _, _, rfl, ho3', by omega, by omega, fun am os4 a0 a1 ho4 => ?_⟩
          repeat (walk_at "b")
          refine ⟨by omega, by omega, fun n acc os5 => ∃ bs : List Int, acc = bs.map D.int ∧ bs.length = n ∧ isR bs ∧ Pn 0 ns (200 * i + 130 + n) (o ++ [.ml (dueL ws 0)]) os5, ⟨[], rfl, rfl, fun b hb => (nomatch hb), ho4.mono (by omega)⟩, ?_, ?_⟩
          · rintro n d acc os5 hd ⟨bs, rfl, hn, hb, ho5⟩
            obtain ⟨hn2, rfl⟩ := rngD_get hd
            refine gw_name ?_
            refine tw_yes (br_T ?_)
            show EW K X0 _ ⟨[some (.d (.lst (ns.map D.int))), some (.o 0), some (.d (.int tn)), some (.d (.lst (ws.map W3.d))), some (.d (rowD (rowL ws))), some (.o os3.length), o6', o7, o8, o9, o10, o11, o12, some (.d (.int (0 + (n : Int) * 1)))], _⟩ _
            repeat (walk_at "b")
            refine ⟨_, _, _, _, _, rfl, ho5.push _, by omega, by omega, fun b os6 b0 b1 ho6 => ?_⟩
            obtain ⟨os7, rfl, ho7⟩ := ho6.pop hlen
            refine ⟨_, _, rfl, rfl, by rw [List.length_map, sizeLine_eq]; omega, bs ++ [b], by rw [List.map_append]; rfl, by rw [List.length_append, hn]; rfl, isR_app hb (isR_one b0 b1), ho7.mono (by omega)⟩
          · rintro acc os5 ⟨bs, rfl, hbn, hb, ho5⟩
            rw [rngD_len] at hbn ho5
            have hb3 : bs.length ≤ 3 := by omega
            repeat (walk_at "b")
            refine cw_tupL ?_
            dsimp only [List.set_cons_zero, List.set_cons_succ]
            have tab : os5[os3.length]? = some (.ml (dueL ws 0)) := by
              rw [tab_at ho5 (fun e => ?_), ← hol]
              · exact last_at
              · obtain ⟨_, _, _, h, _⟩ := ho3
                omega
            refine w_seq (w_forS (iws_listO (ew_var rfl ⟨_, _, rfl, tab, fun j S' => ∃ o6' o8' : Option Sv, S' = ⟨[some (.d (.lst (ns.map D.int))), some (.o 0), some (.d (.int tn)), some (.d (.lst (ws.map W3.d))), some (.d (rowD (rowL ws))), some (.o os3.length), o6', some (.d (rowD bs)), o8', o9, o10, o11, o12, o13], os5⟩, ⟨_, _, rfl⟩, ?_, ?_, ?_⟩)))
            · rintro j S' ⟨_, _, rfl⟩
              exact tab
            · rintro j d S' hd ⟨o6', o8', rfl⟩
              obtain ⟨x, hx, rfl⟩ := dueL_at hd
              have hxo := hok x (List.mem_of_getElem? hx)
              have hda := due_at hok hx bs
              obtain ⟨w1, w2, w3, w4, w5⟩ := wd_ok hxo
              rw [Nat.zero_add]
              have hjl : (rowL (ws.take j)).length ≤ 33 := by
                obtain ⟨_, h2⟩ := rowL_ok (ws := ws.take j) fun y hy => hok y (List.mem_of_mem_take hy)
                have : (ws.take j).length ≤ 11 := by rw [List.length_take]; omega
                omega
              generalize (rowL (ws.take j)).length = sp at hda hjl ⊢
              refine gw_tup rfl (gs_cons (gw_name (gs_cons (gw_name (gs_nil ?_)))))
              dsimp only [List.set_cons_zero, List.set_cons_succ]
              refine w_seq (w_if ?_)
              repeat (walk_at "b")
              refine ew_callNS0 (gS := fun us ws => us ++ ws) (fun as H vs zs ds es a b => svA_app a b) ?_
              repeat (walk_at "b")
              refine bw_catT (by rw [List.length_map, List.length_map, sizeLine_eq]; omega) ?_
              rw [← List.map_append]
              repeat (walk_at "b")
              refine ⟨rfl, ?_⟩
              repeat (walk_at "b")
              rw [List.length_map]
              refine ⟨rfl, ?_⟩
              refine ⟨bs ++ rowL ws, bs.length + sp, rfl, isR_app hb r1, by rw [List.length_append]; omega, fun y b h => ?_, fun e h => by rw [hda] at h; cases h⟩
              rw [hda] at h
              obtain ⟨rfl, rfl⟩ := Prod.mk.inj (Sum.inl.inj h)
              repeat (walk_at "b")
              refine ⟨x.1, x.2.1, x.2.2, rfl, hxo, ?_⟩
              repeat (walk_at "b")
              have en : ((bs.map D.int).length : Int) + (sp : Int) + (((rowW x.1 x.2.1 x.2.2).map D.int).length : Int) = ((bs.length + sp + x.r.length : Nat) : Int) := by
                rw [List.length_map, List.length_map, Int.natCast_add, Int.natCast_add]
              rw [en]
              refine bw_neSelf (at_sh hxo).2 (at_sh hxo).1 ⟨_, rfl, br_F ?_⟩
              refine w_next ?_
              have nb := numB_of w3
              have hsl := shw_len (z := x.1.1) (r := letAt x.1 x.2.1) nb
              refine w_if ?_
              repeat (walk_at "b")
              refine ⟨x.1.1, letAt x.1 x.2.1, x.2.2, rfl, by omega, by omega, nb, ?_⟩
              repeat (walk_at "b")
              refine ⟨x.1.1, letAt x.1 x.2.1, x.2.2, rfl, by omega, by omega, nb, ?_⟩
              repeat (walk_at "b")
              refine bw_neS ⟨_, rfl, ?_⟩
              rw [decide_eq_true rfl]
              refine br_nT ?_
              repeat (walk_at "b")
              refine ⟨x.1.1, letAt x.1 x.2.1, x.2.2, rfl, by omega, by omega, nb, ?_⟩
              repeat (walk_at "b")
              refine ⟨_, rfl, .inl ⟨_, rfl, by omega, fun e r n h => ?_, fun h => by rw [w2] at h; cases h⟩⟩
              rw [w2] at h
              obtain ⟨rfl, h2⟩ := Prod.mk.inj (Option.some.inj h)
              obtain ⟨rfl, rfl⟩ := Prod.mk.inj h2
              repeat (walk_at "b")
              refine bw_neSelf (word_py x) (word_sh hxo) ⟨_, rfl, br_F ?_⟩
              refine w_next ?_
              exact ⟨_, _, rfl⟩
            · rintro S' ⟨o6', o8', rfl⟩
              show W K _ _ _ _
              -- a word, bent
              refine w_seq (w_asg (ew_call (aw_cons (ew_var rfl (aw_nil ?_)))))
              refine ⟨0, ns, _, _, rfl, ho5, by omega, fun e far k os6 wd ho6 => ?_⟩
              dsimp only [List.set_cons_zero, List.set_cons_succ]
              obtain ⟨w1, w2, w3, w4, w5⟩ := wd_ok wd
              have nb := numB_of w3
              have hsl := shw_len (z := e.1) (r := letAt e far) nb
              have ewd : wordD e far k = .tup [.str e.1, .str (letAt e far), numD k] := rfl
              rw [ewd]
              refine w_seq (w_asg ?_)
              repeat (walk_at "b")
              refine ⟨e.1, letAt e far, k, rfl, by omega, by omega, nb, ?_⟩
              repeat (walk_at "b")
              refine ⟨0, _, _, ns, _, _, rfl, ho6, by omega, by decide +kernel, by omega, fun z1 os7 hz1 ho7 => ?_⟩
              dsimp only [List.set_cons_zero, List.set_cons_succ]
              refine w_seq (w_asg ?_)
              repeat (walk_at "b")
              refine ⟨0, _, _, ns, _, _, rfl, ho7, by omega, by decide +kernel, by omega, fun z2 os8 hz2 ho8 => ?_⟩
              refine aw_nil ⟨_, rfl, by show 2 ≤ sizeLine; decide, ?_⟩
              dsimp only [List.set_cons_zero, List.set_cons_succ]
              refine w_seq (w_asg ?_)
              repeat (walk_at "b")
              refine ⟨e.1, letAt e far, k, rfl, by omega, by omega, nb, ?_⟩
              repeat (walk_at "b")
              refine bw_catS (small_len (by have : (" a" : Str).length = 2 := rfl; omega)) ?_
              repeat (walk_at "b")
              refine bw_catS (small_len (by have : (" p" : Str).length = 2 := rfl; omega)) ?_
              refine aw_nil ⟨_, rfl, by show 4 ≤ sizeLine; decide, aw_nil (.inl ⟨0, _, ns, _, _, rfl, ho8, ⟨by show 0 < 4; decide, by show 4 ≤ 1000; decide⟩, by omega, fun d os9 hd ho9 => ?_⟩)⟩
              obtain ⟨st, rfl, hst⟩ : ∃ st : Str, d = .str st ∧ st.length ≤ 3000 := by
                simp only [List.mem_cons, List.not_mem_nil, or_false] at hd
                rcases hd with rfl | rfl | rfl | rfl
                · exact ⟨_, rfl, by omega⟩
                · exact ⟨_, rfl, by omega⟩
                · exact ⟨_, rfl, by rw [app_len]; have : (" a" : Str).length = 2 := rfl; omega⟩
                · exact ⟨_, rfl, by rw [app_len]; have : (" p" : Str).length = 2 := rfl; omega⟩
              dsimp only [List.set_cons_zero, List.set_cons_succ]
              refine w_seq (w_asg ?_)
              repeat (walk_at "b")
              refine ⟨0, st, ns, _, _, rfl, ho9, hst, by omega, fun z3 os10 hz3 ho10 => ?_⟩
              refine aw_nil ⟨_, rfl, by show 1 ≤ sizeLine; decide, ?_⟩
              refine bw_catL (by show 2 + 1 ≤ sizeLine; decide) ?_
              dsimp only [List.set_cons_zero, List.set_cons_succ]
              refine w_seq (w_for ?_)
              refine iw_list ?_
              repeat (walk_at "b")
              refine cw_lstU ?_
              refine aw_nil ⟨_, rfl, by show 8 ≤ sizeLine; decide, aw_nil (.inl ⟨0, _, ns, _, _, rfl, ho10, ⟨by show 0 < 8; decide, by show 8 ≤ 1000; decide⟩, by omega, fun d os11 hd ho11 => ?_⟩)⟩
              have hask : askR d := by
                simp only [List.mem_cons, List.not_mem_nil, or_false] at hd
                rcases hd with rfl | rfl | rfl | rfl | rfl | rfl | rfl | rfl
                · exact .inr ⟨_, rfl, by decide +kernel⟩
                · exact .inr ⟨_, rfl, by decide +kernel⟩
                · exact .inr ⟨_, rfl, by decide +kernel⟩
                · exact .inr ⟨_, rfl, by decide +kernel⟩
                · exact .inr ⟨_, rfl, by decide +kernel⟩
                · exact .inr ⟨_, rfl, by decide +kernel⟩
                · exact .inl ⟨_, rfl, by decide +kernel⟩
                · exact .inr ⟨_, rfl, by decide +kernel⟩
              refine aw_nil ⟨_, rfl, by show 1 ≤ sizeLine; decide, ?_⟩
              refine bw_catL (by show 3 + 1 ≤ sizeLine; decide) ?_
              refine ⟨_, rfl, ?_⟩
              refine ⟨fun j S' => ∃ o12' : Option Sv, S' = ⟨[some (.d (.lst (ns.map D.int))), some (.o 0), some (.d (.int tn)), some (.d (.lst (ws.map W3.d))), some (.d (rowD (rowL ws))), some (.o os3.length), some (.d (.tup [.str e.1, .str (letAt e far), numD k])), some (.d (rowD bs)), o8', some (.d (.str z1)), some (.d (.lst ([D.str z1, D.str z2] ++ [D.str z3]))), some (.d (.str st)), o12', o13], os11⟩, ⟨_, rfl⟩, ?_, ?_⟩
              · rintro j y S' hy ⟨o12', rfl⟩
                have hasky : askR y := by
                  have hm := List.mem_of_getElem? hy
                  simp only [List.cons_append, List.nil_append, List.mem_cons, List.not_mem_nil, or_false] at hm
                  rcases hm with rfl | rfl | rfl | rfl
                  · exact .inl ⟨_, rfl, by omega⟩
                  · exact .inl ⟨_, rfl, by omega⟩
                  · exact .inl ⟨_, rfl, by omega⟩
                  · exact hask
                refine gw_name ?_
                dsimp only [List.set_cons_zero, List.set_cons_succ]
                refine w_if ?_
                repeat (walk_at "b")
                refine ⟨y, rfl, hasky, ?_⟩
                refine ⟨_, rfl, br_nT (w_next ?_)⟩
                exact ⟨_, rfl⟩
              · rintro S' ⟨o12', rfl⟩
                show W K _ _ _ _
                refine w_if ?_
                repeat (walk_at "b")
                refine ew_revs2 ?_
                repeat (walk_at "b")
                refine ⟨small_len (by omega), fun y hy _ => ?_⟩
                repeat (walk_at "b")
                refine ⟨e.1, y, k, rfl, by omega, by omega, nb, ?_⟩
                have hsy := shw_len (z := e.1) (r := y) nb
                repeat (walk_at "b")
                have fin : Pn 0 ns (200 * ((i + 1 : Nat) : Int)) (o ++ [Ob.ml (dueL ws 0)]) os11 := ho11.mono (by omega)
                refine ⟨_, rfl, .inl ⟨_, rfl, by omega, fun e' r n h => ?_, fun h => ?_⟩⟩
                · refine ⟨_, "tuple", false, rfl, rfl, (by decide +kernel), _, rfl, br_F (w_next ?_)⟩
                  exact ⟨_, _, _, _, _, _, _, _, _, _, _, _, _, _, rfl, fin⟩
                · refine ⟨_, "NoneType", false, rfl, rfl, (by decide +kernel), _, rfl, br_F (w_next ?_)⟩
                  exact ⟨_, _, _, _, _, _, _, _, _, _, _, _, _, _, rfl, fin⟩
    · rintro S' ⟨o2, o3, o4, o5, o6, o7, o8, o9, o10, o11, o12, o13, o, os, rfl, ho⟩
      repeat (walk_at "b")
      refine ew_ofR (ews_callS00 ?_)
      repeat (walk_at "b")
      have a0 : allW [] = .inl [] := all_is (ws := []) nofun
      refine ⟨[], rfl, nofun, Nat.zero_le _, fun xs hx => ?_, fun e he => by rw [a0] at he; cases he⟩
      have exs : xs = [] := by rw [a0] at hx; exact (Sum.inl.inj hx).symm
      subst exs
      refine ⟨Nat.le_refl _, _, last_at, ?_⟩
      rw [List.take_left' rfl]
      repeat (walk_at "b")
      refine bw_eqNilL ⟨_, rfl, br_T ?_⟩
      have hw : W3.ok (("halt", 0, "", none), 0, none) := ⟨by decide +kernel, by decide +kernel, trivial⟩
      obtain ⟨_, w2, _⟩ := wd_ok hw
      have es : shw "halt" (letAt ("halt", 0, "", none) 0) none = "halt" := by decide +kernel
      have el : letAt ("halt", 0, "", none) 0 = "" := by decide +kernel
      dsimp only at w2
      rw [es, el] at w2
      refine ew_op (ew_callS00 ?_)
      repeat (walk_at "b")
      refine ⟨_, rfl, .inl ⟨"halt", rfl, by decide +kernel, fun e r n h => ?_, fun h => by rw [w2] at h; cases h⟩⟩
      rw [w2] at h
      obtain ⟨rfl, h2⟩ := Prod.mk.inj (Option.some.inj h)
      obtain ⟨rfl, rfl⟩ := Prod.mk.inj h2
      repeat (walk_at "b")
      have hpy := word_py (("halt", 0, "", none), 0, none)
      have hsh := word_sh hw
      unfold W3.d wordD at hpy
      unfold wordP at hpy hsh
      dsimp only at hpy hsh
      rw [el] at hpy hsh
      refine bw_eqSelf hpy hsh ?_
      exact q _
end

open PySem PySem.Spec PyProof.Rows L2 Br Hx
theorem promise_law {K : PySem.W.Frag} {H : Hp} {a : Addr} {ns : List Int} (hl : ns.length ≤ 63) (h : SqL K H a (ns.map V.int)) : spD K fLaw [.ref a] H (fun v _ => v = .bl true) fun _ _ _ => False := by
  refine ⟨[], [], [.d (.lst (ns.map D.int))], fun d _ => d = .bl true, fun _ _ _ => False, ⟨by simp, rfl, fun k a ob h1 h2 => ?_⟩, .cons (Dx.lst ?_ (DxA.ints ns)) .nil, ⟨ns, rfl, rfl, hl, fun _ => rfl⟩, fun v H' d os' g R r e => ?_, fun _ _ _ _ _ _ _ _ _ _ _ z => z.elim⟩
  · cases h1
  · rcases h with z | z
    · exact .inl ⟨fun q => (nomatch q), z⟩
    · exact .inr z
  · subst e
    cases r
    rfl
def dq1 : He.DefD := ⟨("is_whole", none), "is_whole", "is_whole", defArgs s_is_whole, defBody s_is_whole, defScope s_is_whole, [], []⟩
def dq2 : He.DefD := ⟨("is_between", none), "is_between", "is_between", defArgs s_is_between, defBody s_is_between, defScope s_is_between, [], []⟩
def dq3 : He.DefD := ⟨("is_tuple_of", none), "is_tuple_of", "is_tuple_of", defArgs s_is_tuple_of, defBody s_is_tuple_of, defScope s_is_tuple_of, [], []⟩
def dq4 : He.DefD := ⟨("copied", none), "copied", "copied", defArgs s_copied, defBody s_copied, defScope s_copied, [], []⟩
def dq5 : He.DefD := ⟨("NoWord", some "__init__"), "__init__", "NoWord.__init__", defArgs s_NoWord_init, defBody s_NoWord_init, defScope s_NoWord_init, [], []⟩
def dq6 : He.DefD := ⟨("NoNumber", some "__init__"), "__init__", "NoNumber.__init__", defArgs s_NoNumber_init, defBody s_NoNumber_init, defScope s_NoNumber_init, [], []⟩
def dq7 : He.DefD := ⟨("show_hex", none), "show_hex", "show_hex", defArgs s_show_hex, defBody s_show_hex, defScope s_show_hex, [], []⟩
def dq8 : He.DefD := ⟨("read_hex", none), "read_hex", "read_hex", defArgs s_read_hex, defBody s_read_hex, defScope s_read_hex, [], []⟩
def dq9 : He.DefD := ⟨("may_stand", none), "may_stand", "may_stand", defArgs s_may_stand, defBody s_may_stand, defScope s_may_stand, [], []⟩
def dq10 : He.DefD := ⟨("bytes_of", none), "bytes_of", "bytes_of", defArgs s_bytes_of, defBody s_bytes_of, defScope s_bytes_of, [], [("many", .int 2)]⟩
def dq11 : He.DefD := ⟨("number_of", none), "number_of", "number_of", defArgs s_number_of, defBody s_number_of, defScope s_number_of, [], []⟩
def dq12 : He.DefD := ⟨("registers_of", none), "registers_of", "registers_of", defArgs s_registers_of, defBody s_registers_of, defScope s_registers_of, [], []⟩
def dq13 : He.DefD := ⟨("field_of", none), "field_of", "field_of", defArgs s_field_of, defBody s_field_of, defScope s_field_of, [], []⟩
def dq14 : He.DefD := ⟨("first_byte", none), "first_byte", "first_byte", defArgs s_first_byte, defBody s_first_byte, defScope s_first_byte, [], []⟩
def dq15 : He.DefD := ⟨("begun_by", none), "begun_by", "begun_by", defArgs s_begun_by, defBody s_begun_by, defScope s_begun_by, [], []⟩
def dq16 : He.DefD := ⟨("is_word", none), "is_word", "is_word", defArgs s_is_word, defBody s_is_word, defScope s_is_word, [], []⟩
def dq17 : He.DefD := ⟨("has_registers", none), "has_registers", "has_registers", defArgs s_has_registers, defBody s_has_registers, defScope s_has_registers, [], []⟩
def dq18 : He.DefD := ⟨("has_number", none), "has_number", "has_number", defArgs s_has_number, defBody s_has_number, defScope s_has_number, [], []⟩
def dq19 : He.DefD := ⟨("bytes_of_word", none), "bytes_of_word", "bytes_of_word", defArgs s_bytes_of_word, defBody s_bytes_of_word, defScope s_bytes_of_word, [], []⟩
def dq20 : He.DefD := ⟨("word_at", none), "word_at", "word_at", defArgs s_word_at, defBody s_word_at, defScope s_word_at, [], [("at", .int 0)]⟩
def dq21 : He.DefD := ⟨("words_of", none), "words_of", "words_of", defArgs s_words_of, defBody s_words_of, defScope s_words_of, [], []⟩
def dq22 : He.DefD := ⟨("show_word", none), "show_word", "show_word", defArgs s_show_word, defBody s_show_word, defScope s_show_word, [], []⟩
def dq23 : He.DefD := ⟨("read_word", none), "read_word", "read_word", defArgs s_read_word, defBody s_read_word, defScope s_read_word, [], []⟩
def dq24 : He.DefD := ⟨("number_told", none), "number_told", "number_told", defArgs s_number_told, defBody s_number_told, defScope s_number_told, [], []⟩
def dq25 : He.DefD := ⟨("_law_feed", none), "_law_feed", "_law_feed", defArgs s_l_feed, defBody s_l_feed, defScope s_l_feed, [], []⟩
def dq26 : He.DefD := ⟨("_law_draw", none), "_law_draw", "_law_draw", defArgs s_l_draw, defBody s_l_draw, defScope s_l_draw, [], []⟩
def dq27 : He.DefD := ⟨("_law_pick", none), "_law_pick", "_law_pick", defArgs s_l_pick, defBody s_l_pick, defScope s_l_pick, [], []⟩
def dq28 : He.DefD := ⟨("_law_table", none), "_law_table", "_law_table", defArgs s_l_table, defBody s_l_table, defScope s_l_table, [], []⟩
def dq29 : He.DefD := ⟨("_law_drawn_word", none), "_law_drawn_word", "_law_drawn_word", defArgs s_l_drawn_word, defBody s_l_drawn_word, defScope s_l_drawn_word, [], []⟩
def dq30 : He.DefD := ⟨("_law_signs", none), "_law_signs", "_law_signs", defArgs s_l_signs, defBody s_l_signs, defScope s_l_signs, [], []⟩
def dq31 : He.DefD := ⟨("_law_bent_text", none), "_law_bent_text", "_law_bent_text", defArgs s_l_bent_text, defBody s_l_bent_text, defScope s_l_bent_text, [], []⟩
def dq32 : He.DefD := ⟨("_law_text", none), "_law_text", "_law_text", defArgs s_l_text, defBody s_l_text, defScope s_l_text, [], []⟩
def dq33 : He.DefD := ⟨("_law_read", none), "_law_read", "_law_read", defArgs s_l_read, defBody s_l_read, defScope s_l_read, [], []⟩
def dq34 : He.DefD := ⟨("_law_numbers", none), "_law_numbers", "_law_numbers", defArgs s_l_numbers, defBody s_l_numbers, defScope s_l_numbers, [], []⟩
def dq35 : He.DefD := ⟨("_law_right", none), "_law_right", "_law_right", defArgs s_l_right, defBody s_l_right, defScope s_l_right, [], []⟩
def dq36 : He.DefD := ⟨("law", none), "law", "law", defArgs s_law, defBody s_law, defScope s_law, [], []⟩
def fnq : List He.DefD := [dq1, dq2, dq3, dq4, dq5, dq6, dq7, dq8, dq9, dq10, dq11, dq12, dq13, dq14, dq15, dq16, dq17, dq18, dq19, dq20, dq21, dq22, dq23, dq24, dq25, dq26, dq27, dq28, dq29, dq30, dq31, dq32, dq33, dq34, dq35, dq36]
def faq : List He.Fa := [.glo "WORDS", .glo "REGISTERS", .glo "SPANS", .glo "FIELDS", .glo "NoWord", .glo "NoNumber", .glo "is_whole", .glo "is_between", .glo "is_tuple_of", .glo "copied", .glo "show_hex", .glo "read_hex", .glo "may_stand", .glo "bytes_of", .glo "number_of", .glo "registers_of", .glo "field_of", .glo "first_byte", .glo "begun_by", .glo "is_word", .glo "has_registers", .glo "has_number", .glo "bytes_of_word", .glo "word_at", .glo "words_of", .glo "show_word", .glo "read_word", .glo "number_told", .glo "_law_feed", .glo "_law_draw", .glo "_law_pick", .glo "_law_table", .glo "_law_drawn_word", .glo "_law_signs", .glo "_law_bent_text", .glo "_law_text", .glo "_law_read", .glo "_law_numbers", .glo "_law_right", .glo "law", .free "isinstance", .free "int", .free "bool", .free "str", .free "list", .free "tuple", .free "dict", .free "ValueError", .free "range", .free "reversed", .free "zip", .free "len", .free "abs", .free "all", .free "sorted", .free "min", .meth "NoWord" "__init__", .meth "NoNumber" "__init__", .noat "NoWord" "at", .noat "NoNumber" "number", .str "SIGNS" "0123456789abcdef", .int "BYTES_A_LINE" 16, .str "FIGURES" "0123456789", .int "MOST_FIGURES" 5]
def tsq : List TabD := [("WORDS", tbW), ("REGISTERS", tbR), ("SPANS", tbS)]
def nsq : List TabN := [("FIELDS", tbF)]
def tfq : List He.Defn := []
def exq (K : PySem.W.Frag) : Bool := oexB K (He.ga K "NoWord") && (oexB K (He.ga K "NoNumber") && (excB K (He.ga K "NoWord") && ((PySem.W.isClsIn K (He.ga K "NoWord") && decide (PySem.W.exmOne K (.ref (He.ga K "NoWord")) (.ref (He.ga K "NoWord")) = some true)) && vInitB K)))
def looseq : List Str := (["WORDS", "REGISTERS", "SPANS", "FIELDS", "NoWord", "NoNumber", "is_whole", "is_between", "is_tuple_of", "copied", "show_hex", "read_hex", "may_stand", "bytes_of", "number_of", "registers_of", "field_of", "first_byte"] : List Str) ++ (["begun_by", "is_word", "has_registers", "has_number", "bytes_of_word", "word_at", "words_of", "show_word", "read_word", "number_told", "_law_feed", "_law_draw", "_law_pick", "_law_table", "_law_drawn_word", "_law_signs", "_law_bent_text", "_law_text", "_law_read", "_law_numbers", "_law_right", "SIGNS", "BYTES_A_LINE", "FIGURES", "MOST_FIGURES", "NoHex", "alike", "alike_rows", "alike_dicts", "has_entry"] : List Str)
abbrev Rq : PySem.W.OpenRow := PySem.W.OpenLaw.row PySem.Challenge.rw_byteround_k05_whole_words_there_and_back
abbrev hkq : PySem.W.Hook := hookQ 5 faq fnq tsq nsq tfq exq
def obq (s : PySem.W.SharedT) : AlQ := obsQ 5 faq fnq tsq nsq tfq exq (HandSHeadRun.getT s)
theorem obq_eq (s : PySem.W.SharedT) : obq s = hkq.obs s.abs := obsQ_eq (HandSHeadRun.getT_eq s)
theorem factsq {P : Program} {w : World} {K : PySem.W.Frag} {h : Heap} {mg : Str → Option Value} {fa : Addr} (X : K.In h) (G : h.Ns mainGlobals mg) (hfa : mg ("law" : Str) = some (.ref fa)) (c : SaysQ faq fnq tsq nsq tfq exq w h K) :
    ∃ fd : FuncData, (∀ (s : Shared) (v : Value), BindsTo s fd ⟨[v], []⟩ [("_law_script", v)]) ∧ ∀ base : Heap, K.In base → base.Ns mainGlobals mg → FnG P w K mg base 9 fa fd ["_law_script"] (spD K fLaw) := by
  obtain ⟨fd1, D1⟩ := c.m.d.def_ 0 (d := dq1) rfl
  obtain ⟨fd2, D2⟩ := c.m.d.def_ 1 (d := dq2) rfl
  obtain ⟨fd3, D3⟩ := c.m.d.def_ 2 (d := dq3) rfl
  obtain ⟨fd4, D4⟩ := c.m.d.def_ 3 (d := dq4) rfl
  obtain ⟨fd5, D5⟩ := c.m.d.def_ 4 (d := dq5) rfl
  obtain ⟨fd6, D6⟩ := c.m.d.def_ 5 (d := dq6) rfl
  obtain ⟨fd7, D7⟩ := c.m.d.def_ 6 (d := dq7) rfl
  obtain ⟨fd8, D8⟩ := c.m.d.def_ 7 (d := dq8) rfl
  obtain ⟨fd9, D9⟩ := c.m.d.def_ 8 (d := dq9) rfl
  obtain ⟨fd10, D10⟩ := c.m.d.def_ 9 (d := dq10) rfl
  obtain ⟨fd11, D11⟩ := c.m.d.def_ 10 (d := dq11) rfl
  obtain ⟨fd12, D12⟩ := c.m.d.def_ 11 (d := dq12) rfl
  obtain ⟨fd13, D13⟩ := c.m.d.def_ 12 (d := dq13) rfl
  obtain ⟨fd14, D14⟩ := c.m.d.def_ 13 (d := dq14) rfl
  obtain ⟨fd15, D15⟩ := c.m.d.def_ 14 (d := dq15) rfl
  obtain ⟨fd16, D16⟩ := c.m.d.def_ 15 (d := dq16) rfl
  obtain ⟨fd17, D17⟩ := c.m.d.def_ 16 (d := dq17) rfl
  obtain ⟨fd18, D18⟩ := c.m.d.def_ 17 (d := dq18) rfl
  obtain ⟨fd19, D19⟩ := c.m.d.def_ 18 (d := dq19) rfl
  obtain ⟨fd20, D20⟩ := c.m.d.def_ 19 (d := dq20) rfl
  obtain ⟨fd21, D21⟩ := c.m.d.def_ 20 (d := dq21) rfl
  obtain ⟨fd22, D22⟩ := c.m.d.def_ 21 (d := dq22) rfl
  obtain ⟨fd23, D23⟩ := c.m.d.def_ 22 (d := dq23) rfl
  obtain ⟨fd24, D24⟩ := c.m.d.def_ 23 (d := dq24) rfl
  obtain ⟨fd25, D25⟩ := c.m.d.def_ 24 (d := dq25) rfl
  obtain ⟨fd26, D26⟩ := c.m.d.def_ 25 (d := dq26) rfl
  obtain ⟨fd27, D27⟩ := c.m.d.def_ 26 (d := dq27) rfl
  obtain ⟨fd28, D28⟩ := c.m.d.def_ 27 (d := dq28) rfl
  obtain ⟨fd29, D29⟩ := c.m.d.def_ 28 (d := dq29) rfl
  obtain ⟨fd30, D30⟩ := c.m.d.def_ 29 (d := dq30) rfl
  obtain ⟨fd31, D31⟩ := c.m.d.def_ 30 (d := dq31) rfl
  obtain ⟨fd32, D32⟩ := c.m.d.def_ 31 (d := dq32) rfl
  obtain ⟨fd33, D33⟩ := c.m.d.def_ 32 (d := dq33) rfl
  obtain ⟨fd34, D34⟩ := c.m.d.def_ 33 (d := dq34) rfl
  obtain ⟨fd35, D35⟩ := c.m.d.def_ 34 (d := dq35) rfl
  obtain ⟨fd36, D36⟩ := c.m.d.def_ 35 (d := dq36) rfl
  have m_WORDS := He.glo_ok X G (c.m.d.fact 0 (f := .glo "WORDS") rfl)
  have m_REGISTERS := He.glo_ok X G (c.m.d.fact 1 (f := .glo "REGISTERS") rfl)
  have m_SPANS := He.glo_ok X G (c.m.d.fact 2 (f := .glo "SPANS") rfl)
  have m_FIELDS := He.glo_ok X G (c.m.d.fact 3 (f := .glo "FIELDS") rfl)
  have m_NoWord := He.glo_ok X G (c.m.d.fact 4 (f := .glo "NoWord") rfl)
  have m_NoNumber := He.glo_ok X G (c.m.d.fact 5 (f := .glo "NoNumber") rfl)
  have m_is_whole := He.glo_ok X G (c.m.d.fact 6 (f := .glo "is_whole") rfl)
  have m_is_between := He.glo_ok X G (c.m.d.fact 7 (f := .glo "is_between") rfl)
  have m_is_tuple_of := He.glo_ok X G (c.m.d.fact 8 (f := .glo "is_tuple_of") rfl)
  have m_copied := He.glo_ok X G (c.m.d.fact 9 (f := .glo "copied") rfl)
  have m_show_hex := He.glo_ok X G (c.m.d.fact 10 (f := .glo "show_hex") rfl)
  have m_read_hex := He.glo_ok X G (c.m.d.fact 11 (f := .glo "read_hex") rfl)
  have m_may_stand := He.glo_ok X G (c.m.d.fact 12 (f := .glo "may_stand") rfl)
  have m_bytes_of := He.glo_ok X G (c.m.d.fact 13 (f := .glo "bytes_of") rfl)
  have m_number_of := He.glo_ok X G (c.m.d.fact 14 (f := .glo "number_of") rfl)
  have m_registers_of := He.glo_ok X G (c.m.d.fact 15 (f := .glo "registers_of") rfl)
  have m_field_of := He.glo_ok X G (c.m.d.fact 16 (f := .glo "field_of") rfl)
  have m_first_byte := He.glo_ok X G (c.m.d.fact 17 (f := .glo "first_byte") rfl)
  have m_begun_by := He.glo_ok X G (c.m.d.fact 18 (f := .glo "begun_by") rfl)
  have m_is_word := He.glo_ok X G (c.m.d.fact 19 (f := .glo "is_word") rfl)
  have m_has_registers := He.glo_ok X G (c.m.d.fact 20 (f := .glo "has_registers") rfl)
  have m_has_number := He.glo_ok X G (c.m.d.fact 21 (f := .glo "has_number") rfl)
  have m_bytes_of_word := He.glo_ok X G (c.m.d.fact 22 (f := .glo "bytes_of_word") rfl)
  have m_word_at := He.glo_ok X G (c.m.d.fact 23 (f := .glo "word_at") rfl)
  have m_words_of := He.glo_ok X G (c.m.d.fact 24 (f := .glo "words_of") rfl)
  have m_show_word := He.glo_ok X G (c.m.d.fact 25 (f := .glo "show_word") rfl)
  have m_read_word := He.glo_ok X G (c.m.d.fact 26 (f := .glo "read_word") rfl)
  have m_number_told := He.glo_ok X G (c.m.d.fact 27 (f := .glo "number_told") rfl)
  have m__law_feed := He.glo_ok X G (c.m.d.fact 28 (f := .glo "_law_feed") rfl)
  have m__law_draw := He.glo_ok X G (c.m.d.fact 29 (f := .glo "_law_draw") rfl)
  have m__law_pick := He.glo_ok X G (c.m.d.fact 30 (f := .glo "_law_pick") rfl)
  have m__law_table := He.glo_ok X G (c.m.d.fact 31 (f := .glo "_law_table") rfl)
  have m__law_drawn_word := He.glo_ok X G (c.m.d.fact 32 (f := .glo "_law_drawn_word") rfl)
  have m__law_signs := He.glo_ok X G (c.m.d.fact 33 (f := .glo "_law_signs") rfl)
  have m__law_bent_text := He.glo_ok X G (c.m.d.fact 34 (f := .glo "_law_bent_text") rfl)
  have m__law_text := He.glo_ok X G (c.m.d.fact 35 (f := .glo "_law_text") rfl)
  have m__law_read := He.glo_ok X G (c.m.d.fact 36 (f := .glo "_law_read") rfl)
  have m__law_numbers := He.glo_ok X G (c.m.d.fact 37 (f := .glo "_law_numbers") rfl)
  have m__law_right := He.glo_ok X G (c.m.d.fact 38 (f := .glo "_law_right") rfl)
  have m_law := He.glo_ok X G (c.m.d.fact 39 (f := .glo "law") rfl)
  have y_isinstance := He.free_ok X G (c.m.d.fact 40 (f := .free "isinstance") rfl)
  have y_int := He.free_ok X G (c.m.d.fact 41 (f := .free "int") rfl)
  have y_bool := He.free_ok X G (c.m.d.fact 42 (f := .free "bool") rfl)
  have y_str := He.free_ok X G (c.m.d.fact 43 (f := .free "str") rfl)
  have y_list := He.free_ok X G (c.m.d.fact 44 (f := .free "list") rfl)
  have y_tuple := He.free_ok X G (c.m.d.fact 45 (f := .free "tuple") rfl)
  have y_dict := He.free_ok X G (c.m.d.fact 46 (f := .free "dict") rfl)
  have y_ValueError := He.free_ok X G (c.m.d.fact 47 (f := .free "ValueError") rfl)
  have y_range := He.free_ok X G (c.m.d.fact 48 (f := .free "range") rfl)
  have y_reversed := He.free_ok X G (c.m.d.fact 49 (f := .free "reversed") rfl)
  have y_zip := He.free_ok X G (c.m.d.fact 50 (f := .free "zip") rfl)
  have y_len := He.free_ok X G (c.m.d.fact 51 (f := .free "len") rfl)
  have y_abs := He.free_ok X G (c.m.d.fact 52 (f := .free "abs") rfl)
  have y_all := He.free_ok X G (c.m.d.fact 53 (f := .free "all") rfl)
  have y_sorted := He.free_ok X G (c.m.d.fact 54 (f := .free "sorted") rfl)
  have y_min := He.free_ok X G (c.m.d.fact 55 (f := .free "min") rfl)
  have MW := He.meth_ok (c.m.d.fact 56 (f := .meth "NoWord" "__init__") rfl)
  have MN := He.meth_ok (c.m.d.fact 57 (f := .meth "NoNumber" "__init__") rfl)
  have nW := He.noat_ok (c.m.d.fact 58 (f := .noat "NoWord" "at") rfl)
  have nN := He.noat_ok (c.m.d.fact 59 (f := .noat "NoNumber" "number") rfl)
  obtain ⟨t0, c_SIGNS⟩ := He.str_ok X G (c.m.d.fact 60 (f := .str "SIGNS" "0123456789abcdef") rfl)
  obtain ⟨t1, c_BYTES_A_LINE⟩ := He.int_ok X G (c.m.d.fact 61 (f := .int "BYTES_A_LINE" 16) rfl)
  obtain ⟨t2, c_FIGURES⟩ := He.str_ok X G (c.m.d.fact 62 (f := .str "FIGURES" "0123456789") rfl)
  obtain ⟨t3, c_MOST_FIGURES⟩ := He.int_ok X G (c.m.d.fact 63 (f := .int "MOST_FIGURES" 5) rfl)
  obtain ⟨x1, x⟩ := He.ba c.more
  obtain ⟨x2, x⟩ := He.ba x
  obtain ⟨x3, x⟩ := He.ba x
  obtain ⟨x4, x5⟩ := He.ba x
  have TW := oexB_ok x1
  have TN := oexB_ok x2
  obtain ⟨XW, EW⟩ := excB_ok x3
  obtain ⟨i1, i2⟩ := He.ba x4
  have vV := vInitB_ok x5
  have KW : Kex K (He.ga K "NoWord") "at" := { T := XW, E := EW, cl := i1, at_ := nW, xm := of_decide_eq_true i2 }
  obtain ⟨eW, nnW, KWd⟩ := c.m.tab 0 (t := ("WORDS", tbW)) rfl
  obtain ⟨eR, nnR, KRd⟩ := c.m.tab 1 (t := ("REGISTERS", tbR)) rfl
  obtain ⟨eS, nnS, KSd⟩ := c.m.tab 2 (t := ("SPANS", tbS)) rfl
  have kdW := c.m.kd 0 (t := ("WORDS", tbW)) rfl
  have kdR := c.m.kd 1 (t := ("REGISTERS", tbR)) rfl
  have kdS := c.m.kd 2 (t := ("SPANS", tbS)) rfl
  have ndF := c.m.nd 0 (t := ("FIELDS", tbF)) rfl
  have e := hfa.symm.trans m_law
  cases e
  have F1 : Fun K "is_whole" "is_whole" s_is_whole (He.ga K "is_whole") fd1 := fun_D D1
  have b1 := F1.binds (ps := ["thing"]) fun _ _ _ _ _ _ us hl => match us, hl with | [_], _ => rfl
  have C1 : Cal K mg "is_whole" (He.ga K "is_whole") fd1 ["thing"] := ⟨m_is_whole, F1.kp, b1⟩
  have F2 : Fun K "is_between" "is_between" s_is_between (He.ga K "is_between") fd2 := fun_D D2
  have b2 := F2.binds (ps := ["thing", "least", "most"]) fun _ _ _ _ _ _ us hl => match us, hl with | [_, _, _], _ => rfl
  have C2 : Cal K mg "is_between" (He.ga K "is_between") fd2 ["thing", "least", "most"] := ⟨m_is_between, F2.kp, b2⟩
  have F3 : Fun K "is_tuple_of" "is_tuple_of" s_is_tuple_of (He.ga K "is_tuple_of") fd3 := fun_D D3
  have b3 := F3.binds (ps := ["thing", "many"]) fun _ _ _ _ _ _ us hl => match us, hl with | [_, _], _ => rfl
  have C3 : Cal K mg "is_tuple_of" (He.ga K "is_tuple_of") fd3 ["thing", "many"] := ⟨m_is_tuple_of, F3.kp, b3⟩
  have F4 : Fun K "copied" "copied" s_copied (He.ga K "copied") fd4 := fun_D D4
  have b4 := F4.binds (ps := ["thing"]) fun _ _ _ _ _ _ us hl => match us, hl with | [_], _ => rfl
  have C4 : Cal K mg "copied" (He.ga K "copied") fd4 ["thing"] := ⟨m_copied, F4.kp, b4⟩
  have F5 : Fun K "__init__" "NoWord.__init__" s_NoWord_init (He.ma K (He.ga K "NoWord") "__init__") fd5 := fun_D D5
  have b5 := F5.binds (ps := ["self", "at"]) fun _ _ _ _ _ _ us hl => match us, hl with | [_, _], _ => rfl
  have F6 : Fun K "__init__" "NoNumber.__init__" s_NoNumber_init (He.ma K (He.ga K "NoNumber") "__init__") fd6 := fun_D D6
  have b6 := F6.binds (ps := ["self", "number"]) fun _ _ _ _ _ _ us hl => match us, hl with | [_, _], _ => rfl
  have F7 : Fun K "show_hex" "show_hex" s_show_hex (He.ga K "show_hex") fd7 := fun_D D7
  have b7 := F7.binds (ps := ["row"]) fun _ _ _ _ _ _ us hl => match us, hl with | [_], _ => rfl
  have C7 : Cal K mg "show_hex" (He.ga K "show_hex") fd7 ["row"] := ⟨m_show_hex, F7.kp, b7⟩
  have F8 : Fun K "read_hex" "read_hex" s_read_hex (He.ga K "read_hex") fd8 := fun_D D8
  have b8 := F8.binds (ps := ["text"]) fun _ _ _ _ _ _ us hl => match us, hl with | [_], _ => rfl
  have C8 : Cal K mg "read_hex" (He.ga K "read_hex") fd8 ["text"] := ⟨m_read_hex, F8.kp, b8⟩
  have F9 : Fun K "may_stand" "may_stand" s_may_stand (He.ga K "may_stand") fd9 := fun_D D9
  have b9 := F9.binds (ps := ["sign", "at"]) fun _ _ _ _ _ _ us hl => match us, hl with | [_, _], _ => rfl
  have C9 : Cal K mg "may_stand" (He.ga K "may_stand") fd9 ["sign", "at"] := ⟨m_may_stand, F9.kp, b9⟩
  have F10 : FunD K "bytes_of" "bytes_of" (defArgs s_bytes_of) (defBody s_bytes_of) (defScope s_bytes_of) [] [("many", V.int 2)] (He.ga K "bytes_of") fd10 := D10
  obtain ⟨v10, bD10, vD10⟩ : ∃ v : Value, Binds K fd10 ["number", "many"] [v] ∧ Vals [V.int 2] [v] := by
    obtain ⟨ds, r, z⟩ := F10.binds0 (ps := ["number", "many"]) 1 (by simp) rfl fun D doc pm an cdv ct us ks hu hk => match us, hu, ks, hk with | [_], _, [_], _ => ⟨_, _, _, _, _, _, rfl, rfl, rfl⟩
    obtain ⟨u, rfl, ru⟩ := vals1 r
    exact ⟨u, z, .cons ru .nil⟩
  have KB10 : KBn K fd10 ["number", "many"] 1 ["many"] (fun us ws => us ++ ws) (fun us ws => us ++ ws) := by
    obtain ⟨oc, od, dV, kV, doc, pm, an, cdv, ct, osl, rfl, lk, hcd, hD, hK⟩ := F10.ex
    rcases hD with ⟨_, rfl⟩ | ⟨e, _⟩
    · refine ⟨fun s us ws X2 h1 h2 => ?_, fun a b => a.append b⟩
      match us, h1, ws, h2 with
      | [u], _, [x], _ => exact .of_eq rfl
    · exact absurd rfl e
  have C10 : CalM K mg "bytes_of" (He.ga K "bytes_of") := ⟨m_bytes_of, F10.kp⟩
  have F11 : Fun K "number_of" "number_of" s_number_of (He.ga K "number_of") fd11 := fun_D D11
  have b11 := F11.binds (ps := ["row"]) fun _ _ _ _ _ _ us hl => match us, hl with | [_], _ => rfl
  have C11 : Cal K mg "number_of" (He.ga K "number_of") fd11 ["row"] := ⟨m_number_of, F11.kp, b11⟩
  have F12 : Fun K "registers_of" "registers_of" s_registers_of (He.ga K "registers_of") fd12 := fun_D D12
  have b12 := F12.binds (ps := ["name"]) fun _ _ _ _ _ _ us hl => match us, hl with | [_], _ => rfl
  have C12 : Cal K mg "registers_of" (He.ga K "registers_of") fd12 ["name"] := ⟨m_registers_of, F12.kp, b12⟩
  have F13 : Fun K "field_of" "field_of" s_field_of (He.ga K "field_of") fd13 := fun_D D13
  have b13 := F13.binds (ps := ["name"]) fun _ _ _ _ _ _ us hl => match us, hl with | [_], _ => rfl
  have C13 : Cal K mg "field_of" (He.ga K "field_of") fd13 ["name"] := ⟨m_field_of, F13.kp, b13⟩
  have F14 : Fun K "first_byte" "first_byte" s_first_byte (He.ga K "first_byte") fd14 := fun_D D14
  have b14 := F14.binds (ps := ["name", "registers"]) fun _ _ _ _ _ _ us hl => match us, hl with | [_, _], _ => rfl
  have C14 : Cal K mg "first_byte" (He.ga K "first_byte") fd14 ["name", "registers"] := ⟨m_first_byte, F14.kp, b14⟩
  have F15 : Fun K "begun_by" "begun_by" s_begun_by (He.ga K "begun_by") fd15 := fun_D D15
  have b15 := F15.binds (ps := ["byte"]) fun _ _ _ _ _ _ us hl => match us, hl with | [_], _ => rfl
  have C15 : Cal K mg "begun_by" (He.ga K "begun_by") fd15 ["byte"] := ⟨m_begun_by, F15.kp, b15⟩
  have F16 : Fun K "is_word" "is_word" s_is_word (He.ga K "is_word") fd16 := fun_D D16
  have b16 := F16.binds (ps := ["thing"]) fun _ _ _ _ _ _ us hl => match us, hl with | [_], _ => rfl
  have C16 : Cal K mg "is_word" (He.ga K "is_word") fd16 ["thing"] := ⟨m_is_word, F16.kp, b16⟩
  have F17 : Fun K "has_registers" "has_registers" s_has_registers (He.ga K "has_registers") fd17 := fun_D D17
  have b17 := F17.binds (ps := ["name", "registers"]) fun _ _ _ _ _ _ us hl => match us, hl with | [_, _], _ => rfl
  have C17 : Cal K mg "has_registers" (He.ga K "has_registers") fd17 ["name", "registers"] := ⟨m_has_registers, F17.kp, b17⟩
  have F18 : Fun K "has_number" "has_number" s_has_number (He.ga K "has_number") fd18 := fun_D D18
  have b18 := F18.binds (ps := ["name", "number"]) fun _ _ _ _ _ _ us hl => match us, hl with | [_, _], _ => rfl
  have C18 : Cal K mg "has_number" (He.ga K "has_number") fd18 ["name", "number"] := ⟨m_has_number, F18.kp, b18⟩
  have F19 : Fun K "bytes_of_word" "bytes_of_word" s_bytes_of_word (He.ga K "bytes_of_word") fd19 := fun_D D19
  have b19 := F19.binds (ps := ["word"]) fun _ _ _ _ _ _ us hl => match us, hl with | [_], _ => rfl
  have C19 : Cal K mg "bytes_of_word" (He.ga K "bytes_of_word") fd19 ["word"] := ⟨m_bytes_of_word, F19.kp, b19⟩
  have F20 : FunD K "word_at" "word_at" (defArgs s_word_at) (defBody s_word_at) (defScope s_word_at) [] [("at", V.int 0)] (He.ga K "word_at") fd20 := D20
  obtain ⟨v20, bD20, vD20⟩ : ∃ v : Value, Binds K fd20 ["row", "at"] [v] ∧ Vals [V.int 0] [v] := by
    obtain ⟨ds, r, z⟩ := F20.binds0 (ps := ["row", "at"]) 1 (by simp) rfl fun D doc pm an cdv ct us ks hu hk => match us, hu, ks, hk with | [_], _, [_], _ => ⟨_, _, _, _, _, _, rfl, rfl, rfl⟩
    obtain ⟨u, rfl, ru⟩ := vals1 r
    exact ⟨u, z, .cons ru .nil⟩
  have KB20 : KBn K fd20 ["row", "at"] 1 ["at"] (fun us ws => us ++ ws) (fun us ws => us ++ ws) := by
    obtain ⟨oc, od, dV, kV, doc, pm, an, cdv, ct, osl, rfl, lk, hcd, hD, hK⟩ := F20.ex
    rcases hD with ⟨_, rfl⟩ | ⟨e, _⟩
    · refine ⟨fun s us ws X2 h1 h2 => ?_, fun a b => a.append b⟩
      match us, h1, ws, h2 with
      | [u], _, [x], _ => exact .of_eq rfl
    · exact absurd rfl e
  have C20 : CalM K mg "word_at" (He.ga K "word_at") := ⟨m_word_at, F20.kp⟩
  have F21 : Fun K "words_of" "words_of" s_words_of (He.ga K "words_of") fd21 := fun_D D21
  have b21 := F21.binds (ps := ["row"]) fun _ _ _ _ _ _ us hl => match us, hl with | [_], _ => rfl
  have C21 : Cal K mg "words_of" (He.ga K "words_of") fd21 ["row"] := ⟨m_words_of, F21.kp, b21⟩
  have F22 : Fun K "show_word" "show_word" s_show_word (He.ga K "show_word") fd22 := fun_D D22
  have b22 := F22.binds (ps := ["word"]) fun _ _ _ _ _ _ us hl => match us, hl with | [_], _ => rfl
  have C22 : Cal K mg "show_word" (He.ga K "show_word") fd22 ["word"] := ⟨m_show_word, F22.kp, b22⟩
  have F23 : Fun K "read_word" "read_word" s_read_word (He.ga K "read_word") fd23 := fun_D D23
  have b23 := F23.binds (ps := ["text"]) fun _ _ _ _ _ _ us hl => match us, hl with | [_], _ => rfl
  have C23 : Cal K mg "read_word" (He.ga K "read_word") fd23 ["text"] := ⟨m_read_word, F23.kp, b23⟩
  have F24 : Fun K "number_told" "number_told" s_number_told (He.ga K "number_told") fd24 := fun_D D24
  have b24 := F24.binds (ps := ["texts"]) fun _ _ _ _ _ _ us hl => match us, hl with | [_], _ => rfl
  have C24 : Cal K mg "number_told" (He.ga K "number_told") fd24 ["texts"] := ⟨m_number_told, F24.kp, b24⟩
  have F25 : Fun K "_law_feed" "_law_feed" s_l_feed (He.ga K "_law_feed") fd25 := fun_D D25
  have b25 := F25.binds (ps := ["_law_script"]) fun _ _ _ _ _ _ us hl => match us, hl with | [_], _ => rfl
  have C25 : Cal K mg "_law_feed" (He.ga K "_law_feed") fd25 ["_law_script"] := ⟨m__law_feed, F25.kp, b25⟩
  have F26 : Fun K "_law_draw" "_law_draw" s_l_draw (He.ga K "_law_draw") fd26 := fun_D D26
  have b26 := F26.binds (ps := ["_law_pen", "_law_span"]) fun _ _ _ _ _ _ us hl => match us, hl with | [_, _], _ => rfl
  have C26 : Cal K mg "_law_draw" (He.ga K "_law_draw") fd26 ["_law_pen", "_law_span"] := ⟨m__law_draw, F26.kp, b26⟩
  have F27 : Fun K "_law_pick" "_law_pick" s_l_pick (He.ga K "_law_pick") fd27 := fun_D D27
  have b27 := F27.binds (ps := ["_law_pen", "_law_some"]) fun _ _ _ _ _ _ us hl => match us, hl with | [_, _], _ => rfl
  have C27 : Cal K mg "_law_pick" (He.ga K "_law_pick") fd27 ["_law_pen", "_law_some"] := ⟨m__law_pick, F27.kp, b27⟩
  have F28 : Fun K "_law_table" "_law_table" s_l_table (He.ga K "_law_table") fd28 := fun_D D28
  have b28 := F28.binds (ps := []) fun _ _ _ _ _ _ us hl => match us, hl with | [], _ => rfl
  have C28 : Cal K mg "_law_table" (He.ga K "_law_table") fd28 [] := ⟨m__law_table, F28.kp, b28⟩
  have F29 : Fun K "_law_drawn_word" "_law_drawn_word" s_l_drawn_word (He.ga K "_law_drawn_word") fd29 := fun_D D29
  have b29 := F29.binds (ps := ["_law_pen"]) fun _ _ _ _ _ _ us hl => match us, hl with | [_], _ => rfl
  have C29 : Cal K mg "_law_drawn_word" (He.ga K "_law_drawn_word") fd29 ["_law_pen"] := ⟨m__law_drawn_word, F29.kp, b29⟩
  have F30 : Fun K "_law_signs" "_law_signs" s_l_signs (He.ga K "_law_signs") fd30 := fun_D D30
  have b30 := F30.binds (ps := []) fun _ _ _ _ _ _ us hl => match us, hl with | [], _ => rfl
  have C30 : Cal K mg "_law_signs" (He.ga K "_law_signs") fd30 [] := ⟨m__law_signs, F30.kp, b30⟩
  have F31 : Fun K "_law_bent_text" "_law_bent_text" s_l_bent_text (He.ga K "_law_bent_text") fd31 := fun_D D31
  have b31 := F31.binds (ps := ["_law_pen", "_law_text_here", "_law_near"]) fun _ _ _ _ _ _ us hl => match us, hl with | [_, _, _], _ => rfl
  have C31 : Cal K mg "_law_bent_text" (He.ga K "_law_bent_text") fd31 ["_law_pen", "_law_text_here", "_law_near"] := ⟨m__law_bent_text, F31.kp, b31⟩
  have F32 : Fun K "_law_text" "_law_text" s_l_text (He.ga K "_law_text") fd32 := fun_D D32
  have b32 := F32.binds (ps := ["_law_word"]) fun _ _ _ _ _ _ us hl => match us, hl with | [_], _ => rfl
  have C32 : Cal K mg "_law_text" (He.ga K "_law_text") fd32 ["_law_word"] := ⟨m__law_text, F32.kp, b32⟩
  have F33 : Fun K "_law_read" "_law_read" s_l_read (He.ga K "_law_read") fd33 := fun_D D33
  have b33 := F33.binds (ps := ["_law_thing"]) fun _ _ _ _ _ _ us hl => match us, hl with | [_], _ => rfl
  have C33 : Cal K mg "_law_read" (He.ga K "_law_read") fd33 ["_law_thing"] := ⟨m__law_read, F33.kp, b33⟩
  have F34 : Fun K "_law_numbers" "_law_numbers" s_l_numbers (He.ga K "_law_numbers") fd34 := fun_D D34
  have b34 := F34.binds (ps := ["_law_pen", "_law_text_here"]) fun _ _ _ _ _ _ us hl => match us, hl with | [_, _], _ => rfl
  have C34 : Cal K mg "_law_numbers" (He.ga K "_law_numbers") fd34 ["_law_pen", "_law_text_here"] := ⟨m__law_numbers, F34.kp, b34⟩
  have F35 : Fun K "_law_right" "_law_right" s_l_right (He.ga K "_law_right") fd35 := fun_D D35
  have b35 := F35.binds (ps := ["_law_thing"]) fun _ _ _ _ _ _ us hl => match us, hl with | [_], _ => rfl
  have C35 : Cal K mg "_law_right" (He.ga K "_law_right") fd35 ["_law_thing"] := ⟨m__law_right, F35.kp, b35⟩
  have F36 : Fun K "law" "law" s_law (He.ga K "law") fd36 := fun_D D36
  have b36 := F36.binds (ps := ["_law_script"]) fun _ _ _ _ _ _ us hl => match us, hl with | [_], _ => rfl
  have C36 : Cal K mg "law" (He.ga K "law") fd36 ["_law_script"] := ⟨m_law, F36.kp, b36⟩
  refine ⟨fd36, fun s v => ?_, fun base kb nb => ?_⟩
  · obtain ⟨oc, od, kV, doc, pm, an, cdv, ct, osl, rfl, lk, hcd⟩ := F36.ex
    exact .of_eq rfl
  have XW : Xve K mg "NoWord" (He.ga K "NoWord") (He.ma K (He.ga K "NoWord") "__init__") fd5 ["self", "at"] := ⟨TW, MW.at_, beq_iff_eq.mp MW.fn, b5, m_NoWord⟩
  have XN : Xve K mg "NoNumber" (He.ga K "NoNumber") (He.ma K (He.ga K "NoNumber") "__init__") fd6 ["self", "number"] := ⟨TN, MN.at_, beq_iff_eq.mp MN.fn, b6, m_NoNumber⟩
  have h1 : FnOk P w K mg base CX0 1 _ fd1 ["thing"] (spD K fWhole) := ok_is_whole F1 y_isinstance y_int y_bool
  have h2 : FnOk P w K mg base CX0 2 _ fd2 ["thing", "least", "most"] (spD K fBetw) := ok_is_between F2 h1 C1
  have h3 : FnOk P w K mg base CX0 1 _ fd3 ["thing", "many"] (spD K fTup3) := ok_is_tuple_of F3 y_isinstance y_tuple y_len
  have hcI : FnOk P w K mg base CX0 1 _ fd4 ["thing"] (spD K fCopI) := ok_copiedI F4 y_isinstance y_bool y_int y_str y_list y_tuple y_dict C4
  have h4 : FnOk P w K mg base CX0 2 _ fd4 ["thing"] (spD K fCop) := ok_copied F4 y_isinstance y_bool y_int y_str y_list y_tuple y_dict hcI C4
  have h5 : FnOk P w K mg base CX0 3 _ fd5 ["self", "at"] (spIX K (He.ga K "NoWord") "at" okD) := ok_NoWord_init F5 TW nW y_ValueError vV h4 C4
  have h6 : FnOk P w K mg base CX0 3 _ fd6 ["self", "number"] (spIX K (He.ga K "NoNumber") "number" okD) := ok_NoNumber_init F6 TN nN y_ValueError vV h4 C4
  have h9 : FnOk P w K mg base CX0 1 _ fd9 ["sign", "at"] (spD K Hx.fMay) := Hx.ok_may_stand F9 c_SIGNS ⟨_, rfl⟩ c_BYTES_A_LINE ⟨_, rfl⟩
  have h7 : FnOk P w K mg base CX0 1 _ fd7 ["row"] (spD K Hx.fShowH) := Hx.ok_show_hex F7 y_len y_range c_BYTES_A_LINE ⟨_, rfl⟩
  have h8 : FnOk P w K mg base CX0 2 _ fd8 ["text"] (spD K Hx.fReadH) := Hx.ok_read_hex F8 y_len y_range y_isinstance y_str y_tuple c_SIGNS ⟨_, rfl⟩ h9 C9
  have h10 : FnOk P w K mg base (CX P w) 5 _ fd10 ["number", "many"] (spD K (fBytesOf (He.ga K "NoNumber"))) := ok_bytes_of F10 y_range y_tuple y_reversed h1 C1 h6 XN
  have h11 : FnOk P w K mg base CX0 1 _ fd11 ["row"] (spD K fNumberOf) := ok_number_of F11
  have h12 : FnOk P w K mg base CX0 1 _ fd12 ["name"] (spD K fRegs) := ok_registers_of F12 KWd m_WORDS kdW KRd m_REGISTERS kdR
  have h13 : FnOk P w K mg base CX0 1 _ fd13 ["name"] (spD K fField) := ok_field_of F13 KWd m_WORDS kdW ndF m_FIELDS
  have hf2 : FnOk P w K mg base CX0 1 _ fd13 ["name"] (spD K fField2) := ok_field_of2 F13 KWd m_WORDS kdW ndF m_FIELDS
  have h14 : FnOk P w K mg base CX0 2 _ fd14 ["name", "registers"] (spD K fFirst) := ok_first_byte F14 KWd m_WORDS kdW y_zip h12 C12
  have h15 : FnOk P w K mg base CX0 1 _ fd15 ["byte"] (spD K fBegun) := ok_begun_by F15 KWd m_WORDS kdW y_len KRd m_REGISTERS kdR KSd m_SPANS kdS
  have h18 : FnOk P w K mg base CX0 3 _ fd18 ["name", "number"] (spD K fHasN) := ok_has_number F18 hf2 C13 h2 C2
  have h17 : FnOk P w K mg base CX0 2 _ fd17 ["name", "registers"] (spD K fHasR) := ok_has_registers F17 y_isinstance y_str y_len y_all y_zip h12 C12
  have h16 : FnOk P w K mg base CX0 4 _ fd16 ["thing"] (spD K fIsW) := ok_is_word F16 y_isinstance y_str KWd m_WORDS kdW h3 C3 h17 C17 h18 C18
  have h19 : FnOk P w K mg base CX0 6 _ fd19 ["word"] (spD K fBOW) := ok_bytes_of_word F19 h14 C14 h13 C13 h10 C10 KB10
  have h20 : FnOk P w K mg base (CX P w) 5 _ fd20 ["row", "at"] (spD K (fWordAt (He.ga K "NoWord"))) := ok_word_at F20 y_len h15 C15 h13 C13 h11 C11 h5 XW
  have h21 : FnOk P w K mg base (CX P w) 6 _ fd21 ["row"] (spS K (fWordsOf (He.ga K "NoWord"))) := ok_words_of F21 y_len h20 C20 KB20
  have h22 : FnOk P w K mg base CX0 1 _ fd22 ["word"] (spD K fShow) := ok_show_word F22 y_list y_str
  have h24 : FnOk P w K mg base CX0 1 _ fd24 ["texts"] (spD K fTold) := ok_number_told F24 y_len y_all y_int c_FIGURES ⟨_, rfl⟩ c_MOST_FIGURES ⟨_, rfl⟩
  have h23 : FnOk P w K mg base (CX P w) 5 _ fd23 ["text"] (spD K (fRead (He.ga K "NoWord"))) := ok_read_word F23 y_isinstance y_str y_len KWd m_WORDS kdW h12 C12 h24 C24 h16 C16 h22 C22 h5 XW
  have h25 : FnOk P w K mg base CX0 1 _ fd25 ["_law_script"] (spN K fFeed) := ok_l_feed F25
  have h26 : FnOk P w K mg base CX0 1 _ fd26 ["_law_pen", "_law_span"] (spD K fDraw) := ok_l_draw F26 y_len y_abs y_range
  have h27 : FnOk P w K mg base CX0 2 _ fd27 ["_law_pen", "_law_some"] (spD K fPickU) := ok_l_pickU F27 y_len h26 C26
  have h28 : FnOk P w K mg base CX0 1 _ fd28 [] (spD K fTable) := ok_l_table F28
  have h29 : FnOk P w K mg base CX0 3 _ fd29 ["_law_pen"] (spD K fDrawn) := ok_l_drawn_word F29 y_sorted y_int h26 C26 h27 C27 h28 C28
  have h30 : FnOk P w K mg base CX0 1 _ fd30 [] (spD K fSigns) := ok_l_signs F30
  have h31 : FnOk P w K mg base CX0 2 _ fd31 ["_law_pen", "_law_text_here", "_law_near"] (spD K fBent) := ok_l_bent_text F31 y_len h26 C26 h30 C30
  have h32 : FnOk P w K mg base CX0 1 _ fd32 ["_law_word"] (spD K fShow) := ok_l_text F32 y_list y_str
  have h33 : FnOk P w K mg base CX0 6 _ fd33 ["_law_thing"] (spD K fReadL) := ok_l_read F33 y_isinstance y_bool m_NoWord KW h23 C23
  have h34 : FnOk P w K mg base CX0 3 _ fd34 ["_law_pen", "_law_text_here"] (spD K fNumbers) := ok_l_numbers F34 h27 C27
  have h35 : FnOk P w K mg base CX0 7 _ fd35 ["_law_thing"] (spD K fRight) := ok_l_right F35 y_isinstance y_str h33 C33 h16 C16 h32 C32 h22 C22
  exact ok_law F36 y_range y_min y_len y_list y_isinstance y_tuple y_str h25 C25 h26 C26 h27 C27 h29 C29 h31 C31 h32 C32 h33 C33 h34 C34 h35 C35 h19 C19 h20 C20 KB20 h21 C21 h7 C7 h8 C8 h22 C22 h23 C23

end Pa
namespace BrTop
open PySem PySem.W PySem.Calls PyProof.Rows HandSHeadRun
theorem Goes.of_segF {A : At} {α : Type} {x : Sem α} {s s' : SharedT} {a : α} {n : Nat} (res : α → Flow) (fl : Flow)
    (hr : ∀ (gd : Bool → Bool) (lv : List Value → List Value) (pos : Pos), ∃ p', segF (stepQ (denQ tabQ) A.P A.w) A.n0 A.ann 1 n s ⟨x.wrap (fun a => .pure (.done (res a))) deadEnd gd lv, A.c0, pos, [A.B0]⟩ = some (fl, s', A.c0, p'))
    (inj : ∀ b, res b = fl → b = a) : Goes A n x s a s' := Goes.of_seg res fl (fun gd lv pos => by
  obtain ⟨p, h⟩ := hr gd lv pos
  exact ⟨p, by rw [← segF_of, st_eq]; exact h⟩) inj
theorem Goes.alloc {A : At} {o : Obj} {s : SharedT} (h : ((s.tree.ins s.n o).get s.n).isSome = true) : Goes A 1 (PySem.alloc o) s s.n { s with tree := s.tree.ins s.n o, n := s.n + 1 } := fun K H gd lv pos => ⟨pos, fun N r q => by
  rw [Nat.add_comm]
  refine top_step (s1 := { s with tree := s.tree.ins s.n o, n := s.n + 1 }) ?_ rfl rfl q
  obtain ⟨T, n, life, gens, drawn, toks, os⟩ := s
  show stepT _ _ _ ⟨T, n, life, gens, drawn, toks, os⟩ ⟨.alloc o fun x => (Sem.pure x).wrap K H gd lv, _, _, _⟩ = _
  unfold stepT
  dsimp only at h ⊢
  rw [h]
  rfl⟩
abbrev Rq : PySem.W.OpenRow := PySem.W.OpenLaw.row PySem.Challenge.rw_byteround_k05_whole_words_there_and_back
abbrev Pq : Program := Rq.prog
def Bq : List Stmt := behindTheImports Pq
def envq : Env := { scope := Pq.main.scope, locals := mainNs, globals := mainNs, cells := [], code := .ref 13, frame := some 14 }
def c0q : Code := .body Bq envq
def wq (v : World) (b : Bool) : World := v.withFollow "special-get-raises" b
noncomputable def Aq (v : World) (b : Bool) : At := { P := Pq, w := wq v b, n0 := 11, ann := bootAnn (wq v b), c0 := c0q, B0 := topFrame default, hB := rfl, ok := fun cur pos h => ok_all cur pos h }
noncomputable def t0q (w : World) : BT := match putAll (boot_heap w.params).objs.toList .nil 0 with
  | some (t, _) => t
  | none => .nil
noncomputable def s00q (w : World) (os : OsState) : SharedT := bootT w os (t0q w, 11)
theorem put_q (v : World) (b : Bool) : (putAll (boot_heap (wq v b).params).objs.toList .nil 0).map (·.2) = some 11 := by
  cases b <;> kernel_rfl
noncomputable def k0q (v : World) (b : Bool) (os : OsState) : Option (SharedT × Thread) := goK (stepT (denote treeTable) Pq (wq v b)) 11 (bootAnn (wq v b)) 12 (s00q (wq v b) os) (topStub Pq)
theorem head0 (v : World) (b : Bool) (os : OsState) : (k0q v b os).map (·.2) = some ⟨denote treeTable c0q, c0q, default, [topFrame default]⟩ := by
  cases b <;> kernel_rfl
noncomputable def s0q (v : World) (b : Bool) (os : OsState) : SharedT := fst2 (s00q (wq v b) os) (k0q v b os)
noncomputable def stq (v : World) (b : Bool) : SharedT → Thread → Option (SharedT × Thread) := stepQ (denQ tabQ) Pq (wq v b)
noncomputable def k1q (v : World) (b : Bool) (os : OsState) : Option (Flow × SharedT × Code × Pos) := segF (stq v b) 11 (bootAnn (wq v b)) 1 20 (s0q v b os) (blockOf Bq envq c0q default [topFrame default])
theorem head1 (v : World) (b : Bool) (os : OsState) : (k1q v b os).map (fun r => (r.1, r.2.2.1, r.2.2.2)) = some (.next, c0q, default) := by
  cases b <;> kernel_rfl
noncomputable def s1q (v : World) (b : Bool) (os : OsState) : SharedT := fst3 (s0q v b os) (k1q v b os)
noncomputable def k2q (v : World) (b : Bool) (os : OsState) : Option (Flow × SharedT × Code × Pos) := segF (stq v b) 11 (bootAnn (wq v b)) 1 8000 (s1q v b os) (piecesOf (Bq.take 25) envq c0q default [topFrame default])
theorem head2 (v : World) (b : Bool) (os : OsState) : (k2q v b os).map (fun r => (r.1, r.2.2.1)) = some (.next, c0q) := by
  cases b <;> kernel_rfl
noncomputable def s2q (v : World) (b : Bool) (os : OsState) : SharedT := fst3 (s1q v b os) (k2q v b os)
end BrTop

namespace BrTop
open PySem PySem.W PySem.Calls PyProof.Rows HandSHeadRun
def stF : Stmt := Bq.getD 25 (.Pass ⟨0, 0, 0, 0⟩)
def tsq : List Expr := match stF with | .Assign ts _ _ => ts | _ => []
def vdq : Expr := match stF with | .Assign _ v _ => v | _ => default
def posq : Pos := match stF with | .Assign _ _ p => p | _ => default
def ksq : List (Option Expr) := match vdq with | .Dict ks _ _ => ks | _ => []
def vsq : List Expr := match vdq with | .Dict _ vs _ => vs | _ => []
def dposq : Pos := match vdq with | .Dict _ _ p => p | _ => default
theorem stF_eq : stF = .Assign tsq (.Dict ksq vsq dposq) posq := by kernel_rfl
theorem body_eq : Bq = Bq.take 25 ++ (stF :: Bq.drop 26) := by kernel_rfl
noncomputable def pairsq : List (Sem Value × Sem Value) := ((ksq.filterMap id).map fun k => eval k envq).zip ((evalEach vsq envq).map fun v => do let x ← v; standAt dposq; pure x)
theorem pairs_eq : (evalEachOpt ksq envq).zip ((evalEach vsq envq).map fun v => do let x ← v; standAt dposq; pure x) = pairsq.map fun p => (some p.1, p.2) := by kernel_rfl
theorem pairs_len : pairsq.length = 5 := by kernel_rfl
noncomputable def s3q (v : World) (b : Bool) (os : OsState) : SharedT := { s2q v b os with tree := (s2q v b os).tree.ins (s2q v b os).n { cls := .type "dict", data := .dict #[] }, n := (s2q v b os).n + 1 }
def vsqV : List (Value × Value) := [(.none, .ref 228), (.str "byte" 593, .ref 229), (.str "two" 597, .ref 230), (.str "near" 601, .ref 231), (.str "full" 606, .ref 232)]
def resq (y : List (Value × Value)) : Flow := match decide (y = vsqV) with
  | true => .next
  | false => .brk
noncomputable def k3q (v : World) (b : Bool) (os : OsState) (gd : Bool → Bool) (lv : List Value → List Value) (pos : Pos) : Option (Flow × SharedT × Code × Pos) := segF (stq v b) 11 (bootAnn (wq v b)) 1 300 (s3q v b os) ⟨(evalPairs pairsq).wrap (fun y => .pure (.done (resq y))) deadEnd gd lv, c0q, pos, [topFrame default]⟩
noncomputable def s4q (v : World) (b : Bool) (os : OsState) : SharedT := fst3 (s3q v b os) (k3q v b os id id default)
theorem head3 (v : World) (b : Bool) (os : OsState) (gd : Bool → Bool) (lv : List Value → List Value) (pos : Pos) : (k3q v b os gd lv pos).map (fun r => (r.1, r.2.1, r.2.2.1)) = some (.next, s4q v b os, c0q) := by
  cases b <;> kernel_rfl
end BrTop

namespace BrTop
open PySem PySem.W PySem.Calls PyProof.Rows HandSHeadRun
theorem map3 {o : Option (Flow × SharedT × Code × Pos)} {f : Flow} {s : SharedT} {c : Code} (h : o.map (fun r => (r.1, r.2.1, r.2.2.1)) = some (f, s, c)) : ∃ p, o = some (f, s, c, p) := by
  cases o with
  | none => cases h
  | some r =>
    obtain ⟨f', s', c', p'⟩ := r
    cases h
    exact ⟨p', rfl⟩
theorem Goes.of_map {v : World} {b : Bool} {α : Type} {x : Sem α} {s s' : SharedT} {a : α} {n : Nat} (res : α → Flow) (fl : Flow)
    (hr : ∀ (gd : Bool → Bool) (lv : List Value → List Value) (pos : Pos), (segRunT treeTable Pq (wq v b) 11 (bootAnn (wq v b)) 1 n s ⟨x.wrap (fun a => .pure (.done (res a))) deadEnd gd lv, c0q, pos, [topFrame default]⟩).map (fun r => (r.1, r.2.1, r.2.2.1)) = some (fl, s', c0q))
    (inj : ∀ b, res b = fl → b = a) : Goes (Aq v b) n x s a s' := Goes.of_seg (A := Aq v b) res fl (fun gd lv pos => map3 (hr gd lv pos)) inj
def resB (h : Bool) : Flow := match h with
  | true => .brk
  | false => .next
def tk (s : SharedT) : SharedT := { s with toks := s.toks + 1 }
theorem resB_inj (b : Bool) (h : resB b = .next) : b = false := by
  cases b with
  | false => rfl
  | true => cases h
def resH (h : Int) : Flow := .ret (.int h 0)
theorem resH_inj {h : Int} (b : Int) (q : resH b = resH h) : b = h := by
  injection q with q
  injection q
theorem hash_byte (v : World) (b : Bool) (t : Tok) (s : SharedT) : Goes (Aq v b) 40 (pyHash (.str "byte" t)) s (PyData.keyHash (wq v b).params "byte") (tk s) := Goes.of_map resH (resH (PyData.keyHash (wq v b).params "byte")) (fun gd lv pos => by
  obtain ⟨T, n, life, gens, drawn, toks, os⟩ := s
  cases b <;> kernel_rfl) resH_inj
theorem hash_two (v : World) (b : Bool) (t : Tok) (s : SharedT) : Goes (Aq v b) 40 (pyHash (.str "two" t)) s (PyData.keyHash (wq v b).params "two") (tk s) := Goes.of_map resH (resH (PyData.keyHash (wq v b).params "two")) (fun gd lv pos => by
  obtain ⟨T, n, life, gens, drawn, toks, os⟩ := s
  cases b <;> kernel_rfl) resH_inj
theorem hash_near (v : World) (b : Bool) (t : Tok) (s : SharedT) : Goes (Aq v b) 40 (pyHash (.str "near" t)) s (PyData.keyHash (wq v b).params "near") (tk s) := Goes.of_map resH (resH (PyData.keyHash (wq v b).params "near")) (fun gd lv pos => by
  obtain ⟨T, n, life, gens, drawn, toks, os⟩ := s
  cases b <;> kernel_rfl) resH_inj
theorem hash_full (v : World) (b : Bool) (t : Tok) (s : SharedT) : Goes (Aq v b) 40 (pyHash (.str "full" t)) s (PyData.keyHash (wq v b).params "full") (tk s) := Goes.of_map resH (resH (PyData.keyHash (wq v b).params "full")) (fun gd lv pos => by
  obtain ⟨T, n, life, gens, drawn, toks, os⟩ := s
  cases b <;> kernel_rfl) resH_inj
theorem eq_none_byte (v : World) (b : Bool) (t u : Tok) (s : SharedT) : Goes (Aq v b) 400 (eqBool .none (.str "byte" t)) s false s := Goes.of_map resB .next (fun gd lv pos => by
  obtain ⟨T, n, life, gens, drawn, toks, os⟩ := s
  cases b <;> kernel_rfl) resB_inj
theorem eq_none_two (v : World) (b : Bool) (t u : Tok) (s : SharedT) : Goes (Aq v b) 400 (eqBool .none (.str "two" t)) s false s := Goes.of_map resB .next (fun gd lv pos => by
  obtain ⟨T, n, life, gens, drawn, toks, os⟩ := s
  cases b <;> kernel_rfl) resB_inj
theorem eq_none_near (v : World) (b : Bool) (t u : Tok) (s : SharedT) : Goes (Aq v b) 400 (eqBool .none (.str "near" t)) s false s := Goes.of_map resB .next (fun gd lv pos => by
  obtain ⟨T, n, life, gens, drawn, toks, os⟩ := s
  cases b <;> kernel_rfl) resB_inj
theorem eq_none_full (v : World) (b : Bool) (t u : Tok) (s : SharedT) : Goes (Aq v b) 400 (eqBool .none (.str "full" t)) s false s := Goes.of_map resB .next (fun gd lv pos => by
  obtain ⟨T, n, life, gens, drawn, toks, os⟩ := s
  cases b <;> kernel_rfl) resB_inj
theorem eq_byte_two (v : World) (b : Bool) (t u : Tok) (s : SharedT) : Goes (Aq v b) 400 (eqBool (.str "byte" u) (.str "two" t)) s false s := Goes.of_map resB .next (fun gd lv pos => by
  obtain ⟨T, n, life, gens, drawn, toks, os⟩ := s
  cases b <;> kernel_rfl) resB_inj
theorem eq_byte_near (v : World) (b : Bool) (t u : Tok) (s : SharedT) : Goes (Aq v b) 400 (eqBool (.str "byte" u) (.str "near" t)) s false s := Goes.of_map resB .next (fun gd lv pos => by
  obtain ⟨T, n, life, gens, drawn, toks, os⟩ := s
  cases b <;> kernel_rfl) resB_inj
theorem eq_byte_full (v : World) (b : Bool) (t u : Tok) (s : SharedT) : Goes (Aq v b) 400 (eqBool (.str "byte" u) (.str "full" t)) s false s := Goes.of_map resB .next (fun gd lv pos => by
  obtain ⟨T, n, life, gens, drawn, toks, os⟩ := s
  cases b <;> kernel_rfl) resB_inj
theorem eq_two_near (v : World) (b : Bool) (t u : Tok) (s : SharedT) : Goes (Aq v b) 400 (eqBool (.str "two" u) (.str "near" t)) s false s := Goes.of_map resB .next (fun gd lv pos => by
  obtain ⟨T, n, life, gens, drawn, toks, os⟩ := s
  cases b <;> kernel_rfl) resB_inj
theorem eq_two_full (v : World) (b : Bool) (t u : Tok) (s : SharedT) : Goes (Aq v b) 400 (eqBool (.str "two" u) (.str "full" t)) s false s := Goes.of_map resB .next (fun gd lv pos => by
  obtain ⟨T, n, life, gens, drawn, toks, os⟩ := s
  cases b <;> kernel_rfl) resB_inj
theorem eq_near_full (v : World) (b : Bool) (t u : Tok) (s : SharedT) : Goes (Aq v b) 400 (eqBool (.str "near" u) (.str "full" t)) s false s := Goes.of_map resB .next (fun gd lv pos => by
  obtain ⟨T, n, life, gens, drawn, toks, os⟩ := s
  cases b <;> kernel_rfl) resB_inj
theorem hash_none (v : World) (b : Bool) (s : SharedT) : Goes (Aq v b) 40 (pyHash .none) s (reduceHash 0xFCA86420) (tk s) := Goes.of_map resH (resH (reduceHash 0xFCA86420)) (fun gd lv pos => by
  obtain ⟨T, n, life, gens, drawn, toks, os⟩ := s
  cases b <;> kernel_rfl) resH_inj
end BrTop

namespace BrTop
open PySem PySem.W PySem.Calls PyProof.Rows HandSHeadRun
/-! ### the filling -/
noncomputable def hq (v : World) (b : Bool) (x : PySem.Str) : Int := PyData.keyHash (wq v b).params x
noncomputable def s5q (v : World) (b : Bool) (s : SharedT) : SharedT := setT (tk s) 227 (kv (reduceHash 0xFCA86420) .none (.ref 228))
noncomputable def s6q (v : World) (b : Bool) (s : SharedT) : SharedT := setT (tk (s5q v b s)) 227 (kv (hq v b "byte") (.str "byte" 593) (.ref 229))
noncomputable def s7q (v : World) (b : Bool) (s : SharedT) : SharedT := setT (tk (s6q v b s)) 227 (kv (hq v b "two") (.str "two" 597) (.ref 230))
noncomputable def s8q (v : World) (b : Bool) (s : SharedT) : SharedT := setT (tk (s7q v b s)) 227 (kv (hq v b "near") (.str "near" 601) (.ref 231))
noncomputable def s9q (v : World) (b : Bool) (s : SharedT) : SharedT := setT (tk (s8q v b s)) 227 (kv (hq v b "full") (.str "full" 606) (.ref 232))
theorem nil_all {R : DictEntry → Prop} : ∀ en ∈ (#[] : Array DictEntry), R en := fun en m => absurd m (Array.not_mem_empty en)
theorem mix0 {h : Int} {v : Value} : ((#[] : Array DictEntry).push ⟨h, .none, v⟩).all (fun e => isExactStrKey e.key) = false := by
  rw [Array.all_push]
  exact Bool.and_false _
theorem fill (v : World) (b : Bool) {s : SharedT} (l4 : Nat.blt 227 s.n = true) (g4 : s.tree.get 227 = some ⟨.type "dict", none, .dict #[] 0, #[]⟩) : ∃ m, m ≤ 9000 ∧ Goes (Aq v b) m (do for (k, v) in vsqV do dictSet 227 k v) s () (s9q v b s) := by
  have g5 := get_kv (h := reduceHash 0xFCA86420) (k := .none) (v := .ref 228) (s := tk s) g4
  have g6 := get_kv (h := hq v b "byte") (k := .str "byte" 593) (v := .ref 229) (s := tk (s5q v b s)) g5
  have g7 := get_kv (h := hq v b "two") (k := .str "two" 597) (v := .ref 230) (s := tk (s6q v b s)) g6
  have g8 := get_kv (h := hq v b "near") (k := .str "near" 601) (v := .ref 231) (s := tk (s7q v b s)) g7
  have S5 := Goes.setN (A := Aq v b) (v := .ref 228) (s := tk s) l4 g4 rfl (hash_none v b s)
  have S6 := Goes.more (m' := 2000) (Goes.set (A := Aq v b) (m := 400) (x := "byte") (t := 593) (v := .ref 229) (s := tk (s5q v b s)) l4 g5 rfl (by simp [Array.size_push]) mix0 (push_all nil_all rfl) (push_all nil_all (eq_none_byte v b _ 0 _)) (hash_byte v b 593 (s5q v b s))) (by simp [Array.size_push])
  have S7 := Goes.more (m' := 2000) (Goes.set (A := Aq v b) (m := 400) (x := "two") (t := 597) (v := .ref 230) (s := tk (s6q v b s)) l4 g6 rfl (by simp [Array.size_push]) (push_mixed mix0) (push_all (push_all nil_all rfl) rfl) (push_all (push_all nil_all (eq_none_two v b _ 0 _)) (eq_byte_two v b _ _ _)) (hash_two v b 597 (s6q v b s))) (by simp [Array.size_push])
  have S8 := Goes.more (m' := 2000) (Goes.set (A := Aq v b) (m := 400) (x := "near") (t := 601) (v := .ref 231) (s := tk (s7q v b s)) l4 g7 rfl (by simp [Array.size_push]) (push_mixed (push_mixed mix0)) (push_all (push_all (push_all nil_all rfl) rfl) rfl) (push_all (push_all (push_all nil_all (eq_none_near v b _ 0 _)) (eq_byte_near v b _ _ _)) (eq_two_near v b _ _ _)) (hash_near v b 601 (s7q v b s))) (by simp [Array.size_push])
  have S9 := Goes.more (m' := 2000) (Goes.set (A := Aq v b) (m := 400) (x := "full") (t := 606) (v := .ref 232) (s := tk (s8q v b s)) l4 g8 rfl (by simp [Array.size_push]) (push_mixed (push_mixed (push_mixed mix0))) (push_all (push_all (push_all (push_all nil_all rfl) rfl) rfl) rfl) (push_all (push_all (push_all (push_all nil_all (eq_none_full v b _ 0 _)) (eq_byte_full v b _ _ _)) (eq_two_full v b _ _ _)) (eq_near_full v b _ _ _)) (hash_full v b 606 (s8q v b s))) (by simp [Array.size_push])
  refine ⟨((40 + 5) + 0) + ((2000 + 0) + ((2000 + 0) + ((2000 + 0) + ((2000 + 0) + 0)))) + 0, by decide, ?_⟩
  · refine Goes.bind (a := PUnit.unit) (s1 := s9q v b s) (m1 := ((40 + 5) + 0) + ((2000 + 0) + ((2000 + 0) + ((2000 + 0) + ((2000 + 0) + 0))))) (m2 := 0) ?_ Goes.pure
    unfold vsqV
    rw [List.forIn_cons]
    refine Goes.bind (a := ForInStep.yield PUnit.unit) (Goes.bind S5 Goes.pure) ?_
    dsimp only
    rw [List.forIn_cons]
    refine Goes.bind (a := ForInStep.yield PUnit.unit) (Goes.bind S6 Goes.pure) ?_
    dsimp only
    rw [List.forIn_cons]
    refine Goes.bind (a := ForInStep.yield PUnit.unit) (Goes.bind S7 Goes.pure) ?_
    dsimp only
    rw [List.forIn_cons]
    refine Goes.bind (a := ForInStep.yield PUnit.unit) (Goes.bind S8 Goes.pure) ?_
    dsimp only
    rw [List.forIn_cons]
    refine Goes.bind (a := ForInStep.yield PUnit.unit) (Goes.bind S9 Goes.pure) ?_
    exact Goes.pure
end BrTop

namespace BrTop
open PySem PySem.W PySem.Calls PyProof.Rows HandSHeadRun
theorem at2 (v : World) (b : Bool) (os : OsState) : (Nat.beq (s2q v b os).n 227 && (((s2q v b os).tree.ins (s2q v b os).n { cls := .type "dict", data := .dict #[] }).get (s2q v b os).n).isSome) = true := by
  cases b <;> kernel_rfl
theorem at4 (v : World) (b : Bool) (os : OsState) : (Nat.blt 227 (s4q v b os).n, (s4q v b os).tree.get 227) = (true, some ⟨.type "dict", none, .dict #[] 0, #[]⟩) := by
  cases b <;> kernel_rfl
end BrTop

namespace BrTop
open PySem PySem.W PySem.Calls PyProof.Rows HandSHeadRun
theorem Goes.into {A : At} {α β : Type} {m : Nat} {x : Sem α} {f : α → Sem β} {s s1 : SharedT} {a : α} {K : β → Sem Fin} {H : Value → Sem Fin} {gd : Bool → Bool} {lv : List Value → List Value} (hx : Goes A m x s a s1) (pos : Pos) :
    ∃ pos' : Pos, ∀ (N : Nat) (r : Shared), TR A N s1.abs ⟨(f a).wrap K H gd lv, A.c0, pos', [A.B0]⟩ = some r → TR A (m + N) s.abs ⟨(x >>= f).wrap K H gd lv, A.c0, pos, [A.B0]⟩ = some r := by
  obtain ⟨p1, h1⟩ := hx (fun a => (f a).wrap K H gd lv) H gd lv pos
  refine ⟨p1, fun N r h => ?_⟩
  have e : (x >>= f).wrap K H gd lv = x.wrap (fun a => (f a).wrap K H gd lv) H gd lv := by
    rw [Sem.bind_eq_wrap', Sem.wrap_wrap]
    rfl
  rw [e]
  exact h1 _ _ h
theorem Goes.val {A : At} {α : Type} {m : Nat} {x : Sem α} {s s1 : SharedT} {a a' : α} (e : a = a') (h : Goes A m x s a s1) : Goes A m x s a' s1 := e ▸ h
theorem swaps_ok (v : World) (b : Bool) (s : SharedT) : Goes (Aq v b) 60 (swapsWithSole tsq (.Dict ksq vsq dposq) posq.line envq) s false s := Goes.of_map resB .next (fun gd lv pos => by
  obtain ⟨T, n, life, gens, drawn, toks, os⟩ := s
  cases b <;> kernel_rfl) resB_inj
theorem resq_inj (y : List (Value × Value)) (h : resq y = .next) : y = vsqV := by
  unfold resq at h
  cases e : decide (y = vsqV) with
  | true => exact of_decide_eq_true e
  | false =>
    rw [e] at h
    cases h
theorem pairs_ok (v : World) (b : Bool) (os : OsState) : Goes (Aq v b) 300 (evalPairs pairsq) (s3q v b os) vsqV (s4q v b os) := Goes.of_segF (A := Aq v b) resq .next (fun gd lv pos => map3 (head3 v b os gd lv pos)) resq_inj
theorem pairs_ne : pairsq ≠ [] := fun e => by
  have h := pairs_len
  rw [e] at h
  cases h
theorem dict_ok (v : World) (b : Bool) (os : OsState) : ∃ m, m ≤ 10000 ∧ Goes (Aq v b) m (eval (.Dict ksq vsq dposq) envq) (s2q v b os) (.ref 227) (s9q v b (s4q v b os)) := by
  have a4 := at4 v b os
  obtain ⟨l4, g4⟩ := Prod.mk.inj a4
  obtain ⟨mf, lf, hf⟩ := fill v b l4 g4
  obtain ⟨e1, e2⟩ := Bool.and_eq_true_iff.mp (at2 v b os)
  have n91 : (s2q v b os).n = 227 := Nat.eq_of_beq_eq_true e1
  have al : Goes (Aq v b) 1 (PySem.alloc { cls := .type "dict", data := .dict #[] }) (s2q v b os) 227 (s3q v b os) := Goes.val n91 (Goes.alloc e2)
  refine ⟨1 + ((1 + ((300 + mf) + 0)) + 0), by omega, ?_⟩
  rw [arm_eval_Dict, pairs_eq, dictDisplay_pairs pairsq pairs_ne (by rw [pairs_len]; decide)]
  refine Goes.bind (m1 := 1) (m2 := (1 + ((300 + mf) + 0)) + 0) Goes.stand ?_
  refine Goes.bind (a := 227) (s1 := s9q v b (s4q v b os)) (m1 := 1 + ((300 + mf) + 0)) (m2 := 0) ?_ Goes.pure
  unfold subDict
  refine Goes.bind (m1 := 1) (m2 := (300 + mf) + 0) al ?_
  refine Goes.bind (a := PUnit.unit) (s1 := s9q v b (s4q v b os)) (m1 := 300 + mf) (m2 := 0) (Goes.holding ?_) Goes.pure
  rw [if_pos (by rw [pairs_len]; decide)]
  exact Goes.bind (m1 := 300) (m2 := mf) (pairs_ok v b os) (Goes.holding hf)
end BrTop

namespace BrTop
open PySem PySem.W PySem.Calls PyProof.Rows HandSHeadRun
noncomputable def sufq (val : Value) : Sem Flow := do assignStores envq val (← swappedStores tsq (.Dict ksq vsq dposq) envq) ((assignEach tsq envq).map (·.2))
noncomputable def Kq : Flow → Sem Fin := fun f => match f with
  | .next => (execs (Bq.drop 26) envq).wrap doneF (leaveH envq) id id
  | f => doneF f
theorem run_fields (v : World) (b : Bool) (os : OsState) : ∃ m, m ≤ 11000 ∧ ∀ pos : Pos, ∃ pos' : Pos, ∀ (N : Nat) (r : Shared), TR (Aq v b) N (s9q v b (s4q v b os)).abs ⟨(sufq (.ref 227)).wrap Kq (leaveH envq) id id, c0q, pos', [topFrame default]⟩ = some r →
    TR (Aq v b) (m + N) (s2q v b os).abs (restOf (stF :: Bq.drop 26) envq c0q pos [topFrame default]) = some r := by
  obtain ⟨m, le, hd⟩ := dict_ok v b os
  refine ⟨1 + (60 + m), by omega, fun pos => ?_⟩
  obtain ⟨p1, h1⟩ := Goes.into (A := Aq v b) (f := fun _ => (do
    if ← swapsWithSole tsq (.Dict ksq vsq dposq) posq.line envq then do
      evalThenUse (.Dict ksq vsq dposq) envq fun v => assignAll v ((assignEach tsq envq).map (·.2))
      pure .next
    else do
      let v ← eval (.Dict ksq vsq dposq) envq
      assignStores envq v (← swappedStores tsq (.Dict ksq vsq dposq) envq) ((assignEach tsq envq).map (·.2)) : Sem Flow)) (K := Kq) (H := leaveH envq) (gd := id) (lv := id) (Goes.stand (A := Aq v b) (pos := posq) (s := s2q v b os)) pos
  obtain ⟨p2, h2⟩ := Goes.into (A := Aq v b) (f := fun sw => (do
    if sw then do
      evalThenUse (.Dict ksq vsq dposq) envq fun v => assignAll v ((assignEach tsq envq).map (·.2))
      pure .next
    else do
      let v ← eval (.Dict ksq vsq dposq) envq
      assignStores envq v (← swappedStores tsq (.Dict ksq vsq dposq) envq) ((assignEach tsq envq).map (·.2)) : Sem Flow)) (K := Kq) (H := leaveH envq) (gd := id) (lv := id) (swaps_ok v b (s2q v b os)) p1
  obtain ⟨p3, h3⟩ := Goes.into (A := Aq v b) (f := sufq) (K := Kq) (H := leaveH envq) (gd := id) (lv := id) hd p2
  refine ⟨p3, fun N r h => ?_⟩
  have e : restOf (stF :: Bq.drop 26) envq c0q pos [topFrame default] = ⟨(exec stF envq).wrap Kq (leaveH envq) id id, c0q, pos, [topFrame default]⟩ := by
    unfold restOf
    rw [execs_cons_wrap]
    rfl
  rw [e, stF_eq, arm_exec_Assign, Nat.add_assoc, Nat.add_assoc]
  refine h1 _ _ (h2 _ _ ?_)
  exact h3 _ _ h
end BrTop

namespace BrTop
open PySem PySem.W PySem.Calls PyProof.Rows HandSHeadRun
abbrev qvq : Program := PySem.W.view Pq [54]
noncomputable def k9q (v : World) (b : Bool) (os : OsState) (pos : Pos) : Option SharedT := goF (stq v b) 11 (bootAnn (wq v b)) 8000 (s9q v b (s4q v b os)) ⟨(sufq (.ref 227)).wrap Kq (leaveH envq) id id, c0q, pos, [topFrame default]⟩
theorem tailA_false (v : World) (os : OsState) (pos : Pos) : (k9q v false os pos).map (fun s => (looksF Pq (boot_heap (wq v false).params) s.abs, seenQ qvq Pa.looseq (importedModules Pq.main.body) (fun s => xlAt qvq [] s && recOk Rq.toRowW.records s) s.abs, (Pa.obq s).2)) = some (true, openGood qvq Pa.looseq, (Pa.hkq.val (wq v false)).2) := by kernel_rfl
theorem tailB_false (v : World) (os : OsState) (pos : Pos) : (k9q v false os pos).map (fun s => (Pa.obq s).1) = some (Pa.hkq.val (wq v false)).1 := by kernel_rfl
theorem tailA_true (v : World) (os : OsState) (pos : Pos) : (k9q v true os pos).map (fun s => (looksF Pq (boot_heap (wq v true).params) s.abs, seenQ qvq Pa.looseq (importedModules Pq.main.body) (fun s => xlAt qvq [] s && recOk Rq.toRowW.records s) s.abs, (Pa.obq s).2)) = some (true, openGood qvq Pa.looseq, (Pa.hkq.val (wq v true)).2) := by kernel_rfl
theorem tailB_true (v : World) (os : OsState) (pos : Pos) : (k9q v true os pos).map (fun s => (Pa.obq s).1) = some (Pa.hkq.val (wq v true)).1 := by kernel_rfl
theorem tail_of {v : World} {b : Bool} {o : Option SharedT} (h1 : o.map (fun s => (looksF Pq (boot_heap (wq v b).params) s.abs, seenQ qvq Pa.looseq (importedModules Pq.main.body) (fun s => xlAt qvq [] s && recOk Rq.toRowW.records s) s.abs, (Pa.obq s).2)) = some (true, openGood qvq Pa.looseq, (Pa.hkq.val (wq v b)).2)) (h2 : o.map (fun s => (Pa.obq s).1) = some (Pa.hkq.val (wq v b)).1) : o.map (fun s => (looksF Pq (boot_heap (wq v b).params) s.abs, seenQ qvq Pa.looseq (importedModules Pq.main.body) (fun s => xlAt qvq [] s && recOk Rq.toRowW.records s) s.abs, Pa.obq s)) = some (true, openGood qvq Pa.looseq, Pa.hkq.val (wq v b)) := by
  cases o with
  | none => cases h1
  | some s =>
    have e1 := Option.some.inj h1
    have e2 := Option.some.inj h2
    obtain ⟨l1, l2⟩ := Prod.mk.inj e1
    obtain ⟨l2, l3⟩ := Prod.mk.inj l2
    exact congrArg some (Prod.ext l1 (Prod.ext l2 (Prod.ext e2 l3)))
theorem tailq (v : World) (b : Bool) (os : OsState) (pos : Pos) : (k9q v b os pos).map (fun s => (looksF Pq (boot_heap (wq v b).params) s.abs, seenQ qvq Pa.looseq (importedModules Pq.main.body) (fun s => xlAt qvq [] s && recOk Rq.toRowW.records s) s.abs, Pa.obq s)) = some (true, openGood qvq Pa.looseq, Pa.hkq.val (wq v b)) := match b with
  | false => tail_of (tailA_false v os pos) (tailB_false v os pos)
  | true => tail_of (tailA_true v os pos) (tailB_true v os pos)
end BrTop

namespace BrTop
open PySem PySem.W PySem.Calls PyProof.Rows HandSHeadRun
theorem run_b (v : World) (b : Bool) (os : OsState) : ∃ s : SharedT, topRun treeTable Pq (wq v b) (boot_heap (wq v b).params).objs.size (bootAnn (wq v b)) 30000 ⟨boot_heap (wq v b).params, #[], boot_drawn, boot_toks, os⟩ (topStub Pq) = some s.abs ∧
    (looksF Pq (boot_heap (wq v b).params) s.abs, openSeen qvq Pa.looseq (importedModules Pq.main.body) (fun s => xlAt qvq [] s && recOk Rq.toRowW.records s) true s.abs, Pa.hkq.obs s.abs) = (true, openGood qvq Pa.looseq, Pa.hkq.val (wq v b)) := by
  obtain ⟨⟨T, n⟩, eP, eN⟩ := Option.map_eq_some_iff.mp (put_q v b)
  have e11 : n = 11 := eN
  subst e11
  have eh := putAll_heap eP
  have en : (boot_heap (wq v b).params).objs.size = 11 := by
    rw [← eh]
    exact absHeap_size T 11 _
  have eT : t0q (wq v b) = T := by
    unfold t0q
    rw [eP]
  have eb : (s00q (wq v b) os).abs = ⟨boot_heap (wq v b).params, #[], boot_drawn, boot_toks, os⟩ := by
    unfold s00q
    rw [eT]
    show (⟨absHeap T 11 (boot_heap (wq v b).params).life, #[], boot_drawn, boot_toks, os⟩ : Shared) = _
    rw [eh]
  have p0 := fst2_ok (d := s00q (wq v b) os) (head0 v b os)
  have p1 := fst3_ok (d := s0q v b os) (head1 v b os)
  obtain ⟨q2, p2⟩ := fst3_ex (d := s1q v b os) (head2 v b os)
  obtain ⟨m, le, hf⟩ := run_fields v b os
  obtain ⟨q3, h3⟩ := hf q2
  obtain ⟨s, es, ev⟩ := Option.map_eq_some_iff.mp (tailq v b os q3)
  have r3 : topRun treeTable Pq (wq v b) 11 (bootAnn (wq v b)) 8000 (s9q v b (s4q v b os)).abs ⟨(sufq (.ref 227)).wrap Kq (leaveH envq) id id, c0q, q3, [topFrame default]⟩ = some s.abs := by
    refine goF_ok ?_
    rw [st_eq]
    exact es
  have r2 := h3 _ _ r3
  have g2 : segRun treeTable Pq (wq v b) 11 (bootAnn (wq v b)) 1 8000 (s1q v b os).abs (piecesOf (Bq.take 25) envq c0q default [topFrame default]) = some (.next, (s2q v b os).abs, c0q, q2) := segRun_of (by
    rw [← segF_of, st_eq]
    exact p2)
  have r1 := piece_app g2 r2
  rw [← body_eq] at r1
  have g1 : segRun treeTable Pq (wq v b) 11 (bootAnn (wq v b)) 1 20 (s0q v b os).abs (blockOf Bq envq c0q default [topFrame default]) = some (.next, (s1q v b os).abs, c0q, default) := segRun_of (by
    rw [← segF_of, st_eq]
    exact p1)
  have r0 := piece_block g1 r1
  have r := goK_top p0 r0
  rw [eb] at r
  rw [en]
  have y := topRun_mono (30000 - (12 + (20 + (8000 + (m + 8000))))) _ _ _ _ r
  rw [show 12 + (20 + (8000 + (m + 8000))) + (30000 - (12 + (20 + (8000 + (m + 8000))))) = 30000 by omega] at y
  refine ⟨s, y, ?_⟩
  rw [seenQ_eq]
  rw [← Pa.obq_eq]
  exact ev
theorem run_w (w : World) (os : OsState) : ∃ s : SharedT, topRun treeTable Pq w (boot_heap w.params).objs.size (bootAnn w) 30000 ⟨boot_heap w.params, #[], boot_drawn, boot_toks, os⟩ (topStub Pq) = some s.abs ∧
    (looksF Pq (boot_heap w.params) s.abs, openSeen qvq Pa.looseq (importedModules Pq.main.body) (fun s => xlAt qvq [] s && recOk Rq.toRowW.records s) true s.abs, Pa.hkq.obs s.abs) = (true, openGood qvq Pa.looseq, Pa.hkq.val w) :=
  byRow2 "special-get-raises" (P := fun w => ∃ s : SharedT, topRun treeTable Pq w (boot_heap w.params).objs.size (bootAnn w) 30000 ⟨boot_heap w.params, #[], boot_drawn, boot_toks, os⟩ (topStub Pq) = some s.abs ∧
    (looksF Pq (boot_heap w.params) s.abs, openSeen qvq Pa.looseq (importedModules Pq.main.body) (fun s => xlAt qvq [] s && recOk Rq.toRowW.records s) true s.abs, Pa.hkq.obs s.abs) = (true, openGood qvq Pa.looseq, Pa.hkq.val w)) (fun v => run_b v false os) (fun v => run_b v true os) w
/-- the head by such a run -/
theorem head_top {r : OpenRow} {q : Program} {H : Hook} {M : Nat} {loose : List PySem.Str} {d : DefRec} {kwd : List (PySem.Str × PySem.Expr)}
    (e : opening r.prog = plainProg r.prog.main.scope.names) (f : ∀ s, fenceModules? r.prog s = some s)
    (run : ∀ (w : World) (os : OsState), ∃ s : SharedT, topRun treeTable r.prog w (boot_heap w.params).objs.size (bootAnn w) M ⟨boot_heap w.params, #[], boot_drawn, boot_toks, os⟩ (topStub r.prog) = some s.abs ∧
      (looksF r.prog (boot_heap w.params) s.abs, openSeen q loose (importedModules r.prog.main.body) (fun s => xlAt q [] s && recOk r.toRowW.records s) true s.abs, H.obs s.abs) = (true, openGood q loose, H.val w))
    (hdef : defOf q r.name = some (d, kwd)) (hp : r.prog.theDef r.name = some (d.params, d.body, d.scope)) (hk : kwWritten? d.params.kwonlyargs d.params.kw_defaults = some kwd)
    (hwr : (!r.writes || r.records.isEmpty) = true) (k1 : r.wellSaid = true) (ok : (chainsOk q && opensWell r.prog && (frees r.toRowW && r.within.isEmpty)) = true) (hb : r.prog.bare) (hw : r.toRowW.promised)
    (call : WalkO q loose (XL q []) H.says r.toRowW d kwd fun f vs => PySem.call f vs) : r.Holds := by
  have left : LeftO r.prog q loose (fun s => xlAt q [] s && recOk r.toRowW.records s) H.obs H.val (M + 600) true :=
    left_top (M := M) e (Nat.ble_eq_true_of_le (by omega)) f (Nat.ble_eq_true_of_le (by omega)) run
  exact holds_open (r := r) (q := q) (loose := loose) (XP := XL q []) (YP := H.says) (d := d) (kwd := kwd) left H.of H.keeps (fun s z => xl_of s (Bool.and_eq_true_iff.mp z).1) XL.keeps hdef hp hk (fun s z => recFacts_of (Bool.and_eq_true_iff.mp z).2) hwr k1 ok hb hw call
end BrTop

open PySem PySem.W PySem.Calls PyProof.Rows
set_option maxRecDepth 100000 in
set_option maxHeartbeats 0 in
theorem PySem.Challenge.cw_byteround_k05_whole_words_there_and_back_holds : PySem.Challenge.rw_byteround_k05_whole_words_there_and_back.Holds := by
  w_on; o_law
  refine BrTop.head_top (r := OpenLaw.row PySem.Challenge.rw_byteround_k05_whole_words_there_and_back) (q := BrTop.qvq) (H := Pa.hkq) (M := 30000) (loose := Pa.looseq) (d := HandSHeadRun.topDef (OpenLaw.row PySem.Challenge.rw_byteround_k05_whole_words_there_and_back).prog 54) (kwd := [])
    (by kernel_rfl) (fun s => by kernel_rfl) BrTop.run_w (by kernel_rfl) (by kernel_rfl) (by kernel_rfl) (by rfl) (by first | assumption | decide +kernel) (by decide +kernel) ⟨rfl, rfl, rfl, rfl, rfl, by decide +kernel⟩ ?hw ?hc
  case hw => w_witness2
  case hc =>
    refine Br.walkGE (l := PySem.Challenge.rw_byteround_k05_whole_words_there_and_back) (n := 63) (k := 9) (x := "_law_script") rfl (by decide) (by kernel_rfl) ⟨rfl, by decide, by decide⟩ ?F
    intro w mg fa h Y G hmg0
    obtain ⟨K, KX, c⟩ := Y
    have hmg : mg ("law" : PySem.Str) = some (.ref fa) := by
      have e : (HandSHeadRun.topDef (OpenLaw.row PySem.Challenge.rw_byteround_k05_whole_words_there_and_back).prog 54).name = ("law" : PySem.Str) := by kernel_rfl
      rw [← e]
      exact hmg0
    obtain ⟨fd, hb, hF⟩ := Pa.factsq (P := (PySem.Challenge.rw_byteround_k05_whole_words_there_and_back).prog) (w := w) KX G hmg c
    exact ⟨K, fd, Br.spD K Pa.fLaw, KX, hb, fun H a ns hl hS => Pa.promise_law hl hS, hF⟩
