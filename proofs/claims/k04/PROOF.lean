import PyProof.Rows.All
import Wide.All
import OpenK.AllK
import Wide.FinOn
import HandS.ForMost
import HandS.Exc
import HandS.Lambda
import HandS.Set
import HandS.Walk
import HandS.Style
import HandS.TupAny
import HandS.WideBits
import HandS.Conv
import HandS.WordsExc
import HandS.HeadEnd
import HandS.EndTab
import HandS.Star
import HandS.Property
import KE.KOpsOwn
import HandS.ExcInit
import HandS.ExcIs
import HandS.ExcField
import HandS.ExcValue
import HandS.IsInst
import KE.KExcIs
import KE.KExcSuper
import KE.KExcMake
import KE.KCount
import KE.DataFind
import HandS.Deep
import HandS.List
import PyProof.ReprRoads
import HandS.RaiseMore
import HandS.Codes
import KE.KSuper
import KE.KSuperObj
import HandS.FStr
import HandS.Head0
import HandS.Head1
import HandS.Head2
import HandS.HeadHook1
import HandS.HeadHook2
import HandS.HeadHook4
import HandS.HeadNt
import HandS.SlotsOwn
import HandS.WordsDict
import HandS.NamedTupSort
import PyProof.InstNe
import PyProof.TupleOfSeq
import KE.KItemsList
import HandS.ListItems
import HandS.Iter
import HandS.DictComp
import HandS.SortRule
import HandS.SortInts
import HandS.Zip
import OpenK.KOps
import PyProof.Conv_bool
import PyProof.ListTruth
import HandS.OwnEq
import PyProof.EqKinds
import HandS.NoneIn
import PyProof.ReprLen
import PyProof.Rows.ReprOcc
import HandS.ExcOwn
import HandS.HotCalls
import HandS.TupMul
import KE.KCallOwn
import HandS.Defaults
import PyProof.FactsAll.int
import PyProof.FactsAll.bool
import HandS.Wide
import KE.KToBytes
import KE.KFromBytes
import KE.KBytesMore
import HandS.Bytes
import HandS.BytesMake
import HandS.More
import HandS.ToBytes
import KE.BytesMul
import KE.KBytesStep
import KE.SortData
import HandS.SetFor
import HandS.Strs
import KE.DataMinMax
import HandS.SetKeys
import PyProof.SetRoads
import HandS.MakeKwOnly
import KE.DataMinKey
import KE.KRevSl
import KE.SortKeyHeap
import HandS.Keys
import HandS.SortKw
import KE.KDictPairs
import OpenK.KMake
import HandS.ClsMeth
import PySem.Challenge.RW_rowclash_k04_statements_executed
set_option Elab.async false
set_option linter.all false
set_option maxRecDepth 100000
set_option maxHeartbeats 0
/-! Ma1: the mirror machine: its values, its state, what a piece of code comes to. -/
namespace Ma
open L2 PySem
/-- values: tuples, and lists and dicts that nobody changes any more, are data; what may still change is a box -/
inductive M where
  | non | bl (b : Bool) | int (i : Int) | str (x : Str) | byt (b : Array UInt8)
  | tup (ms : List M) | lst (ms : List M) | dct (ks : List Key) (ms : List M)
  | scr (ns : List Int) | box (n : Nat) | exn (c : Str) (ns : List Str) (ms : List M) | cls (c : Str) | ty (n : String) | raw (a : Addr) | set (ks : List Int)
/-- what lies in a box -/
inductive Cell where
  | lst (ms : List M) | dK (kms : List (Key × M)) | dF (kms : List (Key × M)) | ins (c : Str) (fms : List (Str × M)) | tP (ms : List M) | dead
structure MS where
  env : List (Option M)
  hp : List Cell
structure Exc where
  c : Str
  ns : List Str
  ms : List M
inductive Res (α : Type) where
  | ok (a : α) (s : MS)
  | err (x : Exc) (s : MS)
  | stuck
def Res.bind {α β : Type} : Res α → (α → MS → Res β) → Res β
  | .ok a s, f => f a s
  | .err x s, _ => .err x s
  | .stuck, _ => .stuck
abbrev ME := MS → Res M
/-- expressions in a row -/
abbrev MA := MS → Res (List M)
abbrev MT := MS → Res Bool
inductive Fl where
  | nx | rt (m : M) | bk | ct
abbrev MStm := MS → Res Fl
/-- what a def comes to -/
inductive ResF where
  | ok (m : M) (hp : List Cell)
  | err (x : Exc) (hp : List Cell)
  | stuck
abbrev Fn := List M → List Cell → ResF
end Ma
/-! Ma2: how the machine's state stands to the layer's heap. -/
namespace Ma
open L2 PySem
/-- what is fixed: the written part, the own classes by name -/
structure Tab where
  K : PySem.W.Frag
  ad : Str → Option Addr
  tb : List (Addr × Str) := []
/-- where the boxes stand; what is frozen -/
structure Gh where
  ro : List Addr
  fz : Addr → Prop
/-- a set of ints -/
def SetI (a : Addr) (ks : List Int) : HO := .ext fun h => ∃ (w : World) (n : Nat), L2.SetR w h a (fun j => decide (j ∈ ks)) n
/-- a list of ints that the written part holds -/
def Wr (K : PySem.W.Frag) (a : Addr) (ns : List Int) : Prop := ∀ H : Hp, SqL K H a (ns.map V.int)
def XO (C : Value) (d : Option Addr) (a : Addr) : HO := .ext fun h => ∃ (oe : Obj) (vs : Array Value), h.get? a = some oe ∧ Zc C d oe ∧ oe.data = .fields vs
/-- an exception of the class at C with these fields -/
def XAt (fz : Addr → Prop) (H : Hp) (a C : Addr) (ns : List Str) (vs : List V) : Prop :=
  ns.length = vs.length ∧ fz a ∧ ∃ d : Option Addr, H a = some (XO (.ref C) d a) ∧ match d with
    | none => ns = []
    | some dx => fz dx ∧ H dx = some (.xd (ns.zip vs))
mutual
inductive RV (T : Tab) (g : Gh) (H : Hp) : M → V → Prop
  | non : RV T g H .non .non
  | bl (b : Bool) : RV T g H (.bl b) (.bl b)
  | int (i : Int) : RV T g H (.int i) (.int i)
  | str (x : Str) : RV T g H (.str x) (.str x)
  | byt (b : Array UInt8) : RV T g H (.byt b) (.byt b)
  | tup {a : Addr} {ms : List M} {vs : List V} : H a = some (.tup vs) → RVs T g H ms vs → RV T g H (.tup ms) (.ref a)
  | lst {a : Addr} {ms : List M} {vs : List V} : g.fz a → H a = some (.lst vs) → RVs T g H ms vs → RV T g H (.lst ms) (.ref a)
  | dct {a : Addr} {o : Obj} {ks : List Key} {ms : List M} {vs : List V} : g.fz a → ks.length = vs.length → H a = some (.frz o (.dK (ks.zip vs))) → RVs T g H ms vs → RV T g H (.dct ks ms) (.ref a)
  | scr {a : Addr} {o : Obj} {ns : List Int} : g.fz a → H a = some (.frz o (.lst (ns.map V.int))) → RV T g H (.scr ns) (.ref a)
  | scrK {a : Addr} {ns : List Int} : Wr T.K a ns → RV T g H (.scr ns) (.ref a)
  | box {n : Nat} {a : Addr} : g.ro[n]? = some a → RV T g H (.box n) (.ref a)
  | exn {a C : Addr} {c : Str} {ns : List Str} {ms : List M} {vs : List V} : T.ad c = some C → XAt g.fz H a C ns vs → RVs T g H ms vs → RV T g H (.exn c ns ms) (.ref a)
  | cls {c : Str} {C : Addr} : T.ad c = some C → RV T g H (.cls c) (.ref C)
  | ty (n : String) : RV T g H (.ty n) (.ty n)
  | raw (a : Addr) : RV T g H (.raw a) (.ref a)
  | set {a : Addr} {ks : List Int} : g.fz a → H a = some (SetI a ks) → RV T g H (.set ks) (.ref a)
inductive RVs (T : Tab) (g : Gh) (H : Hp) : List M → List V → Prop
  | nil : RVs T g H [] []
  | cons {m : M} {v : V} {ms : List M} {vs : List V} : RV T g H m v → RVs T g H ms vs → RVs T g H (m :: ms) (v :: vs)
end
/-- what was a value stays one -/
structure MonoB (g : Gh) (H : Hp) (g' : Gh) (H' : Hp) : Prop where
  ro : g.ro <+: g'.ro
  fz : ∀ a, g.fz a → g'.fz a
  fh : ∀ a, g.fz a → H' a = H a
  tup : ∀ a vs, H a = some (.tup vs) → H' a = some (.tup vs)
/-- and what is locked stays locked -/
structure Mono (g : Gh) (H : Hp) (g' : Gh) (H' : Hp) : Prop extends MonoB g H g' H' where
  fr : ∀ a o u, H a = some (.frz o u) → H' a = some (.frz o u)
instance {g g' : Gh} {H H' : Hp} : Coe (Mono g H g' H') (MonoB g H g' H') := ⟨Mono.toMonoB⟩
section
variable {T : Tab} {g g1 g2 : Gh} {H H1 H2 : Hp}
theorem Mono.refl (g : Gh) (H : Hp) : Mono g H g H := ⟨⟨List.prefix_refl _, fun _ h => h, fun _ _ => rfl, fun _ _ h => h⟩, fun _ _ _ h => h⟩
theorem Mono.trans (a : Mono g H g1 H1) (b : Mono g1 H1 g2 H2) : Mono g H g2 H2 :=
  ⟨⟨a.ro.trans b.ro, fun x h => b.fz x (a.fz x h), fun x h => (b.fh x (a.fz x h)).trans (a.fh x h), fun x vs h => b.tup x vs (a.tup x vs h)⟩, fun x o u h => b.fr x o u (a.fr x o u h)⟩
theorem MonoB.at (a : MonoB g H g1 H1) {n : Nat} {x : Addr} (h : g.ro[n]? = some x) : g1.ro[n]? = some x := by
  obtain ⟨t, e⟩ := a.ro
  rw [← e, List.getElem?_append_left (by
    have := List.getElem?_eq_some_iff.mp h
    exact this.1)]
  exact h
theorem Mono.at (a : Mono g H g1 H1) {n : Nat} {x : Addr} (h : g.ro[n]? = some x) : g1.ro[n]? = some x := a.toMonoB.at h
mutual
theorem RV.monoB (q : MonoB g H g1 H1) : ∀ {m : M} {v : V}, RV T g H m v → RV T g1 H1 m v
  | _, _, .non => .non
  | _, _, .bl b => .bl b
  | _, _, .int i => .int i
  | _, _, .str x => .str x
  | _, _, .byt b => .byt b
  | _, _, .tup e r => .tup (q.tup _ _ e) (RVs.monoB q r)
  | _, _, .lst f e r => .lst (q.fz _ f) ((q.fh _ f).trans e) (RVs.monoB q r)
  | _, _, .dct f l e r => .dct (q.fz _ f) l ((q.fh _ f).trans e) (RVs.monoB q r)
  | _, _, .scr f e => .scr (q.fz _ f) ((q.fh _ f).trans e)
  | _, _, .scrK e => .scrK e
  | _, _, .box e => .box (q.at e)
  | _, _, .exn e x r => .exn e (by
      obtain ⟨l, f, d, hd, y⟩ := x
      refine ⟨l, q.fz _ f, d, (q.fh _ f).trans hd, ?_⟩
      cases d with
      | none => exact y
      | some dx => exact ⟨q.fz _ y.1, (q.fh _ y.1).trans y.2⟩) (RVs.monoB q r)
  | _, _, .cls e => .cls e
  | _, _, .ty n => .ty n
  | _, _, .raw a => .raw a
  | _, _, .set f e => .set (q.fz _ f) ((q.fh _ f).trans e)
theorem RVs.monoB (q : MonoB g H g1 H1) : ∀ {ms : List M} {vs : List V}, RVs T g H ms vs → RVs T g1 H1 ms vs
  | _, _, .nil => .nil
  | _, _, .cons r s => .cons (RV.monoB q r) (RVs.monoB q s)
end
theorem RV.mono (q : Mono g H g1 H1) {m : M} {v : V} (r : RV T g H m v) : RV T g1 H1 m v := r.monoB q.toMonoB
theorem RVs.mono (q : Mono g H g1 H1) {ms : List M} {vs : List V} (r : RVs T g H ms vs) : RVs T g1 H1 ms vs := r.monoB q.toMonoB
theorem RVs.length : ∀ {ms : List M} {vs : List V}, RVs T g H ms vs → ms.length = vs.length
  | _, _, .nil => rfl
  | _, _, .cons _ s => congrArg Nat.succ (RVs.length s)
theorem RVs.get : ∀ {ms : List M} {vs : List V} {i : Nat} {m : M}, RVs T g H ms vs → ms[i]? = some m → ∃ v, vs[i]? = some v ∧ RV T g H m v
  | _, _, _, _, .nil, e => by simp at e
  | _, _, 0, _, .cons r _, e => by simp at e; subst e; exact ⟨_, rfl, r⟩
  | _, _, i + 1, m, .cons _ s, e => by
    obtain ⟨v, h1, h2⟩ := RVs.get (i := i) (m := m) s (by simpa using e)
    exact ⟨v, by simpa using h1, h2⟩
theorem RVs.app : ∀ {ms ns : List M} {vs ws : List V}, RVs T g H ms vs → RVs T g H ns ws → RVs T g H (ms ++ ns) (vs ++ ws)
  | _, _, _, _, .nil, s => s
  | _, _, _, _, .cons r t, s => .cons r (RVs.app t s)
theorem RVs.take : ∀ {ms : List M} {vs : List V} (n : Nat), RVs T g H ms vs → RVs T g H (ms.take n) (vs.take n)
  | _, _, 0, _ => .nil
  | _, _, _ + 1, .nil => .nil
  | _, _, n + 1, .cons r t => .cons r (RVs.take n t)
theorem RVs.drop : ∀ {ms : List M} {vs : List V} (n : Nat), RVs T g H ms vs → RVs T g H (ms.drop n) (vs.drop n)
  | _, _, 0, r => r
  | _, _, _ + 1, .nil => .nil
  | _, _, n + 1, .cons _ t => RVs.drop n t
theorem RVs.set : ∀ {ms : List M} {vs : List V} {m : M} {v : V} (n : Nat), RVs T g H ms vs → RV T g H m v → RVs T g H (ms.set n m) (vs.set n v)
  | _, _, _, _, _, .nil, _ => .nil
  | _, _, _, _, 0, .cons _ t, r => .cons r t
  | _, _, _, _, n + 1, .cons q t, r => .cons q (RVs.set n t r)
theorem RVs.erase : ∀ {ms : List M} {vs : List V} (n : Nat), RVs T g H ms vs → RVs T g H (ms.eraseIdx n) (vs.eraseIdx n)
  | _, _, _, .nil => .nil
  | _, _, 0, .cons _ t => t
  | _, _, n + 1, .cons q t => .cons q (RVs.erase n t)
theorem RVs.ints : ∀ (ns : List Int), RVs T g H (ns.map M.int) (ns.map V.int)
  | [] => .nil
  | n :: ns => .cons (.int n) (RVs.ints ns)
end
/-! ### boxes -/
/-- named values -/
inductive RFs {κ : Type} (T : Tab) (g : Gh) (H : Hp) : List (κ × M) → List (κ × V) → Prop
  | nil : RFs T g H [] []
  | cons {k : κ} {m : M} {v : V} {fs : List (κ × M)} {vs : List (κ × V)} : RV T g H m v → RFs T g H fs vs → RFs T g H ((k, m) :: fs) ((k, v) :: vs)
theorem RFs.monoB {κ : Type} {T : Tab} {g g1 : Gh} {H H1 : Hp} (q : MonoB g H g1 H1) : ∀ {fs : List (κ × M)} {vs : List (κ × V)}, RFs T g H fs vs → RFs T g1 H1 fs vs
  | _, _, .nil => .nil
  | _, _, .cons r s => .cons (r.monoB q) (RFs.monoB q s)
theorem RFs.mono {κ : Type} {T : Tab} {g g1 : Gh} {H H1 : Hp} (q : Mono g H g1 H1) {fs : List (κ × M)} {vs : List (κ × V)} (r : RFs T g H fs vs) : RFs T g1 H1 fs vs := r.monoB q.toMonoB
theorem RFs.length {κ : Type} {T : Tab} {g : Gh} {H : Hp} : ∀ {fs : List (κ × M)} {vs : List (κ × V)}, RFs T g H fs vs → fs.length = vs.length
  | _, _, .nil => rfl
  | _, _, .cons _ s => congrArg Nat.succ (RFs.length s)
theorem RFs.keys {κ : Type} {T : Tab} {g : Gh} {H : Hp} : ∀ {fs : List (κ × M)} {vs : List (κ × V)}, RFs T g H fs vs → fs.map (·.1) = vs.map (·.1)
  | _, _, .nil => rfl
  | _, _, .cons _ s => congrArg _ (RFs.keys s)
theorem RFs.get {κ : Type} {T : Tab} {g : Gh} {H : Hp} : ∀ {fs : List (κ × M)} {vs : List (κ × V)} {i : Nat} {k : κ} {m : M}, RFs T g H fs vs → fs[i]? = some (k, m) → ∃ v, vs[i]? = some (k, v) ∧ RV T g H m v
  | _, _, _, _, _, .nil, e => by simp at e
  | _, _, 0, _, _, .cons r _, e => by
    simp at e
    obtain ⟨rfl, rfl⟩ := e
    exact ⟨_, rfl, r⟩
  | _, _, i + 1, k, m, .cons _ s, e => by
    obtain ⟨v, h1, h2⟩ := RFs.get (i := i) (k := k) (m := m) s (by simpa using e)
    exact ⟨v, by simpa using h1, h2⟩
def CellR (T : Tab) (g : Gh) (H : Hp) : Cell → Addr → Prop
  | .lst ms, a => ∃ vs, H a = some (.lst vs) ∧ RVs T g H ms vs
  | .dK kms, a => ∃ kvs, H a = some (.dK kvs) ∧ RFs T g H kms kvs
  | .dF kms, a => ∃ o kvs, H a = some (.frz o (.dK kvs)) ∧ RFs T g H kms kvs
  | .ins c fms, a => ∃ C dx fvs, T.ad c = some C ∧ H a = some (.ins C dx fvs) ∧ RFs T g H fms fvs
  | .tP ms, a => ∃ o vs, o.cls = .type "tuple" ∧ o.dict = none ∧ H a = some (.frz o (.tup vs)) ∧ RVs T g H ms vs
  | .dead, _ => True
def Live : Cell → Prop
  | .dead => False
  | .tP _ => False
  | .dF _ => False
  | _ => True
/-- what may still change, locked or not -/
def Own : Cell → Prop
  | .dead => False
  | .tP _ => False
  | _ => True
theorem Live.own {c : Cell} (h : Live c) : Own c := by cases c <;> first | exact h.elim | trivial
/-- no code object of a lambda, no fields of an exception -/
structure NoCX (o : HO) : Prop where
  code : ∀ c q, o ≠ LamX.CodeO c q
  xd : ∀ fs, o ≠ .xd fs
/-- nor a table of code objects -/
structure Plain (o : HO) : Prop extends NoCX o where
  tbl : ∀ ps, o ≠ .tbl ps
/-- no table -/
def NoTbl (o : HO) : Prop := ∀ ps, o ≠ .tbl ps
/-- the tables of code objects that lambdas are kept in -/
structure TbOk (tb : List (Addr × Str)) (g : Gh) (H : Hp) : Prop where
  tab : ∀ p ∈ tb, LamX.TabS H p.1 p.2 ∧ p.1 ∈ g.ro ∧ ¬ g.fz p.1
  only : ∀ a ps, H a = some (.tbl ps) → ∃ p ∈ tb, p.1 = a
  roc : ∀ a ∈ g.ro, ∀ o, H a = some o → NoCX o
section
variable {tb : List (Addr × Str)} {g : Gh} {H H' : Hp} {p : Addr} {o : HO}
theorem tabS_upd {P : Addr} {q : Str} (t : LamX.TabS H P q) (h : ∀ u, H p = some u → Plain u) : LamX.TabS (upd H p o) P q := by
  obtain ⟨ps, h1, h2, h3⟩ := t
  have n1 : P ≠ p := fun z => by subst z; exact (h _ h1).tbl ps rfl
  refine ⟨ps, by rw [upd_ne n1]; exact h1, h2, fun pos cv hc => ?_⟩
  obtain ⟨c, e1, e2⟩ := h3 pos cv hc
  have n2 : c ≠ p := fun z => by subst z; exact (h _ e2).code _ _ rfl
  exact ⟨c, e1, by rw [upd_ne n2]; exact e2⟩
/-- a new object, or another content of a plain one -/
theorem TbOk.upd (t : TbOk tb g H) (h : ∀ u, H p = some u → Plain u) (ho : NoTbl o) (hc : p ∈ g.ro → Plain o) : TbOk tb g (upd H p o) := by
  refine ⟨fun x hx => ?_, fun a ps z => ?_, fun a ha u z => ?_⟩
  · obtain ⟨h1, h2, h3⟩ := t.tab x hx
    exact ⟨tabS_upd h1 h, h2, h3⟩
  · by_cases e : a = p
    · subst e; rw [upd_same] at z; exact absurd (Option.some.inj z) (ho ps)
    · rw [upd_ne e] at z; exact t.only a ps z
  · by_cases e : a = p
    · subst e; rw [upd_same] at z; exact Option.some.inj z ▸ (hc ha).toNoCX
    · rw [upd_ne e] at z; exact t.roc a ha u z
/-- one more frozen place -/
theorem TbOk.more {fz : Addr → Prop} (t : TbOk tb g H) (h : ∀ a, fz a → g.fz a ∨ ∃ u, H a = some u ∧ NoTbl u) : TbOk tb ⟨g.ro, fz⟩ H := by
  refine ⟨fun x hx => ?_, t.only, t.roc⟩
  obtain ⟨h1, h2, h3⟩ := t.tab x hx
  refine ⟨h1, h2, fun f => ?_⟩
  rcases h x.1 f with z | ⟨u, z, n⟩
  · exact h3 z
  · obtain ⟨ps, e, _⟩ := h1
    rw [z] at e
    exact n ps (Option.some.inj e)
/-- one more box -/
theorem TbOk.box (t : TbOk tb g H) (h : ∀ u, H p = some u → Plain u) : TbOk tb ⟨g.ro ++ [p], g.fz⟩ H := by
  refine ⟨fun x hx => ?_, t.only, fun a ha u z => ?_⟩
  · obtain ⟨h1, h2, h3⟩ := t.tab x hx
    exact ⟨h1, List.mem_append_left _ h2, h3⟩
  · have ha : a ∈ g.ro ++ [p] := ha
    rcases List.mem_append.mp ha with y | y
    · exact t.roc a y u z
    · simp at y; subst y; exact (h _ z).toNoCX
end
theorem plain_lst {vs : List V} : Plain (.lst vs) := by exact ⟨⟨fun _ _ z => (by unfold LamX.CodeO at z; cases z), fun _ z => (by cases z)⟩, fun _ z => (by cases z)⟩
theorem plain_dK {vs : List (Key × V)} : Plain (.dK vs) := by exact ⟨⟨fun _ _ z => (by unfold LamX.CodeO at z; cases z), fun _ z => (by cases z)⟩, fun _ z => (by cases z)⟩
theorem plain_frz {o : Obj} {u : HO} : Plain (.frz o u) := by exact ⟨⟨fun _ _ z => (by unfold LamX.CodeO at z; cases z), fun _ z => (by cases z)⟩, fun _ z => (by cases z)⟩
theorem plain_ins {C dx : Addr} {vs : List (Str × V)} : Plain (.ins C dx vs) := by exact ⟨⟨fun _ _ z => (by unfold LamX.CodeO at z; cases z), fun _ z => (by cases z)⟩, fun _ z => (by cases z)⟩
/-- the entry of a def: its ghosts, its heap -/
structure En where
  g : Gh
  H : Hp
structure RelH (T : Tab) (e : En) (g : Gh) (hp : List Cell) (H : Hp) : Prop where
  len : g.ro.length = hp.length
  nd : g.ro.Nodup
  cell : ∀ (n : Nat) (c : Cell) (a : Addr), hp[n]? = some c → g.ro[n]? = some a → CellR T g H c a
  thaw : ∀ (n : Nat) (c : Cell) (a : Addr), hp[n]? = some c → g.ro[n]? = some a → Own c → ¬ g.fz a
  fzt : ∀ a, g.fz a → ∃ o, H a = some o
  rot : ∀ a ∈ g.ro, ∃ o, H a = some o
  frm : ∀ a o, e.H a = some o → a ∉ e.g.ro → H a = some o
  nfz : ∀ a, g.fz a → e.g.fz a ∨ e.H a = none ∨ a ∈ e.g.ro
  nro : ∀ a ∈ g.ro, a ∈ e.g.ro ∨ e.H a = none
  m0 : Mono e.g e.H g H
  tb : TbOk T.tb g H
  tbe : ∀ p ∈ T.tb, p.1 ∈ e.g.ro
theorem CellR.plain {T : Tab} {g : Gh} {H : Hp} {c : Cell} {a : Addr} (h : CellR T g H c a) (o : Own c) {u : HO} (e : H a = some u) : Plain u := by
  cases c with
  | lst ms => obtain ⟨vs, h1, _⟩ := h; rw [e] at h1; cases h1; exact plain_lst
  | dK ms => obtain ⟨vs, h1, _⟩ := h; rw [e] at h1; cases h1; exact plain_dK
  | dF ms => obtain ⟨_, vs, h1, _⟩ := h; rw [e] at h1; cases h1; exact plain_frz
  | ins c ms => obtain ⟨_, _, vs, _, h1, _⟩ := h; rw [e] at h1; cases h1; exact plain_ins
  | tP ms => exact o.elim
  | dead => exact o.elim
structure Rel (T : Tab) (e : En) (g : Gh) (s : MS) (σ : L2.St) (H : Hp) : Prop where
  h : RelH T e g s.hp H
  len : s.env.length = σ.length
  sl : ∀ (i : Nat) (m : M) (v : Option V), s.env[i]? = some (some m) → σ[i]? = some v → ∃ x, v = some x ∧ RV T g H m x
section
variable {T : Tab} {e : En} {g g1 : Gh} {H H1 : Hp} {s : MS} {σ : L2.St} {hp : List Cell}
theorem CellR.monoB (q : MonoB g H g1 H1) {c : Cell} {a : Addr} (h : H1 a = H a) (r : CellR T g H c a) : CellR T g1 H1 c a := by
  cases c with
  | lst ms => obtain ⟨vs, h1, h2⟩ := r; exact ⟨vs, h.trans h1, h2.monoB q⟩
  | dK kms => obtain ⟨vs, h1, h2⟩ := r; exact ⟨vs, h.trans h1, h2.monoB q⟩
  | dF kms => obtain ⟨o, vs, h1, h2⟩ := r; exact ⟨o, vs, h.trans h1, h2.monoB q⟩
  | ins c fms => obtain ⟨C, dx, vs, l, h1, h2⟩ := r; exact ⟨C, dx, vs, l, h.trans h1, h2.monoB q⟩
  | tP ms => obtain ⟨o, vs, h0, h00, h1, h2⟩ := r; exact ⟨o, vs, h0, h00, h.trans h1, h2.monoB q⟩
  | dead => trivial
theorem CellR.mono (q : Mono g H g1 H1) {c : Cell} {a : Addr} (h : H1 a = H a) (r : CellR T g H c a) : CellR T g1 H1 c a := r.monoB q.toMonoB h
theorem Rel.get (r : Rel T e g s σ H) {i : Nat} {m : M} (h : s.env[i]? = some (some m)) : ∃ x, σ[i]? = some (some x) ∧ RV T g H m x := by
  have hi : i < σ.length := by
    rw [← r.len]
    exact (List.getElem?_eq_some_iff.mp h).1
  obtain ⟨x, e, q⟩ := r.sl i m σ[i] h (List.getElem?_eq_getElem hi)
  exact ⟨x, by rw [List.getElem?_eq_getElem hi, e], q⟩
/-- the slots stand while the values do -/
theorem Rel.envB (r : Rel T e g s σ H) (q : MonoB g H g1 H1) (h : RelH T e g1 hp H1) : Rel T e g1 ⟨s.env, hp⟩ σ H1 :=
  ⟨h, r.len, fun i m v h1 h2 => by
    obtain ⟨x, e, z⟩ := r.sl i m v h1 h2
    exact ⟨x, e, z.monoB q⟩⟩
theorem Rel.env (r : Rel T e g s σ H) (q : Mono g H g1 H1) (h : RelH T e g1 hp H1) : Rel T e g1 ⟨s.env, hp⟩ σ H1 := r.envB q.toMonoB h
theorem Rel.put (r : Rel T e g s σ H) {i : Nat} {m : M} {v : V} (h : RV T g H m v) : Rel T e g ⟨s.env.set i (some m), s.hp⟩ (σ.set i (some v)) H := by
  refine ⟨r.h, by simp [r.len], fun j m' v' h1 h2 => ?_⟩
  have h1 : (s.env.set i (some m))[j]? = some (some m') := h1
  rw [List.getElem?_set] at h1 h2
  by_cases hij : i = j
  · rw [if_pos hij] at h1 h2
    split at h1
    · split at h2
      · cases h1; cases h2; exact ⟨v, rfl, h⟩
      · cases h2
    · cases h1
  · rw [if_neg hij] at h1 h2
    exact r.sl j m' v' h1 h2
end
end Ma
/-! Ma3: the machine's code as readings; expressions, tests, statements. -/
namespace Ma
open L2 PySem
/-- where a piece of code stands -/
structure MC where
  X : Cx
  T : Tab
  e : En
  W : WX
  hK : X.K = T.K
/-- an exception in the machine and in the layer -/
def XR (T : Tab) (g : Gh) (H : Hp) (x : Exc) (cls : Value) (d : Option Addr) : Prop :=
  ∃ C, T.ad x.c = some C ∧ cls = .ref C ∧ match d with
    | none => x.ns = [] ∧ x.ms = []
    | some dx => ∃ vs, x.ns.length = vs.length ∧ H dx = some (.xd (x.ns.zip vs)) ∧ RVs T g H x.ms vs
abbrev MC.rel (C : MC) (g : Gh) (s : MS) (σ : L2.St) (H : Hp) : Prop := Rel C.T C.e g s σ H
/-- what a piece's end has to give -/
def Go {α β : Type} (C : MC) (R : Gh → Hp → α → β → Prop) (σ : L2.St) (r : Res α) (g : Gh) (H : Hp) (Q : β → Hp → Prop) : Prop :=
  match r with
  | .ok m s => ∀ (g' : Gh) (H' : Hp) (v : β), Mono g H g' H' → C.rel g' s σ H' → R g' H' m v → Q v H'
  | .err x s => ∀ (g' : Gh) (H' : Hp) (cls : Value) (d : Option Addr), Mono g H g' H' → C.rel g' s σ H' → XR C.T g' H' x cls d → C.W cls d σ H'
  | .stuck => False
abbrev MC.V1 (C : MC) : Gh → Hp → M → V → Prop := fun g H m v => RV C.T g H m v
abbrev MC.Vn (C : MC) : Gh → Hp → List M → List V → Prop := fun g H m v => RVs C.T g H m v
def REq {α : Type} : Gh → Hp → α → α → Prop := fun _ _ a b => a = b
section
variable {C : MC} {α β γ δ : Type} {R : Gh → Hp → α → β → Prop} {S : Gh → Hp → γ → δ → Prop} {σ : L2.St} {g g1 : Gh} {H H1 : Hp}
theorem Go.later {r : Res α} {Q : β → Hp → Prop} (m : Mono g H g1 H1) (h : Go C R σ r g H Q) : Go C R σ r g1 H1 Q := by
  cases r with
  | ok a s => exact fun g' H' v q => h g' H' v (m.trans q)
  | err x s => exact fun g' H' cls d q => h g' H' cls d (m.trans q)
  | stuck => exact h
theorem Go.imp {r : Res α} {Q Q' : β → Hp → Prop} (h : Go C R σ r g H Q) (hq : ∀ v H', Q v H' → Q' v H') : Go C R σ r g H Q' := by
  cases r with
  | ok a s => exact fun g' H' v q r x => hq _ _ (h g' H' v q r x)
  | err x s => exact h
  | stuck => exact h
/-- one piece, then another -/
theorem Go.bind {r : Res α} {f : α → MS → Res γ} {Q : δ → Hp → Prop} (h : Go C S σ (r.bind f) g H Q) :
    Go C R σ r g H fun x H1 => ∃ m s1 g1, Mono g H g1 H1 ∧ C.rel g1 s1 σ H1 ∧ R g1 H1 m x ∧ Go C S σ (f m s1) g1 H1 Q := by
  cases r with
  | ok a s => exact fun g' H' v q r x => ⟨a, s, g', q, r, x, h.later q⟩
  | err x s => exact h
  | stuck => exact h
theorem Go.ret {a : α} {s : MS} {v : β} {Q : β → Hp → Prop} (h : Go C R σ (.ok a s) g H Q) (hr : C.rel g s σ H) (hv : R g H a v) : Q v H :=
  h g H v (Mono.refl _ _) hr hv
end
/-- readings -/
def rdE (C : MC) (m : ME) : TE := fun σ H Q => ∃ g s, C.rel g s σ H ∧ Go C C.V1 σ (m s) g H Q
def rdA (C : MC) (m : MA) : TA := fun σ H Q => ∃ g s, C.rel g s σ H ∧ Go C C.Vn σ (m s) g H Q
def rdT (C : MC) (m : MT) : TT := fun σ H Q => ∃ g s, C.rel g s σ H ∧ Go C REq σ (m s) g H Q
/-- of a statement: the slots may change -/
def GoS (C : MC) (r : Res Fl) (g : Gh) (H : Hp) (D : Ends) : Prop :=
  match r with
  | .ok .nx s => ∀ (g' : Gh) (H' : Hp) (σ : L2.St), Mono g H g' H' → C.rel g' s σ H' → D.nx σ H'
  | .ok .bk s => ∀ (g' : Gh) (H' : Hp) (σ : L2.St), Mono g H g' H' → C.rel g' s σ H' → D.bk σ H'
  | .ok .ct s => ∀ (g' : Gh) (H' : Hp) (σ : L2.St), Mono g H g' H' → C.rel g' s σ H' → D.ct σ H'
  | .ok (.rt m) s => ∀ (g' : Gh) (H' : Hp) (σ : L2.St) (v : V), Mono g H g' H' → C.rel g' s σ H' → RV C.T g' H' m v → D.rt v H'
  | .err x s => ∀ (g' : Gh) (H' : Hp) (σ : L2.St) (cls : Value) (d : Option Addr), Mono g H g' H' → C.rel g' s σ H' → XR C.T g' H' x cls d → C.W cls d σ H'
  | .stuck => False
def rdS (C : MC) (m : MStm) : TS := fun D σ H => ∃ g s, C.rel g s σ H ∧ GoS C (m s) g H D
abbrev PMe (C : MC) (e : Expr) (m : ME) : Prop := PE C.X e (rdE C m)
abbrev PMa (C : MC) (e : List Expr) (m : MA) : Prop := PA C.X e (rdA C m)
abbrev PMt (C : MC) (e : Expr) (m : MT) : Prop := PT C.X e (rdT C m)
abbrev PMw (C : MC) (e : Expr) (m : MT) : Prop := PW C.X e (rdT C m)
abbrev PMs (C : MC) (e : Stmt) (m : MStm) : Prop := PS C.X e (rdS C m)
abbrev PMb (C : MC) (e : List Stmt) (m : MStm) : Prop := PSs C.X e (rdS C m)
theorem wkE {X : Cx} {e : Expr} {t t' : TE} (h : PE X e t) (k : ∀ σ H Q, t' σ H Q → t σ H Q) : PE X e t' := ⟨fun pins s σ H Q I q => h.run pins s σ H Q I (k _ _ _ q)⟩
theorem wkA {X : Cx} {e : List Expr} {t t' : TA} (h : PA X e t) (k : ∀ σ H Q, t' σ H Q → t σ H Q) : PA X e t' := ⟨fun pos pins s σ H Q I q => h.run pos pins s σ H Q I (k _ _ _ q)⟩
theorem wkT {X : Cx} {e : Expr} {t t' : TT} (h : PT X e t) (k : ∀ σ H Q, t' σ H Q → t σ H Q) : PT X e t' := ⟨fun pins s σ H Q I q => h.run pins s σ H Q I (k _ _ _ q)⟩
theorem wkW {X : Cx} {e : Expr} {t t' : TT} (h : PW X e t) (k : ∀ σ H Q, t' σ H Q → t σ H Q) : PW X e t' := ⟨fun w pins s σ H Q I q => h.run w pins s σ H Q I (k _ _ _ q)⟩
theorem wkS {X : Cx} {e : Stmt} {t t' : TS} (h : PS X e t) (k : ∀ D σ H, t' D σ H → t D σ H) : PS X e t' := ⟨fun pins s σ H D I q => h.run pins s σ H D I (k _ _ _ q)⟩
theorem wkB {X : Cx} {e : List Stmt} {t t' : TS} (h : PSs X e t) (k : ∀ D σ H, t' D σ H → t D σ H) : PSs X e t' := ⟨fun pins s σ H D I q => h.run pins s σ H D I (k _ _ _ q)⟩
/-! ### names and constants -/
def mv (i : Nat) : ME := fun s => match s.env[i]? with
  | some (some m) => .ok m s
  | _ => .stuck
def mc (m : M) : ME := fun s => .ok m s
section
variable {C : MC} {x : Str} {pos : Pos}
theorem em_v (i : Nat) (hN : C.X.N[i]? = some x := by rfl) (hv : Vis C.X.env.scope x := by first | exact Or.inl rfl | exact Or.inr (Or.inl rfl) | exact Or.inr (Or.inr rfl)) (hd : (x == ("__debug__" : Str)) = false := by decide)
    (hcd : (x == ("__classdict__" : Str)) = false := by decide) : PMe C (.Name x pos) (mv i) := by
  refine wkE (pe_var (i := i) hN hv hd hcd) fun σ H Q ⟨g, s, r, q⟩ => ?_
  unfold mv at q
  split at q
  · rename_i m hm
    obtain ⟨v, e, rv⟩ := r.get hm
    exact ⟨v, e, q.ret r rv⟩
  · exact q.elim
theorem em_c {e : Expr} {v : V} {m : M} (h : PE C.X e (tC v)) (hv : ∀ g H, RV C.T g H m v) : PMe C e (mc m) :=
  wkE h fun _ _ _ ⟨_, _, r, q⟩ => q.ret r (hv _ _)
theorem em_int {i j} : PMe C (.Constant (.int i) j pos) (mc (.int i)) := em_c pe_int fun _ _ => .int i
theorem em_bl {i j} : PMe C (.Constant (.bool i) j pos) (mc (.bl i)) := em_c pe_bl fun _ _ => .bl i
theorem em_non {j} : PMe C (.Constant .none j pos) (mc .non) := em_c pe_non fun _ _ => .non
theorem em_str {i j} : PMe C (.Constant (.str i) j pos) (mc (.str i)) := em_c pe_str fun _ _ => .str i
end
/-! ### two expressions and an operator -/
def Op2Ok (C : MC) (f : Value → Value → Sem Value) (o : M → M → MS → Res M) : Prop :=
  ∀ (pins : List (Addr × Obj)) (s : Shared) (σ : L2.St) (H : Hp) (g : Gh) (ms : MS) (m1 m2 : M) (x y : V) (v u : Value) (Q : VK), Inv C.X pins σ H s → C.rel g ms σ H → RV C.T g H m1 x → RV C.T g H m2 y → RelV x v → RelV y u →
    Go C C.V1 σ (o m1 m2 ms) g H Q → wpAny (model C.X.prog C.X.w) C.X.A (f v u) (EP C.X pins σ Q) C.X.xe s
theorem Op2Ok.of {C : MC} {f : Value → Value → Sem Value} {r : R2} {o : M → M → MS → Res M} (h : OpR C.X f r)
    (k : ∀ (σ : L2.St) (H : Hp) (g : Gh) (ms : MS) (m1 m2 : M) (x y : V) (Q : VK), C.rel g ms σ H → RV C.T g H m1 x → RV C.T g H m2 y → Go C C.V1 σ (o m1 m2 ms) g H Q → r x y H Q) : Op2Ok C f o :=
  fun pins s σ H g ms m1 m2 x y v u Q I r r1 r2 l1 l2 q => h pins s σ H x y v u Q I l1 l2 (k σ H g ms m1 m2 x y Q r r1 r2 q)
def m2 (o : M → M → MS → Res M) (a b : ME) : ME := fun s => (a s).bind fun x s1 => (b s1).bind fun y s2 => o x y s2
/-- evaluate both, then the operator's own ground -/
theorem both {C : MC} {ea eb : Expr} {a b : ME} (ha : PMe C ea a) (hb : PMe C eb b) {o : M → M → MS → Res M} {pins : List (Addr × Obj)} {s : Shared} {σ : L2.St} {H : Hp} {Q : VK} (I : Inv C.X pins σ H s) (h : rdE C (m2 o a b) σ H Q)
    {β : Type} {P : β → Shared → Prop} {f : Value → Value → Sem β}
    (hf : ∀ v u s2 x y H2 g2 ms m1 m2, Inv C.X pins σ H2 s2 → C.rel g2 ms σ H2 → RV C.T g2 H2 m1 x → RV C.T g2 H2 m2 y → RelV x v → RelV y u → Go C C.V1 σ (o m1 m2 ms) g2 H2 Q → wpAny (model C.X.prog C.X.w) C.X.A (f v u) P C.X.xe s2) :
    wpAny (model C.X.prog C.X.w) C.X.A (eval ea C.X.env) (fun v s₁ => wpAny (model C.X.prog C.X.w) C.X.A (eval eb C.X.env) (fun u s₂ => wpAny (model C.X.prog C.X.w) C.X.A (f v u) P C.X.xe s₂) C.X.xe s₁) C.X.xe s := by
  obtain ⟨g, ms, r, q⟩ := h
  refine thn (ha.run pins s σ H _ I ⟨g, ms, r, Go.bind q⟩) fun v s1 ⟨x, H1, I1, l1, m1, ms1, g1, mo1, r1, rv1, q1⟩ => ?_
  refine thn (hb.run pins s1 σ H1 _ I1 ⟨g1, ms1, r1, Go.bind q1⟩) fun u s2 ⟨y, H2, I2, l2, m2, ms2, g2, mo2, r2, rv2, q2⟩ => ?_
  exact hf v u s2 x y H2 g2 ms2 m1 m2 I2 r2 (rv1.mono mo2) rv2 l1 l2 q2
theorem em_bin {C : MC} {ea eb : Expr} {a b : ME} {op : Operator} {pos : Pos} {o : M → M → MS → Res M} (ho : Op2Ok C (binaryOp op) o) (ha : PMe C ea a) (hb : PMe C eb b) : PMe C (.BinOp ea op eb pos) (m2 o a b) := by
  refine ⟨fun pins s σ H Q I h => wpAny_BinOp ?_⟩
  exact both ha hb I h fun v u s2 x y H2 g2 ms m1 m2 I2 r2 rv1 rv2 l1 l2 q => ho pins s2 σ H2 g2 ms m1 m2 x y v u Q I2 r2 rv1 rv2 l1 l2 q
end Ma
/-! Ma4: comparisons, tests, and, or, not, conditional expressions; statements without loops, while. -/
namespace Ma
open L2 PySem
section
variable {C : MC} {ea eb ec : Expr} {a b c : ME} {pos : Pos}
theorem em_cmp {op : CmpOp} {o : M → M → MS → Res M} (ho : Op2Ok C (compareOp op) o) (ha : PMe C ea a) (hb : PMe C eb b) (hm : behindInMarks op eb = false) : PMe C (.Compare ea [op] [eb] pos) (m2 o a b) := by
  refine ⟨fun pins s σ H Q I h => wpAny_Compare1 ?_ hm⟩
  exact both ha hb I h fun v u s2 x y H2 g2 ms m1 m2 I2 r2 rv1 rv2 l1 l2 q => ho pins s2 σ H2 g2 ms m1 m2 x y v u Q I2 r2 rv1 rv2 l1 l2 q
/-- a value that is a bool -/
def isB (m : M) : MS → Res Bool := fun s => match m with
  | .bl k => .ok k s
  | _ => .stuck
def mB (a : ME) : MT := fun s => (a s).bind isB
theorem Go.isB {σ : L2.St} {g : Gh} {H : Hp} {m : M} {ms : MS} {x : V} {Q : Bool → Hp → Prop} (h : Go C REq σ (isB m ms) g H Q) (r : C.rel g ms σ H) (rv : RV C.T g H m x) : ∃ k, x = .bl k ∧ Q k H := by
  cases rv with
  | bl k => exact ⟨k, rfl, h g H k (Mono.refl _ _) r rfl⟩
  | _ => exact h.elim
theorem tB_of {t : TE} {σ : L2.St} {H : Hp} {Q : Bool → Hp → Prop} (he : ∀ σ H Q, rdE C a σ H Q → t σ H Q) (h : rdT C (mB a) σ H Q) : tB t σ H Q := by
  obtain ⟨g, s, r, q⟩ := h
  refine he _ _ _ ⟨g, s, r, (Go.bind (R := C.V1) q).imp ?_⟩
  rintro x H1 ⟨m, s1, g1, mo, r1, rv, q1⟩
  exact q1.isB r1 rv
/-- a bool's expression as a test -/
theorem tm_val (h : PMe C ea a) (he : ∀ whole, isTrue ea C.X.env whole = (do let v ← whole; standAt ea.pos; PySem.holding [v] (truthy v)) := by intro _; rfl) : PMt C ea (mB a) :=
  wkT (pt_val h he) fun σ H Q q => tB_of (fun _ _ _ z => z) q
/-- a comparison as a test -/
theorem tm_cmp {op : CmpOp} {o : M → M → MS → Res M} (ho : Op2Ok C (compareOp op) o) (ha : PMe C ea a) (hb : PMe C eb b) (hm : behindInMarks op eb = false) : PMt C (.Compare ea [op] [eb] pos) (mB (m2 o a b)) := by
  refine ⟨fun pins s σ H Q I h => wpAny_isTrue_Compare1 ?_ hm⟩
  have h2 : rdE C (m2 o a b) σ H fun x H1 => ∃ k, x = .bl k ∧ Q k H1 := by
    obtain ⟨g, s, r, q⟩ := h
    refine ⟨g, s, r, (Go.bind (R := C.V1) q).imp ?_⟩
    rintro x H1 ⟨m, s1, g1, mo, r1, rv, q1⟩
    exact q1.isB r1 rv
  exact both ha hb I h2 fun v u s2 x y H2 g2 ms m1 m2 I2 r2 rv1 rv2 l1 l2 q =>
    thn (ho pins s2 σ H2 g2 ms m1 m2 x y v u _ I2 r2 rv1 rv2 l1 l2 q) fun c s3 ⟨z, H3, I3, r3, k, e, q3⟩ => by
      subst e
      cases r3
      exact wpAny_truthy_bool ⟨H3, I3, q3⟩
def mNot (t : MT) : MT := fun s => (t s).bind fun k s1 => .ok (!k) s1
def mAnd (t u : MT) : MT := fun s => (t s).bind fun k s1 => if k = true then u s1 else .ok false s1
def mOr (t u : MT) : MT := fun s => (t s).bind fun k s1 => if k = true then .ok true s1 else u s1
variable {t u : MT} {rest : List Expr}
theorem rdT_bind {γ δ : Type} {S : Gh → Hp → γ → δ → Prop} {σ : L2.St} {H : Hp} {f : Bool → MS → Res γ} {Q : δ → Hp → Prop} (h : ∃ g s, C.rel g s σ H ∧ Go C S σ ((t s).bind f) g H Q) :
    rdT C t σ H fun k H1 => ∃ s1 g1, C.rel g1 s1 σ H1 ∧ Go C S σ (f k s1) g1 H1 Q := by
  obtain ⟨g, s, r, q⟩ := h
  refine ⟨g, s, r, (Go.bind (R := REq) q).imp ?_⟩
  rintro k H1 ⟨k', s1, g1, mo, r1, rv, q1⟩
  cases rv
  exact ⟨s1, g1, r1, q1⟩
theorem tm_not (ha : PMt C ea t) : PMt C (.UnaryOp .Not ea pos) (mNot t) :=
  wkT (pt_not ha) fun σ H Q h => by
    obtain ⟨g, s, r, q⟩ := rdT_bind h
    refine ⟨g, s, r, q.imp ?_⟩
    rintro k H1 ⟨s1, g1, r1, q1⟩
    exact q1.ret r1 rfl
theorem wm_and1 (ha : PMt C ea t) : PMw C (.BoolOp .And [ea] pos) t := pw_and1 ha
theorem wm_or1 (ha : PMt C ea t) : PMw C (.BoolOp .Or [ea] pos) t := pw_or1 ha
theorem wm_and (ha : PMt C ea t) (hb : PMw C (.BoolOp .And (eb :: rest) pos) u) : PMw C (.BoolOp .And (ea :: eb :: rest) pos) (mAnd t u) :=
  wkW (pw_and ha hb) fun σ H Q h => by
    obtain ⟨g, s, r, q⟩ := rdT_bind h
    refine ⟨g, s, r, q.imp ?_⟩
    rintro k H1 ⟨s1, g1, r1, q1⟩
    cases k with
    | true => exact ⟨g1, s1, r1, q1⟩
    | false => exact q1.ret r1 rfl
theorem wm_or (ha : PMt C ea t) (hb : PMw C (.BoolOp .Or (eb :: rest) pos) u) : PMw C (.BoolOp .Or (ea :: eb :: rest) pos) (mOr t u) :=
  wkW (pw_or ha hb) fun σ H Q h => by
    obtain ⟨g, s, r, q⟩ := rdT_bind h
    refine ⟨g, s, r, q.imp ?_⟩
    rintro k H1 ⟨s1, g1, r1, q1⟩
    cases k with
    | true => exact q1.ret r1 rfl
    | false => exact ⟨g1, s1, r1, q1⟩
theorem tm_w (h : PMw C ea t) : PMt C ea t := h.pt
/-- and, or, not as values: of bools -/
def mAndV (a b : ME) : ME := fun s => (a s).bind fun x s1 => match x with
  | .bl k => if k = true then b s1 else .ok (.bl false) s1
  | _ => .stuck
def mNotV (a : ME) : ME := fun s => (a s).bind fun x s1 => match x with
  | .bl k => .ok (.bl (!k)) s1
  | _ => .stuck
theorem rdE_bind {γ δ : Type} {S : Gh → Hp → γ → δ → Prop} {σ : L2.St} {H : Hp} {f : M → MS → Res γ} {Q : δ → Hp → Prop} (h : ∃ g s, C.rel g s σ H ∧ Go C S σ ((a s).bind f) g H Q) :
    rdE C a σ H fun x H1 => ∃ m s1 g1, C.rel g1 s1 σ H1 ∧ RV C.T g1 H1 m x ∧ Go C S σ (f m s1) g1 H1 Q := by
  obtain ⟨g, s, r, q⟩ := h
  refine ⟨g, s, r, (Go.bind (R := C.V1) q).imp ?_⟩
  rintro x H1 ⟨m, s1, g1, mo, r1, rv, q1⟩
  exact ⟨m, s1, g1, r1, rv, q1⟩
theorem em_one {op} (h : PMe C ea a) : PMe C (.BoolOp op [ea] pos) a := pe_one h
theorem em_and (ha : PMe C ea a) (hb : PMe C (.BoolOp .And (eb :: rest) pos) b) : PMe C (.BoolOp .And (ea :: eb :: rest) pos) (mAndV a b) :=
  wkE (pe_and ha hb) fun σ H Q h => by
    obtain ⟨g, s, r, q⟩ := rdE_bind h
    refine ⟨g, s, r, q.imp ?_⟩
    rintro k H1 ⟨m, s1, g1, r1, rv, q1⟩
    cases rv with
    | bl k =>
      refine ⟨k, rfl, ?_⟩
      cases k with
      | true => exact ⟨g1, s1, r1, q1⟩
      | false => exact q1.ret r1 (.bl _)
    | _ => exact q1.elim
theorem em_not (ha : PMe C ea a) : PMe C (.UnaryOp .Not ea pos) (mNotV a) :=
  wkE (pe_not ha) fun σ H Q h => by
    obtain ⟨g, s, r, q⟩ := rdE_bind h
    refine ⟨g, s, r, q.imp ?_⟩
    rintro k H1 ⟨m, s1, g1, r1, rv, q1⟩
    cases rv with
    | bl k => exact ⟨k, rfl, q1.ret r1 (.bl _)⟩
    | _ => exact q1.elim
def mIf (t : MT) (a b : ME) : ME := fun s => (t s).bind fun k s1 => if k = true then a s1 else b s1
theorem em_if (hc : PMt C ec t) (ha : PMe C ea a) (hb : PMe C eb b) : PMe C (.IfExp ec ea eb pos) (mIf t a b) :=
  wkE (pe_ifExp hc ha hb) fun σ H Q h => by
    obtain ⟨g, s, r, q⟩ := rdT_bind h
    refine ⟨g, s, r, q.imp ?_⟩
    rintro k H1 ⟨s1, g1, r1, q1⟩
    cases k with
    | true => exact ⟨g1, s1, r1, q1⟩
    | false => exact ⟨g1, s1, r1, q1⟩
/-! ### argument lists -/
def mNil : MA := fun s => .ok [] s
def mCons (a : ME) (b : MA) : MA := fun s => (a s).bind fun x s1 => (b s1).bind fun xs s2 => .ok (x :: xs) s2
theorem am_nil : PMa C [] mNil := wkA pa_nil fun σ H Q ⟨g, s, r, q⟩ => q.ret r .nil
theorem am_cons {es : List Expr} {m : MA} (ha : PMe C ea a) (hb : PMa C es m) (he : starEach (ea :: es) C.X.env = (false, eval ea C.X.env) :: starEach es C.X.env := by rfl) : PMa C (ea :: es) (mCons a m) :=
  wkA (pa_cons ha hb he) fun σ H Q h => by
    obtain ⟨g, s, r, q⟩ := rdE_bind h
    refine ⟨g, s, r, q.imp ?_⟩
    rintro x H1 ⟨m, s1, g1, r1, rv, q1⟩
    refine ⟨g1, s1, r1, (Go.bind (R := C.Vn) q1).imp ?_⟩
    rintro xs H2 ⟨ms, s2, g2, mo2, r2, rvs, q2⟩
    exact q2.ret r2 (.cons (rv.mono mo2) rvs)
end
end Ma
/-! Ma5: statements: blocks, assignments, if, while, for. -/
namespace Ma
open L2 PySem
section
variable {C : MC} {g g1 : Gh} {H H1 : Hp} {D D' : Ends}
theorem GoS.later {r : Res Fl} (m : Mono g H g1 H1) (h : GoS C r g H D) : GoS C r g1 H1 D := by
  cases r with
  | ok f s => cases f with
    | nx => exact fun g' H' σ q => h g' H' σ (m.trans q)
    | bk => exact fun g' H' σ q => h g' H' σ (m.trans q)
    | ct => exact fun g' H' σ q => h g' H' σ (m.trans q)
    | rt v => exact fun g' H' σ v q => h g' H' σ v (m.trans q)
  | err x s => exact fun g' H' σ cls d q => h g' H' σ cls d (m.trans q)
  | stuck => exact h
/-- an expression, then a statement's rest -/
theorem Go.bindS {α β : Type} {R : Gh → Hp → α → β → Prop} {σ : L2.St} {r : Res α} {f : α → MS → Res Fl} (h : GoS C (r.bind f) g H D) :
    Go C R σ r g H fun x H1 => ∃ m s1 g1, Mono g H g1 H1 ∧ C.rel g1 s1 σ H1 ∧ R g1 H1 m x ∧ GoS C (f m s1) g1 H1 D := by
  cases r with
  | ok a s => exact fun g' H' v q r x => ⟨a, s, g', q, r, x, h.later q⟩
  | err x s => exact fun g' H' cls d q r x => h g' H' σ cls d q r x
  | stuck => exact h
theorem GoS.nx {s : MS} {σ : L2.St} (h : GoS C (.ok .nx s) g H D) (r : C.rel g s σ H) : D.nx σ H := h g H σ (Mono.refl _ _) r
def sNx : MStm := fun s => .ok .nx s
def sSeq (a b : MStm) : MStm := fun s => (a s).bind fun f s1 => match f with
  | .nx => b s1
  | f => .ok f s1
theorem rdS_seq {a b : MStm} {σ : L2.St} (h : rdS C (sSeq a b) D σ H) : rdS C a { D with nx := rdS C b D } σ H := by
  obtain ⟨g, s, r, q⟩ := h
  refine ⟨g, s, r, ?_⟩
  unfold sSeq at q
  cases ha : a s with
  | ok f s1 =>
    rw [ha] at q
    cases f with
    | nx => exact fun g' H' σ m r => ⟨g', s1, r, GoS.later m q⟩
    | bk => exact q
    | ct => exact q
    | rt v => exact q
  | err x s1 => rw [ha] at q; exact q
  | stuck => rw [ha] at q; exact q
variable {st : Stmt} {rest : List Stmt} {a b : MStm} {pos : Pos} {ex : Expr} {m : ME} {i : Nat} {x : Str}
theorem bm_nil : PMb C [] sNx := wkB pss_nil fun D σ H ⟨g, s, r, q⟩ => q.nx r
theorem bm_cons (h1 : PMs C st a) (h2 : PMb C rest b) : PMb C (st :: rest) (sSeq a b) := wkB (pss_cons h1 h2) fun D σ H h => rdS_seq h
theorem bm_one (h1 : PMs C st a) : PMb C [st] a := pss_one h1
theorem sm_pass : PMs C (.Pass pos) sNx := wkS ps_pass fun D σ H ⟨g, s, r, q⟩ => q.nx r
def sExpr (m : ME) : MStm := fun s => (m s).bind fun _ s1 => .ok .nx s1
def sRet (m : ME) : MStm := fun s => (m s).bind fun v s1 => .ok (.rt v) s1
def sSet (i : Nat) (m : ME) : MStm := fun s => (m s).bind fun v s1 => .ok .nx ⟨s1.env.set i (some v), s1.hp⟩
theorem rdE_bindS {f : M → MS → Res Fl} {σ : L2.St} (h : ∃ g s, C.rel g s σ H ∧ GoS C ((m s).bind f) g H D) :
    rdE C m σ H fun x H1 => ∃ v s1 g1, C.rel g1 s1 σ H1 ∧ RV C.T g1 H1 v x ∧ GoS C (f v s1) g1 H1 D := by
  obtain ⟨g, s, r, q⟩ := h
  refine ⟨g, s, r, (Go.bindS (R := C.V1) (σ := σ) q).imp ?_⟩
  rintro x H1 ⟨m, s1, g1, mo, r1, rv, q1⟩
  exact ⟨m, s1, g1, r1, rv, q1⟩
theorem rdT_bindS {t : MT} {f : Bool → MS → Res Fl} {σ : L2.St} (h : ∃ g s, C.rel g s σ H ∧ GoS C ((t s).bind f) g H D) :
    rdT C t σ H fun k H1 => ∃ s1 g1, C.rel g1 s1 σ H1 ∧ GoS C (f k s1) g1 H1 D := by
  obtain ⟨g, s, r, q⟩ := h
  refine ⟨g, s, r, (Go.bindS (R := REq) (σ := σ) q).imp ?_⟩
  rintro x H1 ⟨m, s1, g1, mo, r1, rv, q1⟩
  cases rv
  exact ⟨s1, g1, r1, q1⟩
theorem rdA_bindS {t : MA} {f : List M → MS → Res Fl} {σ : L2.St} (h : ∃ g s, C.rel g s σ H ∧ GoS C ((t s).bind f) g H D) :
    rdA C t σ H fun xs H1 => ∃ v s1 g1, C.rel g1 s1 σ H1 ∧ RVs C.T g1 H1 v xs ∧ GoS C (f v s1) g1 H1 D := by
  obtain ⟨g, s, r, q⟩ := h
  refine ⟨g, s, r, (Go.bindS (R := C.Vn) (σ := σ) q).imp ?_⟩
  rintro x H1 ⟨m, s1, g1, mo, r1, rv, q1⟩
  exact ⟨m, s1, g1, r1, rv, q1⟩
theorem sm_expr (he : PMe C ex m) (hs : swapsWith ex none pos.line C.X.env = pure false := by rfl) : PMs C (.Expr ex pos) (sExpr m) :=
  wkS (ps_expr he hs) fun D σ H h => by
    obtain ⟨g, s, r, q⟩ := rdE_bindS h
    exact ⟨g, s, r, q.imp fun x H1 ⟨v, s1, g1, r1, rv, q1⟩ => q1.nx r1⟩
theorem sm_ret (he : PMe C ex m) : PMs C (.Return (some ex) pos) (sRet m) :=
  wkS (ps_ret he) fun D σ H h => by
    obtain ⟨g, s, r, q⟩ := rdE_bindS h
    exact ⟨g, s, r, q.imp fun x H1 ⟨v, s1, g1, r1, rv, q1⟩ => q1 g1 H1 σ x (Mono.refl _ _) r1 rv⟩
theorem sm_set (i : Nat) {pos' : Pos} (hN : C.X.N.Nodup) (hi : C.X.N[i]? = some x) (hx : Loc C.X.env.scope x) (he : PMe C ex m) (hs : swapsWith ex (some (.Name x pos')) pos.line C.X.env = pure false := by rfl)
    (hf : C.X.fn x = true ∨ C.X.env.scope.names.lookup x = some .local := by first | exact .inl rfl | exact .inr rfl | assumption) : PMs C (.Assign [.Name x pos'] ex pos) (sSet i m) :=
  wkS (ps_set hN hi hx he hs hf) fun D σ H h => by
    obtain ⟨g, s, r, q⟩ := rdE_bindS h
    exact ⟨g, s, r, q.imp fun x H1 ⟨v, s1, g1, r1, rv, q1⟩ => q1.nx (r1.put rv)⟩
def sPar2 (i j : Nat) (m : MA) : MStm := fun s => (m s).bind fun vs s1 => match vs with
  | [v, w] => .ok .nx ⟨(s1.env.set i (some v)).set j (some w), s1.hp⟩
  | _ => .stuck
def sPar3 (i j l : Nat) (m : MA) : MStm := fun s => (m s).bind fun vs s1 => match vs with
  | [u, v, w] => .ok .nx ⟨((s1.env.set i (some u)).set j (some v)).set l (some w), s1.hp⟩
  | _ => .stuck
theorem sm_par2 (i j : Nat) {x y : Str} {ea eb : Expr} {ma : MA} {px py pt : Pos} {kt k2 pt2} (hc : C.X.calm = true) (hN : C.X.N.Nodup) (ha : PMa C [ea, eb] ma) (hi : C.X.N[i]? = some x := by rfl) (hj : C.X.N[j]? = some y := by rfl) (hij : i ≠ j := by decide)
    (hx : C.X.env.scope.names.lookup x = some .local := by rfl) (hy : C.X.env.scope.names.lookup y = some .local := by rfl)
    (hw : swappedStores [.Tuple [.Name x px, .Name y py] kt pt] (.Tuple [ea, eb] k2 pt2) C.X.env = pure (some [x, y]) := by rfl)
    (hs : swapsWithSole [.Tuple [.Name x px, .Name y py] kt pt] (.Tuple [ea, eb] k2 pt2) pos.line C.X.env = pure false := by rfl) :
    PMs C (.Assign [.Tuple [.Name x px, .Name y py] kt pt] (.Tuple [ea, eb] k2 pt2) pos) (sPar2 i j ma) :=
  wkS (ps_par hc hN hi hj hij hx hy ha hw hs) fun D σ H h => by
    obtain ⟨g, s, r, q⟩ := rdA_bindS h
    refine ⟨g, s, r, q.imp ?_⟩
    rintro xs H1 ⟨vs, s1, g1, r1, rv, q1⟩
    cases rv with
    | nil => exact q1.elim
    | cons rv1 rv => cases rv with
      | nil => exact q1.elim
      | cons rv2 rv => cases rv with
        | cons _ _ => exact q1.elim
        | nil => exact ⟨_, _, rfl, q1.nx ((r1.put rv1).put rv2)⟩
theorem sm_par3 (i j l : Nat) {x y z : Str} {ea eb ec : Expr} {ma : MA} {px py pz pt : Pos} {kt k2 pt2} (hc : C.X.calm = true) (hN : C.X.N.Nodup) (ha : PMa C [ea, eb, ec] ma) (hi : C.X.N[i]? = some x := by rfl) (hj : C.X.N[j]? = some y := by rfl) (hl : C.X.N[l]? = some z := by rfl)
    (hij : i ≠ j := by decide) (hil : i ≠ l := by decide) (hjl : j ≠ l := by decide)
    (hx : C.X.env.scope.names.lookup x = some .local := by rfl) (hy : C.X.env.scope.names.lookup y = some .local := by rfl) (hz : C.X.env.scope.names.lookup z = some .local := by rfl)
    (hw : swappedStores [.Tuple [.Name x px, .Name y py, .Name z pz] kt pt] (.Tuple [ea, eb, ec] k2 pt2) C.X.env = pure (some [x, y, z]) := by rfl)
    (hs : swapsWithSole [.Tuple [.Name x px, .Name y py, .Name z pz] kt pt] (.Tuple [ea, eb, ec] k2 pt2) pos.line C.X.env = pure false := by rfl) :
    PMs C (.Assign [.Tuple [.Name x px, .Name y py, .Name z pz] kt pt] (.Tuple [ea, eb, ec] k2 pt2) pos) (sPar3 i j l ma) :=
  wkS (ps_par3 hc hN hi hj hl hij hil hjl hx hy hz ha hw hs) fun D σ H h => by
    obtain ⟨g, s, r, q⟩ := rdA_bindS h
    refine ⟨g, s, r, q.imp ?_⟩
    rintro xs H1 ⟨vs, s1, g1, r1, rv, q1⟩
    cases rv with
    | nil => exact q1.elim
    | cons rv1 rv => cases rv with
      | nil => exact q1.elim
      | cons rv2 rv => cases rv with
        | nil => exact q1.elim
        | cons rv3 rv => cases rv with
          | cons _ _ => exact q1.elim
          | nil => exact ⟨_, _, _, rfl, q1.nx (((r1.put rv1).put rv2).put rv3)⟩
def sIf (t : MT) (a b : MStm) : MStm := fun s => (t s).bind fun k s1 => if k = true then a s1 else b s1
theorem sm_if {t : MT} {ss us : List Stmt} (hc : PMt C ex t) (ha : PMb C ss a) (hb : PMb C us b) : PMs C (.If ex ss us pos) (sIf t a b) :=
  wkS (ps_if hc ha hb) fun D σ H h => by
    obtain ⟨g, s, r, q⟩ := rdT_bindS h
    refine ⟨g, s, r, q.imp ?_⟩
    rintro k H1 ⟨s1, g1, r1, q1⟩
    cases k with
    | true => exact ⟨g1, s1, r1, q1⟩
    | false => exact ⟨g1, s1, r1, q1⟩
/-! ### while -/
def sWh (t : MT) (b : MStm) : Nat → MStm
  | 0 => fun _ => .stuck
  | n + 1 => fun s => (t s).bind fun k s1 => if k = true then (b s1).bind fun f s2 => (match f with
      | .nx => sWh t b n s2
      | .ct => sWh t b n s2
      | .bk => .ok .nx s2
      | .rt v => .ok (.rt v) s2) else .ok .nx s1
/-- a loop's turn: the body, then on, or out -/
theorem turn_of {b : MStm} {k : MStm} {s : MS} {σ : L2.St} (r : C.rel g s σ H) (q : GoS C ((b s).bind fun f s2 => (match f with
      | .nx => k s2
      | .ct => k s2
      | .bk => .ok .nx s2
      | .rt v => .ok (.rt v) s2)) g H D) :
    rdS C b { D with nx := fun σ' H' => ∃ g' s', Mono g H g' H' ∧ C.rel g' s' σ' H' ∧ GoS C (k s') g' H' D, ct := fun σ' H' => ∃ g' s', Mono g H g' H' ∧ C.rel g' s' σ' H' ∧ GoS C (k s') g' H' D, bk := D.nx } σ H := by
  refine ⟨g, s, r, ?_⟩
  cases hb : b s with
  | ok f s2 =>
    rw [hb] at q
    cases f with
    | nx => exact fun g' H' σ m r => ⟨g', s2, m, r, GoS.later m q⟩
    | ct => exact fun g' H' σ m r => ⟨g', s2, m, r, GoS.later m q⟩
    | bk => exact q
    | rt v => exact q
  | err x s2 => rw [hb] at q; exact q
  | stuck => rw [hb] at q; exact q
theorem sm_while (n : Nat) {t : MT} {ss : List Stmt} (hp : PassesOwn (model C.X.prog C.X.w) C.X.A C.X.env C.X.xe) (hc : PMt C ex t) (hb : PMb C ss b) : PMs C (.While ex ss [] pos) (sWh t b n) :=
  wkS (ps_while hp hc hb) fun D σ H h => by
    obtain ⟨g, s, r, q⟩ := h
    refine ⟨fun n σ H => ∃ g s, C.rel g s σ H ∧ GoS C (sWh t b n s) g H D, ⟨n, g, s, r, q⟩, ?_⟩
    rintro m σ H h
    cases m with
    | zero =>
      obtain ⟨g, s, r, q⟩ := h
      exact q.elim
    | succ m =>
      obtain ⟨g, s, r, q⟩ := rdT_bindS (f := fun k s1 => if k = true then (b s1).bind fun f s2 => (match f with
        | .nx => sWh t b m s2
        | .ct => sWh t b m s2
        | .bk => .ok .nx s2
        | .rt v => .ok (.rt v) s2) else .ok .nx s1) h
      refine ⟨g, s, r, q.imp ?_⟩
      rintro k H1 ⟨s1, g1, r1, q1⟩
      cases k with
      | false =>
        rw [if_neg Bool.false_ne_true] at q1
        exact q1.nx r1
      | true =>
        rw [if_pos rfl] at q1
        rw [if_pos rfl]
        refine ⟨fun σ' H' => ∃ g' s', Mono g1 H1 g' H' ∧ C.rel g' s' σ' H' ∧ GoS C (sWh t b m s') g' H' D, fun σ' H' ⟨g', s', _, r', q'⟩ => ⟨m, Nat.lt_succ_self m, g', s', r', q'⟩, turn_of r1 q1⟩
end
end Ma
/-! Ma6: what a loop walks, its targets, for. -/
namespace Ma
open L2 PySem
section
variable {C : MC} {g g1 : Gh} {H H1 : Hp} {D : Ends}
/-- a new object at an untracked place -/
theorem RelH.laid {T : Tab} {e : En} {hp : List Cell} {p : Addr} {o : HO} (r : RelH T e g hp H) (hn : H p = none) (ho : NoTbl o := by first | exact Plain.tbl (by assumption) | assumption | exact fun _ z => by cases z | exact fun _ z => by unfold XO at z; cases z) : RelH T e g hp (upd H p o) := by
  have ne : ∀ {a u}, H a = some u → a ≠ p := fun h => ne_of_none h hn
  have mo : Mono g H g (upd H p o) := ⟨⟨List.prefix_refl _, fun _ h => h, fun a h => by obtain ⟨u, q⟩ := r.fzt a h; rw [upd_ne (ne q)], fun a vs h => by rw [upd_ne (ne h)]; exact h⟩, fun a o u h => by rw [upd_ne (ne h)]; exact h⟩
  refine ⟨r.len, r.nd, fun n c a h1 h2 => ?_, r.thaw, fun a h => ?_, fun a h => ?_, fun a u h1 h2 => ?_, r.nfz, r.nro, r.m0.trans mo, r.tb.upd (fun u z => by rw [hn] at z; cases z) ho (fun hp => by obtain ⟨u, q⟩ := r.rot p hp; rw [hn] at q; cases q), r.tbe⟩
  · obtain ⟨u, q⟩ := r.rot a (List.mem_of_getElem? h2)
    exact (r.cell n c a h1 h2).mono mo (by rw [upd_ne (ne q)])
  · obtain ⟨u, q⟩ := r.fzt a h
    exact ⟨u, by rw [upd_ne (ne q)]; exact q⟩
  · obtain ⟨u, q⟩ := r.rot a h
    exact ⟨u, by rw [upd_ne (ne q)]; exact q⟩
  · have q := r.frm a u h1 h2
    rw [upd_ne (ne q)]
    exact q
theorem mono_laid {T : Tab} {e : En} {hp : List Cell} {p : Addr} {o : HO} (r : RelH T e g hp H) (hn : H p = none) : Mono g H g (upd H p o) := by
  have ne : ∀ {a u}, H a = some u → a ≠ p := fun h => ne_of_none h hn
  exact ⟨⟨List.prefix_refl _, fun _ h => h, fun a h => by obtain ⟨u, q⟩ := r.fzt a h; rw [upd_ne (ne q)], fun a vs h => by rw [upd_ne (ne h)]; exact h⟩, fun a o u h => by rw [upd_ne (ne h)]; exact h⟩
theorem Rel.laid {s : MS} {σ : L2.St} {p : Addr} {o : HO} (r : C.rel g s σ H) (hn : H p = none) (ho : NoTbl o := by first | exact Plain.tbl (by assumption) | assumption | exact fun _ z => by cases z | exact fun _ z => by unfold XO at z; cases z) : C.rel g s σ (upd H p o) :=
  r.env (mono_laid r.h hn) (r.h.laid hn ho)
/-- items to be walked -/
def Wk (C : MC) (g : Gh) (H : Hp) (items : List M) (J : It) : Prop := ∃ (G : Hp → Prop) (Y : Nat → Hp → V → Hp → Prop), Walk J items.length G Y ∧ (∀ g1 H1, Mono g H g1 H1 → G H1) ∧
  ∀ {e : En} i g1 H1 s σ x H2, i < items.length → Mono g H g1 H1 → Rel C.T e g1 s σ H1 → Y i H1 x H2 → ∃ m, items[i]? = some m ∧ Mono g1 H1 g1 H2 ∧ Rel C.T e g1 s σ H2 ∧ RV C.T g1 H2 m x ∧ Same H1 H2
/-- a walk's source -/
abbrev MI := MS → Res (List M)
def GoI (C : MC) (σ : L2.St) (r : Res (List M)) (g : Gh) (H : Hp) (R : It → Hp → Prop) : Prop := match r with
  | .ok items s1 => ∀ (g' : Gh) (H' : Hp) (J : It), Mono g H g' H' → C.rel g' s1 σ H' → Wk C g' H' items J → R J H'
  | .err x s1 => ∀ (g' : Gh) (H' : Hp) (cls : Value) (d : Option Addr), Mono g H g' H' → C.rel g' s1 σ H' → XR C.T g' H' x cls d → C.W cls d σ H'
  | .stuck => False
def rdI (C : MC) (m : MI) : TI := fun σ H R => ∃ g s, C.rel g s σ H ∧ GoI C σ (m s) g H R
theorem GoI.later {σ : L2.St} {r : Res (List M)} {R : It → Hp → Prop} (m : Mono g H g1 H1) (h : GoI C σ r g H R) : GoI C σ r g1 H1 R := by
  cases r with
  | ok a s => exact fun g' H' J q => h g' H' J (m.trans q)
  | err x s => exact fun g' H' cls d q => h g' H' cls d (m.trans q)
  | stuck => exact h
theorem Go.bindI {α β : Type} {Rl : Gh → Hp → α → β → Prop} {σ : L2.St} {r : Res α} {f : α → MS → Res (List M)} {R : It → Hp → Prop} (h : GoI C σ (r.bind f) g H R) :
    Go C Rl σ r g H fun x H1 => ∃ m s1 g1, Mono g H g1 H1 ∧ C.rel g1 s1 σ H1 ∧ Rl g1 H1 m x ∧ GoI C σ (f m s1) g1 H1 R := by
  cases r with
  | ok a s => exact fun g' H' v q r x => ⟨a, s, g', q, r, x, h.later q⟩
  | err x s => exact h
  | stuck => exact h
theorem rdA_bindI {t : MA} {f : List M → MS → Res (List M)} {σ : L2.St} {R : It → Hp → Prop} (h : rdI C (fun s => (t s).bind f) σ H R) :
    rdA C t σ H fun xs H1 => ∃ v s1 g1, C.rel g1 s1 σ H1 ∧ RVs C.T g1 H1 v xs ∧ GoI C σ (f v s1) g1 H1 R := by
  obtain ⟨g, s, r, q⟩ := h
  refine ⟨g, s, r, (Go.bindI (Rl := C.Vn) q).imp ?_⟩
  rintro x H1 ⟨m, s1, g1, mo, r1, rv, q1⟩
  exact ⟨m, s1, g1, r1, rv, q1⟩
theorem rdE_bindI {t : ME} {f : M → MS → Res (List M)} {σ : L2.St} {R : It → Hp → Prop} (h : rdI C (fun s => (t s).bind f) σ H R) :
    rdE C t σ H fun x H1 => ∃ v s1 g1, C.rel g1 s1 σ H1 ∧ RV C.T g1 H1 v x ∧ GoI C σ (f v s1) g1 H1 R := by
  obtain ⟨g, s, r, q⟩ := h
  refine ⟨g, s, r, (Go.bindI (Rl := C.V1) q).imp ?_⟩
  rintro x H1 ⟨m, s1, g1, mo, r1, rv, q1⟩
  exact ⟨m, s1, g1, r1, rv, q1⟩
abbrev PMi (C : MC) (tg it : Expr) (m : MI) : Prop := PI C.X tg it (rdI C m)
/-- a target -/
abbrev MG := M → MS → Res Unit
def rdG (C : MC) (m : MG) : TG := fun v σ H Q => ∃ g s w, C.rel g s σ H ∧ RV C.T g H w v ∧ match m w s with
  | .ok _ s1 => ∀ (g' : Gh) (H' : Hp) (σ' : L2.St), Mono g H g' H' → C.rel g' s1 σ' H' → Q σ' H'
  | .err x s1 => ∀ (g' : Gh) (H' : Hp) (cls : Value) (d : Option Addr), Mono g H g' H' → C.rel g' s1 σ H' → XR C.T g' H' x cls d → C.W cls d σ H'
  | .stuck => False
abbrev PMg (C : MC) (tg : Expr) (m : MG) : Prop := PG C.X tg (rdG C m)
def gSet (i : Nat) : MG := fun w s => .ok () ⟨s.env.set i (some w), s.hp⟩
theorem wkG {X : Cx} {tg : Expr} {t t' : TG} (h : PG X tg t) (k : ∀ v σ H Q, t' v σ H Q → t v σ H Q) : PG X tg t' := ⟨fun pins s σ H v u Q I r q => h.run pins s σ H v u Q I r (k _ _ _ _ q)⟩
theorem gm_name (i : Nat) {x : Str} {pos : Pos} (hN : C.X.N.Nodup) (hi : C.X.N[i]? = some x) (hx : Loc C.X.env.scope x) (hf : C.X.fn x = true ∨ C.X.env.scope.names.lookup x = some .local := by first | exact .inl rfl | exact .inr rfl | assumption) : PMg C (.Name x pos) (gSet i) :=
  wkG (pg_name hN hi hx hf) fun v σ H Q ⟨g, s, w, r, rv, q⟩ => q g H _ (Mono.refl _ _) (r.put rv)
def sFor (tg : MG) (b : MStm) : List M → MStm
  | [] => fun s => .ok .nx s
  | x :: xs => fun s => (tg x s).bind fun _ s1 => (b s1).bind fun f s2 => (match f with
      | .nx => sFor tg b xs s2
      | .ct => sFor tg b xs s2
      | .bk => .ok .nx s2
      | .rt v => .ok (.rt v) s2)
def sForI (it : MI) (tg : MG) (b : MStm) : MStm := fun s => (it s).bind fun xs s1 => sFor tg b xs s1
theorem drop_of {α : Type} {xs : List α} {i : Nat} {m : α} (h : xs[i]? = some m) : xs.drop i = m :: xs.drop (i + 1) := by
  obtain ⟨hi, e⟩ := List.getElem?_eq_some_iff.mp h
  rw [← e]
  exact List.drop_eq_getElem_cons hi
theorem sm_for {tg it : Expr} {body : List Stmt} {mi : MI} {mg : MG} {b : MStm} {pos : Pos} (hp : PassesOwn (model C.X.prog C.X.w) C.X.A C.X.env C.X.xe) (hc : C.X.calm = true) (hi : PMi C tg it mi) (hg : PMg C tg mg) (hb : PMb C body b)
    (hs : ∀ x, foldedSetIterable it C.X.env x = pure x := by intro _; rfl) : PMs C (.For tg it body [] pos) (sForI mi mg b) :=
  wkS (ps_for hp hc hi hg hb hs) fun D σ H h => by
    obtain ⟨g, s, r, q⟩ := h
    refine ⟨g, s, r, ?_⟩
    unfold sForI at q
    unfold GoI
    cases hm : mi s with
    | stuck => rw [hm] at q; exact q.elim
    | err x s1 => rw [hm] at q; exact fun g' H' cls d mo r1 xr => q g' H' σ cls d mo r1 xr
    | ok items s1 =>
      rw [hm] at q
      intro g0 H0 J mo0 r0 wk
      obtain ⟨G, Y, w, hG, hY⟩ := wk
      have q0 : GoS C (sFor mg b items s1) g0 H0 D := GoS.later mo0 q
      refine for_it w (fun i σ H => ∃ g s, Mono g0 H0 g H ∧ C.rel g s σ H ∧ GoS C (sFor mg b (items.drop i) s) g H D) ⟨g0, s1, Mono.refl _ _, r0, q0⟩ (fun i σ H _ ⟨g, s, mo, _, _⟩ => hG g H mo) ?_ ?_
      · rintro i x σ1 H1 H2 hi ⟨g1, s1, mo1, r1, q1⟩ y
        obtain ⟨m, hm, mo2, r2, rv, _⟩ := hY i g1 H1 s1 σ1 x H2 hi mo1 r1 y
        rw [drop_of hm] at q1
        have q1 := GoS.later mo2 q1
        refine ⟨g1, s1, m, r2, rv, ?_⟩
        unfold sFor at q1
        cases ht : mg m s1 with
        | stuck => rw [ht] at q1; exact q1.elim
        | err x s3 => rw [ht] at q1; exact fun g' H' cls d mo r1 xr => q1 g' H' σ1 cls d mo r1 xr
        | ok u s3 =>
          rw [ht] at q1
          intro g3 H3 σ3 mo3 r3
          have q3 := GoS.later mo3 q1
          have tn := turn_of (C := C) (b := b) (k := sFor mg b (items.drop (i + 1))) r3 q3
          obtain ⟨g4, s4, r4, q4⟩ := tn
          refine ⟨g4, s4, r4, ?_⟩
          have lift : ∀ σ' H', (∃ g' s', Mono g3 H3 g' H' ∧ C.rel g' s' σ' H' ∧ GoS C (sFor mg b (items.drop (i + 1)) s') g' H' D) → ∃ g s, Mono g0 H0 g H' ∧ C.rel g s σ' H' ∧ GoS C (sFor mg b (items.drop (i + 1)) s) g H' D :=
            fun σ' H' ⟨g', s', mo', r', q'⟩ => ⟨g', s', ((mo1.trans mo2).trans mo3).trans mo', r', q'⟩
          cases hb4 : b s4 with
          | stuck => rw [hb4] at q4; exact q4.elim
          | err x s5 => rw [hb4] at q4; exact q4
          | ok f s5 =>
            rw [hb4] at q4
            cases f with
            | nx => exact fun g' H' σ' mo r' => lift σ' H' (q4 g' H' σ' mo r')
            | ct => exact fun g' H' σ' mo r' => lift σ' H' (q4 g' H' σ' mo r')
            | bk => exact q4
            | rt v => exact q4
      · rintro σ1 H1 ⟨g1, s1, mo1, r1, q1⟩
        rw [List.drop_length] at q1
        exact q1.nx r1
end
end Ma
/-! Ma7: walks over lists, tuples, the script, ranges, enumerate, the keys of a dict; targets in parentheses. -/
namespace Ma
open L2 PySem
section
variable {C : MC} {g g1 : Gh} {H H1 : Hp} {tg ex : Expr} {a : ME} {pos p : Pos}
def itemsOf : M → Option (List M)
  | .lst ms => some ms
  | .tup ms => some ms
  | .scr ns => some (ns.map M.int)
  | .dct ks _ => some (ks.map fun | .inl i => M.int i | .inr x => M.str x)
  | _ => none
def iSeq (a : ME) : MI := fun s => (a s).bind fun m s1 => match itemsOf m with
  | some ms => .ok ms s1
  | none => .stuck
theorem wk_of {items : List M} {vs : List V} {J : It} {G : Hp → Prop} (w : Walk J items.length G (YAt vs)) (hG : ∀ g1 H1, Mono g H g1 H1 → G H1) (r : RVs C.T g H items vs) : Wk C g H items J := by
  refine ⟨G, YAt vs, w, hG, fun i g1 H1 s σ x H2 hlt mo rel y => ?_⟩
  obtain ⟨rfl, hx⟩ := y
  have hl : i < items.length := by rw [r.length]; exact (List.getElem?_eq_some_iff.mp hx).1
  obtain ⟨v, hv, rv⟩ := r.get (List.getElem?_eq_getElem hl)
  rw [hx] at hv
  cases hv
  exact ⟨_, List.getElem?_eq_getElem hl, Mono.refl _ _, rel, rv.mono mo, Same.refl _⟩
theorem rv_keys {T : Tab} : ∀ ks : List Key, RVs T g H (ks.map fun | .inl i => M.int i | .inr x => M.str x) (ks.map kV)
  | [] => .nil
  | .inl i :: ks => .cons (.int i) (rv_keys ks)
  | .inr x :: ks => .cons (.str x) (rv_keys ks)
theorem zip_get {ks : List Key} {vs : List V} (hl : ks.length = vs.length) {i : Nat} {k : Key} {v : V} (h : (ks.zip vs)[i]? = some (k, v)) : ks[i]? = some k := by
  rw [List.getElem?_zip_eq_some] at h
  exact h.1
theorem im_seq (ha : PMe C ex a) : PMi C tg ex (iSeq a) := by
  refine ⟨fun pins s σ H R I h => ?_⟩
  refine thn (ha.run pins s σ H _ I (rdE_bindI h)) fun u s1 ⟨x, H1, I1, rx, m, ms1, g1, r1, rv, q⟩ => ?_
  obtain ⟨items, hm, k⟩ : ∃ items, itemsOf m = some items ∧ ∀ (J : It), Wk C g1 H1 items J → R J H1 := by
    cases hm : itemsOf m with
    | none => rw [hm] at q; exact q.elim
    | some items => rw [hm] at q; exact ⟨items, rfl, fun J wk => q g1 H1 J (Mono.refl _ _) r1 wk⟩
  have fp1 : ∀ b ∈ [s1.heap.objs.size], FpOk C.X pins H1 b := fun b hb => by
    have e : b = s1.heap.objs.size := by simpa using hb
    subst e
    exact I1.fpOk (Nat.le_refl _) (I1.hok.fresh (Nat.le_refl _))
  cases rv with
  | @lst a _ vs f e rs =>
    cases hm
    cases rx
    have hq : SqL C.X.K H1 a vs := .inl (.inl e)
    obtain ⟨its, rv, pl, hz⟩ := I1.list hq
    refine wpAny_pyIter_list pl.isList ?_
    exact ⟨s1.heap.objs.size, [s1.heap.objs.size], _, _, H1, rfl, I1.kept (t' := s1.toks) fun b o e => Heap.get?_push_of_some _ e, turn_list a _, ⟨_, Heap.get?_push_size _ rfl, rfl, rfl⟩, fp1,
      k _ (wk_of (rs.length ▸ walk_list (K := C.X.K) (a := a) (xs := vs)) (fun g2 H2 mo2 => .inl (.inl ((mo2.fh _ f).trans e))) rs)⟩
  | @tup a _ vs e rs =>
    cases hm
    cases rx
    have hq : SqT C.X.K H1 a vs := .inl (.inl e)
    obtain ⟨its, rv, pl, hz⟩ := I1.tuple hq
    refine wpAny_pyIter_tuple (show s1.heap.IsTuple a its.toArray from pl) ?_
    exact ⟨s1.heap.objs.size, [s1.heap.objs.size], _, _, H1, rfl, I1.kept (t' := s1.toks) fun b o e => Heap.get?_push_of_some _ e, turn_tuple a _, ⟨_, Heap.get?_push_size _ rfl, rfl, rfl⟩, fp1,
      k _ (wk_of (rs.length ▸ walk_tup (K := C.X.K) (a := a) (xs := vs)) (fun g2 H2 mo2 => .inl (.inl (mo2.tup _ _ e))) rs)⟩
  | @scr a o ns f e =>
    cases hm
    cases rx
    have hq : SqL C.X.K H1 a (ns.map V.int) := .inl (.inr ⟨_, e⟩)
    obtain ⟨its, rv, pl, hz⟩ := I1.list hq
    refine wpAny_pyIter_list pl.isList ?_
    exact ⟨s1.heap.objs.size, [s1.heap.objs.size], _, _, H1, rfl, I1.kept (t' := s1.toks) fun b o e => Heap.get?_push_of_some _ e, turn_list a _, ⟨_, Heap.get?_push_size _ rfl, rfl, rfl⟩, fp1,
      k _ (wk_of ((RVs.ints (T := C.T) (g := g1) (H := H1) ns).length ▸ walk_list (K := C.X.K) (a := a) (xs := ns.map V.int)) (fun g2 H2 mo2 => .inl (.inr ⟨_, (mo2.fh _ f).trans e⟩)) (RVs.ints ns))⟩
  | @scrK a ns e =>
    cases hm
    cases rx
    have hq : ∀ H, SqL C.X.K H a (ns.map V.int) := fun H => by rw [C.hK]; exact e H
    obtain ⟨its, rv, pl, hz⟩ := I1.list (hq H1)
    refine wpAny_pyIter_list pl.isList ?_
    exact ⟨s1.heap.objs.size, [s1.heap.objs.size], _, _, H1, rfl, I1.kept (t' := s1.toks) fun b o e => Heap.get?_push_of_some _ e, turn_list a _, ⟨_, Heap.get?_push_size _ rfl, rfl, rfl⟩, fp1,
      k _ (wk_of ((RVs.ints (T := C.T) (g := g1) (H := H1) ns).length ▸ walk_list (K := C.X.K) (a := a) (xs := ns.map V.int)) (fun g2 H2 mo2 => hq H2) (RVs.ints ns))⟩
  | @dct a o ks ms vs f l e rs =>
    cases hm
    obtain rfl : u = Value.ref a := rx
    obtain ⟨hs, hgd, hx, es, ep, vs', hdt, hsz, kv, hm⟩ := I1.frzK e
    have hl : (ks.map fun | .inl i => M.int i | .inr x => M.str x : List M).length = (ks.zip vs).length := by simp [l]
    refine iter_keys hs hgd hx hdt (pi_one (tk := s1.toks) I1 _ (turn_keys (d := a) (kvs := ks.zip vs) _ hdt) ⟨_, Heap.get?_push_size _ rfl, rfl, ?_⟩ (k _ ?_))
    · rw [hsz] <;> rfl
    · refine wk_of (vs := ks.map kV) (G := fun H => H a = some (.frz o (.dK (ks.zip vs)))) ?_ (fun g2 H2 mo2 => (mo2.fh _ f).trans e) (rv_keys ks)
      rw [hl]
      refine walk_keys.mono (fun _ h => h) fun i H x H' hi hg ⟨e1, k, v, e2, e3⟩ => ⟨e1, ?_⟩
      rw [List.getElem?_map, zip_get l e2, e3]
      rfl
  | _ => cases hm
/-- range(n) -/
def upTo (lo : Int) (n : Nat) : List M := (List.range n).map fun i => M.int (lo + (i : Nat))
def iRange1 (a : MA) : MI := fun s => (a s).bind fun ms s1 => match ms with
  | [.int j] => if -(2 ^ 62) ≤ j ∧ j < 2 ^ 62 then .ok (upTo 0 j.toNat) s1 else .stuck
  | _ => .stuck
theorem upTo_get {lo : Int} {n i : Nat} (h : i < n) : (upTo lo n)[i]? = some (M.int (lo + (i : Nat))) := by
  unfold upTo
  rw [List.getElem?_map, List.getElem?_range h]
  rfl
theorem wk_range {lo : Int} {n : Nat} : Wk C g H (upTo lo n) (Itr lo n) := by
  have hl : (upTo lo n).length = n := by simp [upTo]
  refine ⟨fun _ => True, YFn fun i => .int (lo + i), by rw [hl]; exact walk_range, fun _ _ _ => trivial, fun i g1 H1 s σ x H2 hlt mo rel y => ?_⟩
  obtain ⟨rfl, rfl⟩ := y
  exact ⟨_, upTo_get (hl ▸ hlt), Mono.refl _ _, rel, .int _, Same.refl _⟩
theorem wkI {X : Cx} {tg e : Expr} {t t' : TI} (h : PI X tg e t) (k : ∀ σ H Q, t' σ H Q → t σ H Q) : PI X tg e t' := ⟨fun pins s σ H Q I q => h.run pins s σ H Q I (k _ _ _ q)⟩
theorem im_range1 {ma : MA} (ha : PMa C [ex] ma) (hm : C.X.mg "range" = none) (hg : Gl C.X "range" := by rfl) (hs : starEach [ex] C.X.env = [(false, eval ex C.X.env)] := by rfl) : PMi C tg (.Call (.Name "range" p) [ex] [] pos) (iRange1 ma) :=
  wkI (pi_range1 hg hm ha hs) fun σ H R h => by
    obtain ⟨g, s, r, q⟩ := rdA_bindI h
    refine ⟨g, s, r, q.imp ?_⟩
    rintro xs H1 ⟨vs, s1, g1, r1, rv, q2⟩
    cases rv with
    | nil => exact q2.elim
    | cons rv1 rv => cases rv with
      | cons _ _ => cases rv1 <;> exact q2.elim
      | nil => cases rv1 with
        | int j =>
          have q2 : GoI C σ (if -(2 ^ 62) ≤ j ∧ j < 2 ^ 62 then .ok (upTo 0 j.toNat) s1 else .stuck) g1 H1 R := q2
          by_cases hj : -(2 ^ 62) ≤ j ∧ j < 2 ^ 62
          · rw [if_pos hj] at q2
            exact ⟨j, rfl, hj.1, hj.2, q2 g1 H1 _ (Mono.refl _ _) r1 wk_range⟩
          · rw [if_neg hj] at q2
            exact q2.elim
        | _ => exact q2.elim
end
end Ma
/-! Ma8: operators: numbers, texts, lists, tuples; == over data. -/
namespace Ma
open L2 PySem
abbrev big : Nat := 16777216
theorem big_le {n : Nat} (h : n ≤ big) : n ≤ sizeLine := by rw [sizeLine_eq]; exact h
def lstOf (hp : List Cell) : M → Option (List M)
  | .lst ms => some ms
  | .box n => match hp[n]? with
    | some (.lst ms) => some ms
    | _ => none
  | _ => none
/-- a list that can be read as one -/
def seqL (hp : List Cell) : M → Option (List M)
  | .scr ns => some (ns.map M.int)
  | m => lstOf hp m
section
variable {C : MC} {g g1 : Gh} {H H1 : Hp} {s : MS} {σ : L2.St}
theorem Rel.cellAt (r : C.rel g s σ H) {n : Nat} {c : Cell} {x : V} (h : s.hp[n]? = some c) (rv : RV C.T g H (.box n) x) : ∃ a, x = .ref a ∧ g.ro[n]? = some a ∧ CellR C.T g H c a := by
  cases rv with
  | box e => exact ⟨_, rfl, e, r.h.cell n c _ h e⟩
theorem lstOf_at (r : C.rel g s σ H) {m : M} {ms : List M} {x : V} (h : lstOf s.hp m = some ms) (rv : RV C.T g H m x) : ∃ a vs, x = .ref a ∧ H a = some (.lst vs) ∧ RVs C.T g H ms vs := by
  cases rv with
  | lst f e rs => cases h; exact ⟨_, _, rfl, e, rs⟩
  | @box n a e =>
    unfold lstOf at h
    dsimp only at h
    cases hc : s.hp[n]? with
    | none => rw [hc] at h; cases h
    | some c =>
      rw [hc] at h
      cases c with
      | lst ms' =>
        cases h
        obtain ⟨vs, h1, h2⟩ := r.h.cell n _ a hc e
        exact ⟨a, vs, rfl, h1, h2⟩
      | _ => cases h
  | _ => cases h
theorem seqL_at (r : C.rel g s σ H) {m : M} {ms : List M} {x : V} (h : seqL s.hp m = some ms) (rv : RV C.T g H m x) : ∃ a vs, x = .ref a ∧ SqL C.X.K H a vs ∧ RVs C.T g H ms vs := by
  by_cases hs : ∃ ns, m = .scr ns
  · obtain ⟨ns, rfl⟩ := hs
    cases h
    cases rv with
    | scr f e => exact ⟨_, _, rfl, .inl (.inr ⟨_, e⟩), RVs.ints ns⟩
    | scrK e => exact ⟨_, _, rfl, by rw [C.hK]; exact e H, RVs.ints ns⟩
  · have h' : lstOf s.hp m = some ms := by
      cases m <;> first | exact h | exact absurd ⟨_, rfl⟩ hs
    obtain ⟨a, vs, e, h1, h2⟩ := lstOf_at r h' rv
    exact ⟨a, vs, e, .inl (.inl h1), h2⟩
/-- a new list, frozen -/
def Gh.add (g : Gh) (p : Addr) : Gh := ⟨g.ro, fun a => g.fz a ∨ a = p⟩
def Gh.box (g : Gh) (p : Addr) : Gh := ⟨g.ro ++ [p], g.fz⟩
theorem Rel.frz (r : C.rel g s σ H) {p : Addr} {o : HO} (hn : H p = none) (ho : NoTbl o := by first | exact Plain.tbl (by assumption) | assumption | exact fun _ z => by cases z | exact fun _ z => by unfold XO at z; cases z) : C.rel (g.add p) s σ (upd H p o) ∧ Mono g H (g.add p) (upd H p o) := by
  have hm := mono_laid (o := o) r.h hn
  have r1 := r.laid (o := o) hn ho
  have mo : Mono g (upd H p o) (g.add p) (upd H p o) := ⟨⟨List.prefix_refl _, fun _ h => .inl h, fun _ _ => rfl, fun _ _ h => h⟩, fun _ _ _ h => h⟩
  refine ⟨r1.env mo ⟨r1.h.len, r1.h.nd, fun n c a h1 h2 => (r1.h.cell n c a h1 h2).mono mo rfl, fun n c a h1 h2 lv f => ?_, fun a f => ?_, r1.h.rot, r1.h.frm, fun a f => ?_, r1.h.nro, r1.h.m0.trans mo, r1.h.tb.more (fun a f => f.imp id fun z => ⟨o, by rw [z]; exact upd_same, ho⟩), r1.h.tbe⟩, hm.trans mo⟩
  · rcases f with f | rfl
    · exact r1.h.thaw n c a h1 h2 lv f
    · obtain ⟨u, q⟩ := r.h.rot a (List.mem_of_getElem? h2)
      rw [hn] at q; cases q
  · rcases f with f | rfl
    · exact r1.h.fzt a f
    · exact ⟨_, upd_same⟩
  · rcases f with f | rfl
    · exact r1.h.nfz a f
    · right
      cases q : C.e.H a with
      | none => exact .inl rfl
      | some u =>
        by_cases hr : a ∈ C.e.g.ro
        · exact .inr hr
        · have := r.h.frm a u q hr
          rw [hn] at this; cases this
theorem Go.newL {ms : List M} {vs : List V} {Q : VK} {p : Addr} (h : Go C C.V1 σ (.ok (.lst ms) s) g H Q) (r : C.rel g s σ H) (rs : RVs C.T g H ms vs) (hn : H p = none) : Q (.ref p) (upd H p (.lst vs)) := by
  obtain ⟨r2, mo⟩ := r.frz (o := .lst vs) hn
  exact h (g.add p) _ _ mo r2 (.lst (.inr rfl) upd_same (rs.mono mo))
theorem Go.newT {ms : List M} {vs : List V} {Q : VK} {p : Addr} (h : Go C C.V1 σ (.ok (.tup ms) s) g H Q) (r : C.rel g s σ H) (rs : RVs C.T g H ms vs) (hn : H p = none) : Q (.ref p) (upd H p (.tup vs)) := by
  have mo := mono_laid (o := .tup vs) r.h hn
  exact h g _ _ mo (r.laid hn) (.tup upd_same (rs.mono mo))
theorem Go.same {m : M} {Q : VK} {x : V} (h : Go C C.V1 σ (.ok m s) g H Q) (r : C.rel g s σ H) (rv : RV C.T g H m x) : Q x H := h.ret r rv
def oAdd (x y : M) (s : MS) : Res M := match x, y with
  | .int i, .int j => .ok (.int (i + j)) s
  | .str a, .str b => if a.length + b.length ≤ big then .ok (.str (a ++ b)) s else .stuck
  | .tup a, .tup b => if a.length + b.length ≤ big then .ok (.tup (a ++ b)) s else .stuck
  | x, y => match lstOf s.hp x, lstOf s.hp y with
    | some a, some b => if a.length + b.length ≤ big then .ok (.lst (a ++ b)) s else .stuck
    | _, _ => .stuck
theorem OpR.alt {X : Cx} {f : Value → Value → Sem Value} {r r' : R2} (h : OpR X f r) (h' : OpR X f r') : OpR X f (fun x y H Q => r x y H Q ∨ r' x y H Q) := by
  intro pins s σ H x y v u Q I rx ry q
  rcases q with q | q
  · exact h pins s σ H x y v u Q I rx ry q
  · exact h' pins s σ H x y v u Q I rx ry q
theorem oAdd_lst {x y : M} {Q : VK} {vx vy : V} (h : Go C C.V1 σ (match lstOf s.hp x, lstOf s.hp y with
    | some a, some b => if a.length + b.length ≤ big then .ok (.lst (a ++ b)) s else .stuck
    | _, _ => .stuck) g H Q) (r : C.rel g s σ H) (r1 : RV C.T g H x vx) (r2 : RV C.T g H y vy) : rCat vx vy H Q := by
  cases hx : lstOf s.hp x with
  | none => rw [hx] at h; exact h.elim
  | some a =>
    cases hy : lstOf s.hp y with
    | none => rw [hx, hy] at h; exact h.elim
    | some b =>
      rw [hx, hy] at h
      dsimp only at h
      by_cases hb : a.length + b.length ≤ big
      · rw [if_pos hb] at h
        obtain ⟨l, vs, rfl, e1, q1⟩ := lstOf_at r hx r1
        obtain ⟨l2, ws, rfl, e2, q2⟩ := lstOf_at r hy r2
        exact ⟨l, l2, vs, ws, rfl, rfl, e1, e2, by rw [← q1.length, ← q2.length]; exact big_le hb, fun p hp => h.newL r (q1.app q2) hp⟩
      · rw [if_neg hb] at h; exact h.elim
theorem ok_add : Op2Ok C (binaryOp .Add) oAdd := by
  refine Op2Ok.of (OpR.alt op_add (OpR.alt op_add_str (OpR.alt op_catA op_cat))) fun σ H g s m1 m2 x y Q r r1 r2 h => ?_
  unfold oAdd at h
  split at h
  · cases r1; cases r2
    exact .inl ⟨_, _, rfl, rfl, h.same r (.int _)⟩
  · rename_i a b
    cases r1; cases r2
    by_cases hb : a.length + b.length ≤ big
    · rw [if_pos hb] at h
      exact .inr (.inl ⟨_, _, rfl, rfl, big_le hb, h.same r (.str _)⟩)
    · rw [if_neg hb] at h; exact h.elim
  · rename_i a b
    by_cases hb : a.length + b.length ≤ big
    · rw [if_pos hb] at h
      cases r1 with
      | @tup pa _ vs e1 q1 => cases r2 with
        | @tup pb _ ws e2 q2 =>
          refine .inr (.inr (.inl ⟨pa, pb, vs, ws, rfl, rfl, .inl (.inl e1), .inl (.inl e2), by rw [← q1.length, ← q2.length]; exact big_le hb, fun z => ?_, fun _ z => ?_, fun _ _ p hp => h.newT r (q1.app q2) hp⟩))
          · subst z; cases q1
            exact h.same r (.tup e2 q2)
          · subst z; cases q2
            rw [List.append_nil] at h
            exact h.same r (.tup e1 q1)
    · rw [if_neg hb] at h; exact h.elim
  · exact .inr (.inr (.inr (oAdd_lst h r r1 r2)))
/-- int, int -/
def oInt (ok : Int → Int → Bool) (f : Int → Int → M) (x y : M) (s : MS) : Res M := match x, y with
  | .int i, .int j => if ok i j = true then .ok (f i j) s else .stuck
  | _, _ => .stuck
theorem oInt_at {ok : Int → Int → Bool} {f : Int → Int → M} {m1 m2 : M} {x y : V} {Q : VK} (h : Go C C.V1 σ (oInt ok f m1 m2 s) g H Q) (r1 : RV C.T g H m1 x) (r2 : RV C.T g H m2 y) :
    ∃ i j, x = .int i ∧ y = .int j ∧ ok i j = true ∧ Go C C.V1 σ (.ok (f i j) s) g H Q := by
  unfold oInt at h
  split at h
  · rename_i i j
    cases r1; cases r2
    by_cases hk : ok i j = true
    · rw [if_pos hk] at h; exact ⟨i, j, rfl, rfl, hk, h⟩
    · rw [if_neg hk] at h; exact h.elim
  · exact h.elim
abbrev yes : Int → Int → Bool := fun _ _ => true
def oSub := oInt yes fun i j => .int (i - j)
theorem ok_sub : Op2Ok C (binaryOp .Sub) oSub := Op2Ok.of op_sub fun σ H g s m1 m2 x y Q r r1 r2 h => by
  obtain ⟨i, j, rfl, rfl, _, q⟩ := oInt_at h r1 r2
  exact ⟨i, j, rfl, rfl, q.same r (.int _)⟩
def mulOk (i j : Int) : Bool := decide ((-(2 ^ 64) < i ∧ i < 2 ^ 64) ∨ (-(2 ^ 64) < j ∧ j < 2 ^ 64))
def repL (k : Int) (ms : List M) : List M := (List.replicate k.toNat ms).flatten
def oMul (x y : M) (s : MS) : Res M := oInt mulOk (fun i j => .int (i * j)) x y s
theorem ok_mul : Op2Ok C (binaryOp .Mult) oMul := Op2Ok.of op_mul fun σ H g s m1 m2 x y Q r r1 r2 h => by
  obtain ⟨i, j, rfl, rfl, k, q⟩ := oInt_at h r1 r2
  exact ⟨i, j, rfl, rfl, (by simpa [mulOk, CMul, CDiv, CPow] using k), q.same r (.int _)⟩
def oMod := oInt (fun _ j => decide (0 < j)) fun i j => .int (i % j)
theorem ok_mod : Op2Ok C (binaryOp .Mod) oMod := Op2Ok.of op_mod fun σ H g s m1 m2 x y Q r r1 r2 h => by
  obtain ⟨i, j, rfl, rfl, k, q⟩ := oInt_at h r1 r2
  exact ⟨i, j, rfl, rfl, (by simpa [mulOk, CMul, CDiv, CPow] using k), q.same r (.int _)⟩
def oPow := oInt (fun i j => decide (0 ≤ j ∧ j ≤ 1000000 ∧ i.natAbs < 2 ^ 64)) fun i j => .int (i ^ j.toNat)
theorem ok_pow : Op2Ok C (binaryOp .Pow) oPow := Op2Ok.of op_pow fun σ H g s m1 m2 x y Q r r1 r2 h => by
  obtain ⟨i, j, rfl, rfl, k, q⟩ := oInt_at h r1 r2
  exact ⟨i, j, rfl, rfl, (by simpa [mulOk, CMul, CDiv, CPow] using k), q.same r (.int _)⟩
def oLt := oInt yes fun i j => .bl (decide (i < j))
theorem ok_lt : Op2Ok C (compareOp .Lt) oLt := Op2Ok.of op_lt fun σ H g s m1 m2 x y Q r r1 r2 h => by
  obtain ⟨i, j, rfl, rfl, k, q⟩ := oInt_at h r1 r2
  exact ⟨i, j, rfl, rfl, q.same r (.bl _)⟩
def oGt := oInt yes fun i j => .bl (decide (j < i))
theorem ok_gt : Op2Ok C (compareOp .Gt) oGt := Op2Ok.of op_gt fun σ H g s m1 m2 x y Q r r1 r2 h => by
  obtain ⟨i, j, rfl, rfl, k, q⟩ := oInt_at h r1 r2
  exact ⟨i, j, rfl, rfl, q.same r (.bl _)⟩
/-! ### data -/
mutual
def dat : M → Option PyData
  | .non => some .none
  | .bl b => some (.bool b)
  | .int i => some (.int i)
  | .str x => some (.str x)
  | .tup ms => (datL ms).map .tuple
  | .lst ms => (datL ms).map .list
  | .scr ns => some (.list (ns.map .int))
  | _ => none
def datL : List M → Option (List PyData)
  | [] => some []
  | m :: ms => match dat m, datL ms with
    | some d, some ds => some (d :: ds)
    | _, _ => none
end
theorem dp_ints {K : PySem.W.Frag} : ∀ ns : List Int, DpAll K H (ns.map V.int) (ns.map PyData.int)
  | [] => .nil
  | n :: ns => .cons (.int n) (dp_ints ns)
mutual
theorem dat_dp {T : Tab} : ∀ {m : M} {x : V} {d : PyData}, RV T g H m x → dat m = some d → Dp T.K H x d
  | _, _, _, .non, h => by cases h; exact .non
  | _, _, _, .bl b, h => by cases h; exact .bl b
  | _, _, _, .int i, h => by cases h; exact .int i
  | _, _, _, .str z, h => by cases h; exact .str z
  | _, _, _, .byt b, h => by cases h
  | _, _, _, @RV.tup _ _ _ a ms vs e rs, h => by
    unfold dat at h
    cases hd : datL ms with
    | none => rw [hd] at h; cases h
    | some ds => rw [hd] at h; cases h; exact .tup (.inl (.inl e)) (datL_dp rs hd)
  | _, _, _, @RV.lst _ _ _ a ms vs f e rs, h => by
    unfold dat at h
    cases hd : datL ms with
    | none => rw [hd] at h; cases h
    | some ds => rw [hd] at h; cases h; exact .lst (.inl (.inl e)) (datL_dp rs hd)
  | _, _, _, .dct _ _ _ _, h => by cases h
  | _, _, _, @RV.scr _ _ _ a o ns f e, h => by cases h; exact .lst (.inl (.inr ⟨_, e⟩)) (dp_ints ns)
  | _, _, _, @RV.scrK _ _ _ a ns e, h => by cases h; exact .lst (e H) (dp_ints ns)
  | _, _, _, .box _, h => by cases h
  | _, _, _, .exn _ _ _, h => by cases h
  | _, _, _, .cls _, h => by cases h
  | _, _, _, .ty _, h => by cases h
theorem datL_dp {T : Tab} : ∀ {ms : List M} {xs : List V} {ds : List PyData}, RVs T g H ms xs → datL ms = some ds → DpAll T.K H xs ds
  | _, _, _, .nil, h => by cases h; exact .nil
  | _, _, _, @RVs.cons _ _ _ m v ms vs r rs, h => by
    unfold datL at h
    cases hd : dat m with
    | none => rw [hd] at h; cases h
    | some d =>
      cases hds : datL ms with
      | none => rw [hd, hds] at h; cases h
      | some ds => rw [hd, hds] at h; cases h; exact .cons (dat_dp r hd) (datL_dp rs hds)
end
/-- data, a list in a box too -/
def datT (hp : List Cell) (m : M) : Option PyData := match m with
  | .box _ => match lstOf hp m with
    | some ms => (datL ms).map .list
    | none => none
  | m => dat m
theorem datT_dp (r : C.rel g s σ H) {m : M} {x : V} {d : PyData} (rv : RV C.T g H m x) (h : datT s.hp m = some d) : Dp C.X.K H x d := by
  rw [C.hK]
  cases m with
  | box n =>
    unfold datT at h
    dsimp only at h
    cases hl : lstOf s.hp (.box n) with
    | none => rw [hl] at h; cases h
    | some ms =>
      rw [hl] at h
      dsimp only at h
      obtain ⟨a, vs, rfl, e, rs⟩ := lstOf_at r hl rv
      cases hd : datL ms with
      | none => rw [hd] at h; cases h
      | some ds => rw [hd] at h; cases h; exact .lst (.inl (.inl e)) (datL_dp rs hd)
  | _ => exact dat_dp rv h
def oEqD (neg : Bool) (x y : M) (s : MS) : Res M := match datT s.hp x, datT s.hp y with
  | some d, some e => if (SeqAt.shaped d && SeqAt.shaped e) = true then .ok (.bl (if neg then !PyData.eqv d e else PyData.eqv d e)) s else .stuck
  | _, _ => .stuck
theorem oEqD_at {neg : Bool} {m1 m2 : M} {x y : V} {Q : VK} (h : Go C C.V1 σ (oEqD neg m1 m2 s) g H Q) (r : C.rel g s σ H) (r1 : RV C.T g H m1 x) (r2 : RV C.T g H m2 y) :
    ∃ d e, Dp C.X.K H x d ∧ Dp C.X.K H y e ∧ SeqAt.shaped d = true ∧ SeqAt.shaped e = true ∧ Q (.bl (if neg then !PyData.eqv d e else PyData.eqv d e)) H := by
  unfold oEqD at h
  split at h
  · rename_i d e h1 h2
    by_cases hs : (SeqAt.shaped d && SeqAt.shaped e) = true
    · rw [if_pos hs] at h
      obtain ⟨s1, s2⟩ := Bool.and_eq_true_iff.mp hs
      exact ⟨d, e, datT_dp r r1 h1, datT_dp r r2 h2, s1, s2, h.same r (.bl _)⟩
    · rw [if_neg hs] at h; exact h.elim
  · exact h.elim
theorem ok_eqD (hu : C.X.A.units + 64 < cLine) : Op2Ok C (compareOp .Eq) (oEqD false) := Op2Ok.of (op_eqD hu) fun σ H g s m1 m2 x y Q r r1 r2 h => oEqD_at h r r1 r2
theorem ok_neD (hu : C.X.A.units + 64 < cLine) : Op2Ok C (compareOp .NotEq) (oEqD true) := Op2Ok.of (op_neD hu) fun σ H g s m1 m2 x y Q r r1 r2 h => oEqD_at h r r1 r2
end
end Ma
/-! Ma9: displays, subscripts, slices, built-in functions, methods of lists, stores. -/
namespace Ma
open L2 PySem
section
variable {C : MC} {g g1 : Gh} {H H1 : Hp} {s : MS} {σ : L2.St} {ex : Expr} {es : List Expr} {a b : ME} {ma : MA} {pos p p2 : Pos} {x : Str}
theorem rdA_bind {γ δ : Type} {S : Gh → Hp → γ → δ → Prop} {σ : L2.St} {H : Hp} {f : List M → MS → Res γ} {Q : δ → Hp → Prop} (h : ∃ g s, C.rel g s σ H ∧ Go C S σ ((ma s).bind f) g H Q) :
    rdA C ma σ H fun xs H1 => ∃ m s1 g1, C.rel g1 s1 σ H1 ∧ RVs C.T g1 H1 m xs ∧ Go C S σ (f m s1) g1 H1 Q := by
  obtain ⟨g, s, r, q⟩ := h
  refine ⟨g, s, r, (Go.bind (R := C.Vn) q).imp ?_⟩
  rintro x H1 ⟨m, s1, g1, mo, r1, rv, q1⟩
  exact ⟨m, s1, g1, r1, rv, q1⟩
/-! ### displays -/
def mLst (a : MA) : ME := fun s => (a s).bind fun ms s1 => if ms.length ≤ big then .ok (.lst ms) s1 else .stuck
def mTup (a : MA) : ME := fun s => (a s).bind fun ms s1 => if ms.length ≤ big then .ok (.tup ms) s1 else .stuck
theorem em_lst (h : PMa C es ma) : PMe C (.List es pos) (mLst ma) := wkE (pe_lst h) fun σ H Q q => by
  obtain ⟨g, s, r, q⟩ := rdA_bind q
  refine ⟨g, s, r, q.imp ?_⟩
  rintro xs H1 ⟨ms, s1, g1, r1, rs, q1⟩
  by_cases hb : ms.length ≤ big
  · rw [if_pos hb] at q1
    exact ⟨by rw [← rs.length]; exact big_le hb, fun p hp => q1.newL r1 rs hp⟩
  · rw [if_neg hb] at q1; exact q1.elim
theorem em_tup {x1} (h : PMa C es ma) : PMe C (.Tuple es x1 pos) (mTup ma) := wkE (pe_tup h) fun σ H Q q => by
  obtain ⟨g, s, r, q⟩ := rdA_bind q
  refine ⟨g, s, r, q.imp ?_⟩
  rintro xs H1 ⟨ms, s1, g1, r1, rs, q1⟩
  by_cases hb : ms.length ≤ big
  · rw [if_pos hb] at q1
    exact ⟨by rw [← rs.length]; exact big_le hb, fun p hp => q1.newT r1 rs hp⟩
  · rw [if_neg hb] at q1; exact q1.elim
/-- a new box -/
theorem Rel.box (r : C.rel g s σ H) {p : Addr} {o : HO} {c : Cell} (hn : H p = none) (hc : ∀ g', Mono g H g' (upd H p o) → CellR C.T g' (upd H p o) c p) (ho : Plain o := by exact ⟨⟨fun _ _ z => (by unfold LamX.CodeO at z; cases z), fun _ z => (by cases z)⟩, fun _ z => (by cases z)⟩) : C.rel (g.box p) ⟨s.env, s.hp ++ [c]⟩ σ (upd H p o) ∧ Mono g H (g.box p) (upd H p o) := by
  have hm := mono_laid (o := o) r.h hn
  have r1 := r.laid (o := o) hn ho.tbl
  have mo : Mono g (upd H p o) (g.box p) (upd H p o) := ⟨⟨List.prefix_append _ _, fun _ h => h, fun _ _ => rfl, fun _ _ h => h⟩, fun _ _ _ h => h⟩
  have pn : p ∉ g.ro := fun hp => by obtain ⟨u, q⟩ := r.h.rot p hp; rw [hn] at q; cases q
  refine ⟨r1.env mo ⟨by simp [Gh.box, r.h.len], ?_, fun n c' a h1 h2 => ?_, fun n c' a h1 h2 lv f => ?_, r1.h.fzt, fun a h => ?_, r1.h.frm, r1.h.nfz, fun a h => ?_, r1.h.m0.trans mo, r1.h.tb.box (fun u z => by rw [upd_same] at z; cases z; exact ho), r1.h.tbe⟩, hm.trans mo⟩
  · show (g.ro ++ [p]).Nodup
    rw [List.nodup_append]
    refine ⟨r.h.nd, by simp, fun x hx y hy => ?_⟩
    simp at hy
    subst hy
    rintro rfl
    exact pn hx
  · have h2 : (g.ro ++ [p])[n]? = some a := h2
    by_cases hl : n < s.hp.length
    · rw [List.getElem?_append_left hl] at h1
      rw [List.getElem?_append_left (by rw [r.h.len]; exact hl)] at h2
      exact (r1.h.cell n c' a h1 h2).mono mo rfl
    · rw [List.getElem?_append_right (Nat.le_of_not_lt hl)] at h1
      rw [List.getElem?_append_right (by rw [r.h.len]; exact Nat.le_of_not_lt hl), r.h.len] at h2
      cases hk : n - s.hp.length with
      | zero => rw [hk] at h1 h2; cases h1; cases h2; exact hc _ (hm.trans mo)
      | succ k => rw [hk] at h1; cases h1
  · have h2 : (g.ro ++ [p])[n]? = some a := h2
    by_cases hl : n < s.hp.length
    · rw [List.getElem?_append_left hl] at h1
      rw [List.getElem?_append_left (by rw [r.h.len]; exact hl)] at h2
      exact r.h.thaw n c' a h1 h2 lv f
    · rw [List.getElem?_append_right (by rw [r.h.len]; exact Nat.le_of_not_lt hl), r.h.len] at h2
      cases hk : n - s.hp.length with
      | zero =>
        rw [hk] at h2
        cases h2
        obtain ⟨u, q⟩ := r.h.fzt p f
        rw [hn] at q; cases q
      | succ k => rw [hk] at h2; cases h2
  · have h : a ∈ g.ro ++ [p] := h
    rcases List.mem_append.mp h with h | h
    · exact r1.h.rot a h
    · simp at h; subst h; exact ⟨_, upd_same⟩
  · have h : a ∈ g.ro ++ [p] := h
    rcases List.mem_append.mp h with h | h
    · exact r.h.nro a h
    · simp at h
      subst h
      cases q : C.e.H a with
      | none => exact .inr rfl
      | some u =>
        by_cases hr : a ∈ C.e.g.ro
        · exact .inl hr
        · have := r.h.frm a u q hr
          rw [hn] at this; cases this
theorem Rel.boxL (r : C.rel g s σ H) {ms : List M} {vs : List V} {Q : VK} {p : Addr} (h : Go C C.V1 σ (.ok (.box s.hp.length) ⟨s.env, s.hp ++ [.lst ms]⟩) g H Q) (rs : RVs C.T g H ms vs) (hn : H p = none) : Q (.ref p) (upd H p (.lst vs)) := by
  obtain ⟨r2, mo⟩ := r.box (o := .lst vs) (c := .lst ms) hn fun g' mo => ⟨vs, upd_same, rs.mono mo⟩
  exact h (g.box p) _ _ mo r2 (.box (by show (g.ro ++ [p])[s.hp.length]? = some p; rw [← r.h.len, List.getElem?_concat_length]))
def mLstB (a : MA) : ME := fun s => (a s).bind fun ms s1 => if ms.length ≤ big then .ok (.box s1.hp.length) ⟨s1.env, s1.hp ++ [.lst ms]⟩ else .stuck
theorem em_lstB (h : PMa C es ma) : PMe C (.List es pos) (mLstB ma) := wkE (pe_lst h) fun σ H Q q => by
  obtain ⟨g, s, r, q⟩ := rdA_bind q
  refine ⟨g, s, r, q.imp ?_⟩
  rintro xs H1 ⟨ms, s1, g1, r1, rs, q1⟩
  by_cases hb : ms.length ≤ big
  · rw [if_pos hb] at q1
    exact ⟨by rw [← rs.length]; exact big_le hb, fun p hp => Rel.boxL r1 q1 rs hp⟩
  · rw [if_neg hb] at q1; exact q1.elim
/-! ### subscripts, slices -/
def oIx (x y : M) (s : MS) : Res M := match y with
  | .int i => match x with
    | .tup ms => match atI ms i with
      | some m => .ok m s
      | none => .stuck
    | .str z => match atI z.cps.toList i with
      | some c => if z.length ≤ big then .ok (.str ⟨#[c]⟩) s else .stuck
      | none => .stuck
    | x => match seqL s.hp x with
      | some ms => match atI ms i with
        | some m => .ok m s
        | none => .stuck
      | none => .stuck
  | _ => .stuck
theorem atI_rv {ms : List M} {vs : List V} {i : Int} {m : M} {T : Tab} (rs : RVs T g H ms vs) (h : atI ms i = some m) : ∃ v, atI vs i = some v ∧ RV T g H m v := by
  unfold atI at h ⊢
  rw [← rs.length]
  cases hj : ixN ms.length i with
  | none => rw [hj] at h; cases h
  | some j => rw [hj] at h; exact rs.get h
theorem oIx_at {m1 m2 : M} {x y : V} {Q : VK} (h : Go C C.V1 σ (oIx m1 m2 s) g H Q) (r : C.rel g s σ H) (r1 : RV C.T g H m1 x) (r2 : RV C.T g H m2 y) : rIx C.X.K x y H Q := by
  unfold oIx at h
  split at h
  · rename_i i
    cases r2
    split at h
    · rename_i ms
      split at h
      · rename_i m hm
        cases r1 with
        | tup e rs =>
          obtain ⟨v, hv, rv⟩ := atI_rv rs hm
          exact .inr (.inl ⟨_, _, i, v, rfl, rfl, .inl (.inl e), hv, h.same r rv⟩)
      · exact h.elim
    · rename_i z
      split at h
      · rename_i c hc
        by_cases hb : z.length ≤ big
        · rw [if_pos hb] at h
          cases r1
          exact .inr (.inr ⟨z, i, c, rfl, rfl, big_le hb, hc, h.same r (.str _)⟩)
        · rw [if_neg hb] at h; exact h.elim
      · exact h.elim
    · split at h
      · rename_i ms hms
        split at h
        · rename_i m hm
          obtain ⟨q, vs, rfl, hq, rs⟩ := seqL_at r hms r1
          obtain ⟨v, hv, rv⟩ := atI_rv rs hm
          exact .inl ⟨q, vs, i, v, rfl, rfl, hq, hv, h.same r rv⟩
        · exact h.elim
      · exact h.elim
  · exact h.elim
/-- a part of a slice -/
abbrev MO := MS → Res (Option Int)
def rdO (C : MC) (m : MO) : TO := fun σ H Q => ∃ g s, C.rel g s σ H ∧ Go C REq σ (m s) g H Q
def oNo : MO := fun s => .ok none s
def oSome (a : ME) : MO := fun s => (a s).bind fun m s1 => match m with
  | .int i => .ok (some i) s1
  | _ => .stuck
abbrev PMo (C : MC) (e : Option Expr) (m : MO) : Prop := PO C.X e (rdO C m)
theorem wkO {X : Cx} {e : Option Expr} {t t' : TO} (h : PO X e t) (k : ∀ σ H Q, t' σ H Q → t σ H Q) : PO X e t' := ⟨fun pins s σ H Q I q => h.run pins s σ H Q I (k _ _ _ q)⟩
theorem om_none : PMo C none oNo := wkO po_none fun σ H Q ⟨g, s, r, q⟩ => q.ret r rfl
theorem om_some (h : PMe C ex a) : PMo C (some ex) (oSome a) := wkO (po_some h) fun σ H Q q => by
  obtain ⟨g, s, r, q⟩ := rdE_bind q
  refine ⟨g, s, r, q.imp ?_⟩
  rintro x H1 ⟨m, s1, g1, r1, rv, q1⟩
  cases rv with
  | int i => exact ⟨i, rfl, q1.ret r1 rfl⟩
  | _ => exact q1.elim
def cutM (xs : List M) (lo hi : Option Int) : List M := (xs.drop (HT.sIx xs.length 0 lo)).take (HT.sIx xs.length xs.length hi - HT.sIx xs.length 0 lo)
def mSl (a : ME) (l u : MO) : ME := fun s => (a s).bind fun x s1 => (l s1).bind fun lo s2 => (u s2).bind fun hi s3 => match x with
  | .tup ms => .ok (.tup (cutM ms lo hi)) s3
  | x => match seqL s3.hp x with
    | some ms => .ok (.lst (cutM ms lo hi)) s3
    | none => .stuck
theorem cut_rv {ms : List M} {vs : List V} {T : Tab} (lo hi : Option Int) (rs : RVs T g H ms vs) : RVs T g H (cutM ms lo hi) (cutV vs lo hi) := by
  unfold cutM cutV
  rw [← rs.length]
  exact (rs.drop _).take _
theorem cut_all {ms : List M} {lo hi : Option Int} (h : HT.sIx ms.length 0 lo = 0 ∧ HT.sIx ms.length ms.length hi = ms.length) : cutM ms lo hi = ms := by
  unfold cutM
  rw [h.1, h.2]
  simp
theorem em_sl {el eu : Option Expr} {l u : MO} (ha : PMe C ex a) (hl : PMo C el l) (hu : PMo C eu u) : PMe C (.Subscript ex (.Slice el eu none p2) pos) (mSl a l u) :=
  wkE (pe_slice (sl_list.or sl_tupA) ha hl hu) fun σ H Q h => by
    obtain ⟨g, s, r, q⟩ := rdE_bind h
    refine ⟨g, s, r, q.imp ?_⟩
    rintro x H1 ⟨m, s1, g1, r1, rv, q1⟩
    refine ⟨g1, s1, r1, (Go.bind (R := REq) q1).imp ?_⟩
    rintro lo H2 ⟨lo', s2, g2, mo2, r2, e2, q2⟩
    refine ⟨g2, s2, r2, (Go.bind (R := REq) q2).imp ?_⟩
    rintro hi H3 ⟨hi', s3, g3, mo3, r3, e3, q3⟩
    cases e2; cases e3
    have rv := rv.mono (mo2.trans mo3)
    split at q3
    · rename_i ms
      cases rv with
      | @tup pa _ vs e rs =>
        refine .inr ⟨pa, vs, rfl, .inl (.inl e), fun hw => ?_, fun _ p hp => q3.newT r3 (cut_rv lo hi rs) hp⟩
        rw [← rs.length] at hw
        rw [cut_all hw] at q3
        exact q3.same r3 (.tup e rs)
    · split at q3
      · rename_i ms hms
        obtain ⟨q, vs, rfl, hq, rs⟩ := seqL_at r3 hms rv
        exact .inl ⟨q, vs, rfl, hq, fun p hp => q3.newL r3 (cut_rv lo hi rs) hp⟩
      · exact q3.elim
/-! ### built-in functions -/
abbrev RC := List V → Hp → VK → Prop
def CallOk (C : MC) (r : RC) (o : List M → MS → Res M) : Prop :=
  ∀ (σ : L2.St) (H : Hp) (g : Gh) (s : MS) (ms : List M) (xs : List V) (Q : VK), C.rel g s σ H → RVs C.T g H ms xs → Go C C.V1 σ (o ms s) g H Q → r xs H Q
theorem CallR.alt {X : Cx} {f : Value} {r r' : RC} (h : CallR X f r) (h' : CallR X f r') : CallR X f (fun xs H Q => r xs H Q ∨ r' xs H Q) := by
  intro pins s σ H xs us Q I rx q
  rcases q with q | q
  · exact h pins s σ H xs us Q I rx q
  · exact h' pins s σ H xs us Q I rx q
def mCall (a : MA) (o : List M → MS → Res M) : ME := fun s => (a s).bind o
theorem tCB_of {r : RC} {o : List M → MS → Res M} {t : TA} (ho : CallOk C r o) (ht : ∀ σ H Q, rdA C ma σ H Q → t σ H Q) {Q : VK} (h : rdE C (mCall ma o) σ H Q) : tCB r t σ H Q := by
  obtain ⟨g, s, r, q⟩ := rdA_bind h
  refine ht _ _ _ ⟨g, s, r, q.imp ?_⟩
  rintro xs H1 ⟨ms, s1, g1, r1, rs, q1⟩
  exact ho σ H1 g1 s1 ms xs Q r1 rs q1
theorem em_callB {id : String} {r : RC} {o : List M → MS → Res M} (hc : CallR C.X (.builtin id) r) (ho : CallOk C r o) (hm : C.X.mg x = none) (ha : PMa C (ex :: es) ma) (hv : bootBuiltins x = some (.builtin id) := by first | rfl | decide +kernel) (hg : Gl C.X x := by rfl) (hn : x ≠ "__name__" := by decide)
    (hdb : (x == ("__debug__" : Str)) = false := by decide) (he : starEach (ex :: es) C.X.env = (false, eval ex C.X.env) :: starEach es C.X.env := by rfl) (hpl : (backTo pos (starEach es C.X.env)).any (·.1) = false := by rfl) :
    PMe C (.Call (.Name x p) (ex :: es) [] pos) (mCall ma o) := wkE (pe_callB hc hg hm hv ha hn hdb he hpl) fun σ H Q h => tCB_of ho (fun _ _ _ z => z) h
theorem em_callT {T : String} {r : RC} {o : List M → MS → Res M} (hc : CallR C.X (.type T) r) (ho : CallOk C r o) (hm : C.X.mg x = none) (ha : PMa C (ex :: es) ma) (hv : bootBuiltins x = some (.type T) := by first | rfl | decide +kernel) (hg : Gl C.X x := by rfl) (hn : x ≠ "__name__" := by decide)
    (hdb : (x == ("__debug__" : Str)) = false := by decide) (he : starEach (ex :: es) C.X.env = (false, eval ex C.X.env) :: starEach es C.X.env := by rfl) (hpl : (backTo pos (starEach es C.X.env)).any (·.1) = false := by rfl) :
    PMe C (.Call (.Name x p) (ex :: es) [] pos) (mCall ma o) := wkE (pe_callTy hc hg hm hv ha hn hdb he hpl) fun σ H Q h => tCB_of ho (fun _ _ _ z => z) h
def cLen (ms : List M) (s : MS) : Res M := match ms with
  | [.str z] => if z.length ≤ big then .ok (.int z.length) s else .stuck
  | [.tup xs] => .ok (.int xs.length) s
  | [x] => match seqL s.hp x with
    | some xs => .ok (.int xs.length) s
    | none => .stuck
  | _ => .stuck
theorem ok_len : CallOk C (fun xs H Q => ∃ x n, xs = [x] ∧ LenV C.X.K x H n ∧ Q (.int n) H) cLen := fun σ H g s ms xs Q r rs h => by
  unfold cLen at h
  split at h
  · rename_i z
    cases rs with
    | cons r1 r2 =>
      cases r2; cases r1
      by_cases hb : z.length ≤ big
      · rw [if_pos hb] at h
        exact ⟨_, z.length, rfl, ⟨big_le hb, rfl⟩, h.same r (.int _)⟩
      · rw [if_neg hb] at h; exact h.elim
  · rename_i ys
    cases rs with
    | cons r1 r2 =>
      cases r2
      cases r1 with
      | tup e rs => exact ⟨_, ys.length, rfl, .inr ⟨_, .inl (.inl e), rs.length⟩, h.same r (.int _)⟩
  · split at h
    · rename_i ys hys
      cases rs with
      | cons r1 r2 =>
        cases r2
        obtain ⟨q, vs, rfl, hq, rs⟩ := seqL_at r hys r1
        exact ⟨_, ys.length, rfl, .inl ⟨_, hq, rs.length⟩, h.same r (.int _)⟩
    · exact h.elim
  · exact h.elim
def cInt (ms : List M) (s : MS) : Res M := match ms with
  | [.int i] => .ok (.int i) s
  | [.bl k] => .ok (.int (if k = true then 1 else 0)) s
  | _ => .stuck
theorem ok_int : CallOk C (fun xs H Q => (∃ i, xs = [.int i] ∧ Q (.int i) H) ∨ ∃ k, xs = [.bl k] ∧ Q (.int (if k then 1 else 0)) H) cInt := fun σ H g s ms xs Q r rs h => by
  unfold cInt at h
  split at h
  · cases rs with
    | cons r1 r2 => cases r2; cases r1; exact .inl ⟨_, rfl, h.same r (.int _)⟩
  · cases rs with
    | cons r1 r2 => cases r2; cases r1; exact .inr ⟨_, rfl, h.same r (.int _)⟩
  · exact h.elim
def cMax (ms : List M) (s : MS) : Res M := match ms with
  | [.int i, .int j] => .ok (.int (if j > i then j else i)) s
  | _ => .stuck
theorem ok_max2 : CallOk C (fun xs H Q => ∃ i j, xs = [.int i, .int j] ∧ Q (.int (if j > i then j else i)) H) cMax := fun σ H g s ms xs Q r rs h => by
  unfold cMax at h
  split at h
  · cases rs with
    | cons r1 r2 => cases r2 with
      | cons r2 r3 => cases r3; cases r1; cases r2; exact ⟨_, _, rfl, h.same r (.int _)⟩
  · exact h.elim
def cTup (ms : List M) (s : MS) : Res M := match ms with
  | [.tup xs] => .ok (.tup xs) s
  | [x] => match seqL s.hp x with
    | some xs => .ok (.tup xs) s
    | none => .stuck
  | _ => .stuck
theorem ok_tuple : CallOk C (fun xs H Q => ∃ p ys, xs = [.ref p] ∧ ((SqL C.X.K H p ys ∧ ∀ l, H l = none → Q (.ref l) (upd H l (.tup ys))) ∨ (SqT C.X.K H p ys ∧ Q (.ref p) H))) cTup := fun σ H g s ms xs Q r rs h => by
  unfold cTup at h
  split at h
  · cases rs with
    | cons r1 r2 =>
      cases r2
      cases r1 with
      | tup e rs => exact ⟨_, _, rfl, .inr ⟨.inl (.inl e), h.same r (.tup e rs)⟩⟩
  · split at h
    · rename_i ys hys
      cases rs with
      | cons r1 r2 =>
        cases r2
        obtain ⟨q, vs, rfl, hq, rs⟩ := seqL_at r hys r1
        exact ⟨_, _, rfl, .inl ⟨hq, fun p hp => h.newT r rs hp⟩⟩
    · exact h.elim
  · exact h.elim
def seqA (s : MS) : List M → Option (List M)
  | [.tup xs] => some xs
  | [x] => seqL s.hp x
  | _ => none
theorem seqA_at {ms : List M} {xs : List V} {ys : List M} (r : C.rel g s σ H) (rs : RVs C.T g H ms xs) (h : seqA s ms = some ys) : ∃ p vs, xs = [.ref p] ∧ (SqL C.X.K H p vs ∨ SqT C.X.K H p vs) ∧ RVs C.T g H ys vs := by
  unfold seqA at h
  split at h
  · cases h
    cases rs with
    | cons r1 r2 =>
      cases r2
      cases r1 with
      | tup e rs => exact ⟨_, _, rfl, .inr (.inl (.inl e)), rs⟩
  · cases rs with
    | cons r1 r2 =>
      cases r2
      obtain ⟨q, vs, rfl, hq, rs⟩ := seqL_at r h r1
      exact ⟨_, _, rfl, .inl hq, rs⟩
  · cases h
def cListB (ms : List M) (s : MS) : Res M := match seqA s ms with
  | some xs => .ok (.box s.hp.length) ⟨s.env, s.hp ++ [.lst xs]⟩
  | none => .stuck
theorem ok_listB : CallOk C (fun xs H Q => ∃ p ys, xs = [.ref p] ∧ (SqL C.X.K H p ys ∨ SqT C.X.K H p ys) ∧ ∀ l, H l = none → Q (.ref l) (upd H l (.lst ys))) cListB := fun σ H g s ms xs Q r rs h => by
  unfold cListB at h
  split at h
  · rename_i ys hys
    obtain ⟨p, vs, e, hq, rv⟩ := seqA_at r rs hys
    exact ⟨p, vs, e, hq, fun l hl => Rel.boxL r h rv hl⟩
  · exact h.elim
end
end Ma
/-! Ma10: lists in boxes: append, pop, a store; what a box turns into data. -/
namespace Ma
open L2 PySem
section
variable {C : MC} {g g1 : Gh} {H H1 : Hp} {s : MS} {σ : L2.St} {ex : Expr} {es : List Expr} {a b : ME} {ma : MA} {pos apos cpos p p2 : Pos} {x : Str}
theorem nd_ix {α : Type} : ∀ {l : List α} {i j : Nat} {x : α}, l.Nodup → l[i]? = some x → l[j]? = some x → i = j
  | [], _, _, _, _, h, _ => by simp at h
  | y :: l, 0, 0, _, _, _, _ => rfl
  | y :: l, 0, j + 1, x, nd, h1, h2 => by
    simp at h1 h2
    subst h1
    exact absurd (List.mem_of_getElem? h2) (List.nodup_cons.mp nd).1
  | y :: l, i + 1, 0, x, nd, h1, h2 => by
    simp at h1 h2
    subst h2
    exact absurd (List.mem_of_getElem? h1) (List.nodup_cons.mp nd).1
  | y :: l, i + 1, j + 1, x, nd, h1, h2 => by
    simp at h1 h2
    exact congrArg Nat.succ (nd_ix (List.nodup_cons.mp nd).2 h1 h2)
/-- a box's content changes -/
theorem Rel.poke (r : C.rel g s σ H) {n : Nat} {c c' : Cell} {p : Addr} {o : HO} (hc : s.hp[n]? = some c) (hp : g.ro[n]? = some p) (lv : Live c) (ht : ∀ vs, H p ≠ some (.tup vs)) (hq : ∀ g', Mono g H g' (upd H p o) → CellR C.T g' (upd H p o) c' p) (ho : Plain o := by exact ⟨⟨fun _ _ z => (by unfold LamX.CodeO at z; cases z), fun _ z => (by cases z)⟩, fun _ z => (by cases z)⟩) :
    C.rel g ⟨s.env, s.hp.set n c'⟩ σ (upd H p o) ∧ Mono g H g (upd H p o) := by
  have pf : ¬ g.fz p := r.h.thaw n c p hc hp lv.own
  have nl : ∀ o u, H p ≠ some (.frz o u) := fun o u z => by
    have y := r.h.cell n c p hc hp
    cases c with
    | lst ms => obtain ⟨vs, e, _⟩ := y; rw [e] at z; cases z
    | dK ms => obtain ⟨vs, e, _⟩ := y; rw [e] at z; cases z
    | ins c ms => obtain ⟨_, _, vs, _, e, _⟩ := y; rw [e] at z; cases z
    | dF ms => exact lv
    | tP ms => exact lv
    | dead => exact lv
  have mo : Mono g H g (upd H p o) := ⟨⟨List.prefix_refl _, fun _ h => h, fun a f => upd_ne (fun z => pf (z ▸ f)), fun a vs h => by
    have : a ≠ p := fun z => by subst z; exact ht vs h
    rw [upd_ne this]; exact h⟩, fun a o u h => by
    have : a ≠ p := fun z => by subst z; exact nl o u h
    rw [upd_ne this]; exact h⟩
  have inj : ∀ {m : Nat} {q : Addr}, g.ro[m]? = some q → q = p → m = n := fun {m q} h1 h2 => by
    subst h2
    exact nd_ix r.h.nd h1 hp
  refine ⟨r.env mo ⟨by simp [r.h.len], r.h.nd, fun m d q h1 h2 => ?_, fun m d q h1 h2 ld => ?_, fun q f => ?_, fun q hq => ?_, fun q u h1 h2 => ?_, r.h.nfz, r.h.nro, r.h.m0.trans mo, r.h.tb.upd (fun u z => (r.h.cell n c p hc hp).plain lv.own z) (ho.tbl) (fun _ => ho), r.h.tbe⟩, mo⟩
  · by_cases hmn : m = n
    · subst hmn
      have hlt := (List.getElem?_eq_some_iff.mp hc).1
      rw [List.getElem?_set_self hlt] at h1
      cases h1
      rw [hp] at h2
      cases h2
      exact hq g mo
    · rw [List.getElem?_set_ne (Ne.symm hmn)] at h1
      exact (r.h.cell m d q h1 h2).mono mo (upd_ne fun z => hmn (inj h2 z))
  · by_cases hmn : m = n
    · subst hmn
      rw [hp] at h2
      cases h2
      exact pf
    · rw [List.getElem?_set_ne (Ne.symm hmn)] at h1
      exact r.h.thaw m d q h1 h2 ld
  · obtain ⟨u, e⟩ := r.h.fzt q f
    by_cases h : q = p
    · subst h; exact ⟨_, upd_same⟩
    · exact ⟨u, by rw [upd_ne h]; exact e⟩
  · obtain ⟨u, e⟩ := r.h.rot q hq
    by_cases h : q = p
    · subst h; exact ⟨_, upd_same⟩
    · exact ⟨u, by rw [upd_ne h]; exact e⟩
  · have e := r.h.frm q u h1 h2
    by_cases h : q = p
    · subst h
      rcases r.h.nro q (List.mem_of_getElem? hp) with z | z
      · exact absurd z h2
      · rw [h1] at z; cases z
    · rw [upd_ne h]; exact e
theorem Go.pokeL {m : M} {n : Nat} {ms ms' : List M} {vs' : List V} {p : Addr} {Q : VK} {v : V} (h : Go C C.V1 σ (.ok m ⟨s.env, s.hp.set n (.lst ms')⟩) g H Q) (r : C.rel g s σ H) (hc : s.hp[n]? = some (.lst ms)) (hp : g.ro[n]? = some p)
    (rs : RVs C.T g H ms' vs') (rv : RV C.T g H m v) : Q v (upd H p (.lst vs')) := by
  obtain ⟨vs, e, _⟩ := r.h.cell n _ p hc hp
  obtain ⟨r1, mo⟩ := Rel.poke (c' := .lst ms') r hc hp trivial (fun ws z => by rw [e] at z; cases z) fun g' mo => ⟨vs', upd_same, rs.mono mo⟩
  exact h g _ v mo r1 (rv.mono mo)
def mMeth (a : ME) (ma : MA) (ok : M → MS → Bool) (o : M → List M → MS → Res M) : ME := fun s => (a s).bind fun x s1 => if ok x s1 = true then (ma s1).bind fun ms s2 => o x ms s2 else .stuck
def isBoxL (x : M) (s : MS) : Bool := match x with
  | .box n => match s.hp[n]? with
    | some (.lst _) => true
    | _ => false
  | _ => false
theorem isBoxL_at (r : C.rel g s σ H) {m : M} {v : V} (rv : RV C.T g H m v) (h : isBoxL m s = true) : ∃ n p ms vs, m = .box n ∧ v = .ref p ∧ s.hp[n]? = some (.lst ms) ∧ g.ro[n]? = some p ∧ H p = some (.lst vs) ∧ RVs C.T g H ms vs := by
  cases rv with
  | @box n p e =>
    unfold isBoxL at h
    dsimp only at h
    cases hc : s.hp[n]? with
    | none => rw [hc] at h; cases h
    | some c =>
      rw [hc] at h
      cases c with
      | lst ms =>
        obtain ⟨vs, h1, h2⟩ := r.h.cell n _ p hc e
        exact ⟨n, p, ms, vs, rfl, rfl, hc, e, h1, h2⟩
      | _ => cases h
  | _ => cases h
def MethOk (C : MC) (r : V → List V → Hp → VK → Prop) (o : M → List M → MS → Res M) : Prop :=
  ∀ (σ : L2.St) (H : Hp) (g : Gh) (s : MS) (m : M) (ms : List M) (x : V) (xs : List V) (Q : VK), C.rel g s σ H → RV C.T g H m x → RVs C.T g H ms xs → Go C C.V1 σ (o m ms s) g H Q → r x xs H Q
theorem em_bm {o : Expr} {name : Str} {T id : String} {r : V → List V → Hp → VK → Prop} {ok : M → MS → Bool} {f : M → List M → MS → Res M} (pa : PlainAttrs T) (slot : Slot T name id) (hty : typeOf (.builtin id) = pure (.type "method_descriptor")) (hm : MtR C.X id r)
    (hty2 : ∀ (σ : L2.St) (H : Hp) (g : Gh) (s : MS) (m : M) (x : V), C.rel g s σ H → RV C.T g H m x → ok m s = true → tyV C.X.K T x H) (hf : MethOk C r f) (ho : PMe C o a) (ha : PMa C (ex :: es) ma)
    (hbase : attributeBase o name C.X.env (eval o C.X.env) = eval o C.X.env := by rfl)
    (hfew : ((backTo cpos (starEach (ex :: es) C.X.env)).all (fun x => !x.1) && (backToKw cpos (keywordEach [] C.X.env)).all (fun x => x.1.isSome)
      && decide ((ex :: es).length + ([] : List Keyword).length + (if ([] : List Keyword).isEmpty then 0 else 1) < 30)) = true := by rfl)
    (hline : (apos.endLine == cpos.line) = true := by rfl) (hs : starEach (ex :: es) C.X.env = (false, eval ex C.X.env) :: starEach es C.X.env := by rfl) (hplain : (backTo cpos (starEach es C.X.env)).any (·.1) = false := by rfl) :
    PMe C (.Call (.Attribute o name apos) (ex :: es) [] cpos) (mMeth a ma ok f) :=
  wkE (pe_bm pa slot hty hm ho ha hbase hfew hline hs hplain) fun σ H Q h => by
    obtain ⟨g, s, r, q⟩ := rdE_bind h
    refine ⟨g, s, r, q.imp ?_⟩
    rintro x H1 ⟨m, s1, g1, r1, rv, q1⟩
    by_cases hk : ok m s1 = true
    · rw [if_pos hk] at q1
      refine ⟨hty2 σ H1 g1 s1 m x r1 rv hk, g1, s1, r1, (Go.bind (R := C.Vn) q1).imp ?_⟩
      rintro xs H2 ⟨ms, s2, g2, mo, r2, rs, q2⟩
      exact hf σ H2 g2 s2 m ms x xs Q r2 (rv.mono mo) rs q2
    · rw [if_neg hk] at q1; exact q1.elim
theorem tyL {K : PySem.W.Frag} : ∀ (σ : L2.St) (H : Hp) (g : Gh) (s : MS) (m : M) (x : V), C.rel g s σ H → RV C.T g H m x → isBoxL m s = true → tyV K "list" x H := fun σ H g s m x r rv h => by
  obtain ⟨n, p, ms, vs, rfl, rfl, hc, hp, e, rs⟩ := isBoxL_at r rv h
  exact .inl ⟨rfl, _, .inl (.inl e)⟩
def fAppend (x : M) (ms : List M) (s : MS) : Res M := match x, ms with
  | .box n, [y] => match s.hp[n]? with
    | some (.lst xs) => if xs.length < big then .ok .non ⟨s.env, s.hp.set n (.lst (xs ++ [y]))⟩ else .stuck
    | _ => .stuck
  | _, _ => .stuck
theorem ok_append : MethOk C rAppend fAppend := fun σ H g s m ms x xs Q r rv rs h => by
  unfold fAppend at h
  split at h
  · rename_i n y
    split at h
    · rename_i ys hc
      by_cases hb : ys.length < big
      · rw [if_pos hb] at h
        obtain ⟨p, rfl, hp, vs, e, rvs⟩ := r.cellAt hc rv
        cases rs with
        | cons r1 r2 =>
          cases r2
          exact ⟨p, vs, _, rfl, rfl, e, by rw [← rvs.length, sizeLine_eq]; exact hb, h.pokeL r hc hp (rvs.app (.cons r1 .nil)) .non⟩
      · rw [if_neg hb] at h; exact h.elim
    · exact h.elim
  · exact h.elim
def mAppend (a b : ME) : ME := mMeth a (mCons b mNil) isBoxL fAppend
theorem em_append {o : Expr} (ho : PMe C o a) (ha : PMe C ex b) (hbase : attributeBase o "append" C.X.env (eval o C.X.env) = eval o C.X.env := by rfl)
    (hfew : ((backTo cpos (starEach [ex] C.X.env)).all (fun x => !x.1) && (backToKw cpos (keywordEach [] C.X.env)).all (fun x => x.1.isSome)
      && decide ([ex].length + ([] : List Keyword).length + (if ([] : List Keyword).isEmpty then 0 else 1) < 30)) = true := by rfl)
    (hline : (apos.endLine == cpos.line) = true := by rfl) (hs : starEach [ex] C.X.env = (false, eval ex C.X.env) :: starEach [] C.X.env := by rfl) :
    PMe C (.Call (.Attribute o "append" apos) [ex] [] cpos) (mAppend a b) :=
  em_bm PySem.F.plainAttrs_list PySem.F.slot_list_append PySem.F.type_list_append mt_append tyL ok_append ho (am_cons ha am_nil hs) hbase hfew hline hs rfl
/-- xs.pop(i), i from the front -/
def fPopAt (x : M) (ms : List M) (s : MS) : Res M := match x, ms with
  | .box n, [.int i] => match s.hp[n]? with
    | some (.lst xs) => if 0 ≤ i ∧ i < 2 ^ 63 then match xs[i.toNat]? with
        | some y => .ok y ⟨s.env, s.hp.set n (.lst (xs.eraseIdx i.toNat))⟩
        | none => .stuck
      else .stuck
    | _ => .stuck
  | _, _ => .stuck
theorem ok_popAt : MethOk C rPopAt fPopAt := fun σ H g s m ms x xs Q r rv rs h => by
  unfold fPopAt at h
  split at h
  · rename_i n i
    split at h
    · rename_i ys hc
      by_cases hb : 0 ≤ i ∧ i < 2 ^ 63
      · rw [if_pos hb] at h
        split at h
        · rename_i y hy
          obtain ⟨p, rfl, hp, vs, e, rvs⟩ := r.cellAt hc rv
          cases rs with
          | cons r1 r2 =>
            cases r2
            cases r1
            obtain ⟨v, hv, rv2⟩ := rvs.get hy
            have hl : i.toNat < vs.length := (List.getElem?_eq_some_iff.mp hv).1
            exact ⟨p, vs, i, i.toNat, v, rfl, rfl, e, by omega, hb.2, seqIndex_of hb.1 (by omega), hv, h.pokeL r hc hp (rvs.erase _) rv2⟩
        · exact h.elim
      · rw [if_neg hb] at h; exact h.elim
    · exact h.elim
  · exact h.elim
def mPopAt (a b : ME) : ME := mMeth a (mCons b mNil) isBoxL fPopAt
theorem em_popAt {o : Expr} (ho : PMe C o a) (ha : PMe C ex b) (hbase : attributeBase o "pop" C.X.env (eval o C.X.env) = eval o C.X.env := by rfl)
    (hfew : ((backTo cpos (starEach [ex] C.X.env)).all (fun x => !x.1) && (backToKw cpos (keywordEach [] C.X.env)).all (fun x => x.1.isSome)
      && decide ([ex].length + ([] : List Keyword).length + (if ([] : List Keyword).isEmpty then 0 else 1) < 30)) = true := by rfl)
    (hline : (apos.endLine == cpos.line) = true := by rfl) (hs : starEach [ex] C.X.env = (false, eval ex C.X.env) :: starEach [] C.X.env := by rfl) :
    PMe C (.Call (.Attribute o "pop" apos) [ex] [] cpos) (mPopAt a b) :=
  em_bm PySem.F.plainAttrs_list PySem.F.slot_list_pop PySem.F.type_list_pop mt_popAt tyL ok_popAt ho (am_cons ha am_nil hs) hbase hfew hline hs rfl
/-! ### a store at a place -/
abbrev FSet := M → M → M → MS → Res Unit
def SetOk (C : MC) (t : TSet) (f : FSet) : Prop :=
  ∀ (σ : L2.St) (H : Hp) (g : Gh) (s : MS) (m k w : M) (x y z : V) (Q : Hp → Prop), C.rel g s σ H → RV C.T g H m x → RV C.T g H k y → RV C.T g H w z →
    (match f m k w s with
      | .ok _ s1 => ∀ (g' : Gh) (H' : Hp), Mono g H g' H' → C.rel g' s1 σ H' → Q H'
      | _ => False) → t x y z H Q
def fSetL (x k w : M) (s : MS) : Res Unit := match x, k with
  | .box n, .int i => match s.hp[n]? with
    | some (.lst xs) => match ixN xs.length i with
      | some j => .ok () ⟨s.env, s.hp.set n (.lst (xs.set j w))⟩
      | none => .stuck
    | _ => .stuck
  | _, _ => .stuck
theorem ok_setL : SetOk C rSetL fSetL := fun σ H g s m k w x y z Q r rm rk rw' h => by
  unfold fSetL at h
  split at h
  · rename_i u s1 heq
    split at heq
    · rename_i n i
      split at heq
      · rename_i xs hc
        split at heq
        · rename_i j hj
          cases heq
          obtain ⟨p, rfl, hp, vs, e, rvs⟩ := r.cellAt hc rm
          cases rk
          obtain ⟨r1, mo⟩ := Rel.poke (c' := .lst (xs.set j w)) r hc hp trivial (fun ws z => by rw [e] at z; cases z) fun g' mo => ⟨_, upd_same, (rvs.set j rw').mono mo⟩
          exact ⟨p, vs, i, j, rfl, rfl, e, by rw [← rvs.length]; exact hj, h g _ mo r1⟩
        · cases heq
      · cases heq
    · cases heq
  · exact h.elim
/-- o[i] = w -/
def gSub (a b : ME) (f : FSet) : MG := fun w s => (a s).bind fun x s1 => (b s1).bind fun k s2 => f x k w s2
theorem fSetL_ne : ∀ x k w s e s1, fSetL x k w s ≠ .err e s1 := fun x k w s e s1 h => by
  unfold fSetL at h
  split at h
  · split at h
    · split at h <;> cases h
    · cases h
  · cases h
/-- target = e -/
def sAsg (m : ME) (t : MG) : MStm := fun s => (m s).bind fun w s1 => (t w s1).bind fun _ s2 => .ok .nx s2
theorem sm_asg {tg : Expr} {m : ME} {t : MG} (he : PMe C ex m) (hg : PMg C tg t) (hs : swapsWithSole [tg] ex pos.line C.X.env = pure false := by rfl) (hw : swappedStores [tg] ex C.X.env = pure none := by rfl) (h1 : (assignEach [tg] C.X.env).map (·.2) = [assign tg C.X.env] := by rfl) : PMs C (.Assign [tg] ex pos) (sAsg m t) :=
  wkS (ps_asg he hg hs hw h1) fun D σ H h => by
    obtain ⟨g, s, r, q⟩ := rdE_bindS h
    refine ⟨g, s, r, q.imp ?_⟩
    rintro x H1 ⟨w, s1, g1, r1, rv, q1⟩
    refine ⟨g1, s1, w, r1, rv, ?_⟩
    cases h1 : t w s1 with
    | stuck => rw [h1] at q1; exact q1.elim
    | err e s2 => rw [h1] at q1; exact fun g' H' cls d mo r xr => q1 g' H' σ cls d mo r xr
    | ok u s2 => rw [h1] at q1; exact fun g' H' σ' mo r => q1 g' H' σ' mo r
end
end Ma
/-! Ma11: a def and its mirror. -/
namespace Ma
open L2 PySem.Spec PySem PyProof.Rows
structure RoomG (k : Nat) (A : Around) : Prop extends Room k A where
  gs : A.guards = some []
theorem RoomG.less {j k : Nat} {A : Around} (r : RoomG k A) (h : j ≤ k) : RoomG j A := ⟨r.toRoom.mono h, r.gs⟩
theorem RoomG.down {k : Nat} {A : Around} (r : RoomG (k + 1) A) (env : Env) : RoomG k (A.deeper env) := ⟨r.toRoom.deeper env, r.gs⟩
/-- what a def's end has to give -/
def GoF (T : Tab) (g : Gh) (H : Hp) (r : ResF) (Q : VK) (E : XK) : Prop :=
  match r with
  | .ok m hp => ∀ (g' : Gh) (H' : Hp) (v : V), RelH T ⟨g, H⟩ g' hp H' → RV T g' H' m v → Q v H'
  | .err x hp => ∀ (g' : Gh) (H' : Hp) (cls : Value) (d : Option Addr), RelH T ⟨g, H⟩ g' hp H' → XR T g' H' x cls d → E cls d H'
  | .stuck => False
def spM (T : Tab) (n : Nat) (F : Fn) : Sp := fun vs H Q E => vs.length = n ∧ ∃ g hp args, RelH T ⟨g, H⟩ g hp H ∧ RVs T g H args vs ∧ GoF T g H (F args hp) Q E
/-- the def at f keeps its mirror -/
structure FnG (P : Program) (w : World) (mg : Str → Option Value) (base : Heap) (T : Tab) (k : Nat) (f : Addr) (fd : FuncData) (ps : List Str) (F : Fn) : Prop where
  run : ∀ (A : Around) (outer : List Env) (s : Shared) (H : Hp) (args : Args) (us : List Value) (vs : List V) (Q : VK) (E : XK), RoomG k A → Env0 P w T.K mg base A outer s H → BindsTo s fd args (ps.zip us) → Vals vs us → spM T ps.length F vs H Q E →
    codeAny (model P w) A (.call (.ref f) args) (CR (L2.CX P w) outer P w H s Q E) s
/-- a body's mirror as a def's -/
def bodyF (n len : Nat) (b : MStm) : Fn := fun args hp => match b ⟨args.map some ++ List.replicate (len - n) none, hp⟩ with
  | .ok (.rt v) s => .ok v s.hp
  | .ok .nx s => .ok .non s.hp
  | .ok _ _ => .stuck
  | .err x s => .err x s.hp
  | .stuck => .stuck
section
variable {P : Program} {w : World} {mg : Str → Option Value} {base : Heap} {T : Tab}
/-- where a def's body stands -/
abbrev cAt (P : Program) (w : World) (mg : Str → Option Value) (base : Heap) (T : Tab) (N : List Str) (qual : Str) (scope : Scope) (f : Addr) (cd : Value) (A : Around) (outer : List Env) (s : Shared) (H : Hp) (E : XK) (g : Gh) : MC :=
  ⟨cxOf (L2.CX P w) P w T.K mg base N qual scope f cd A outer s H E, T, ⟨g, H⟩, fun cls d _ H' => E cls d H', rfl⟩
theorem cAt_takes {N : List Str} {qual : Str} {scope : Scope} {f : Addr} {cd : Value} {A : Around} {outer : List Env} {s : Shared} {H : Hp} {E : XK} {g : Gh} :
    Takes (cAt P w mg base T N qual scope f cd A outer s H E g).X (cAt P w mg base T N qual scope f cd A outer s H E g).W := takes_of rfl rfl rfl rfl
theorem fnG_of {x qual : Str} {st : Stmt} {f : Addr} {fd : FuncData} {N ps : List Str} {k : Nat} {b : MStm} (F : Fun T.K x qual st f fd) (S : FnScope N ps (defScope st))
    (hb : ∀ (cdv : Value) (A : Around) (outer : List Env) (s : Shared) (H : Hp) (E : XK) (g : Gh), RoomG k (A.deeper (envOfC qual (defScope st) s.heap.objs.size f cdv)) → PMb (cAt P w mg base T N qual (defScope st) f cdv A outer s H E g) (defBody st) b) :
    FnG P w mg base T (k + 1) f fd ps (bodyF ps.length N.length b) := by
  refine ⟨fun A outer s H args us vs Q E hr e0 hbd r hsp => ?_⟩
  obtain ⟨oc, od, kV, doc, pm, an, cdv, ct, osl, rfl, lk, hcd⟩ := F.ex
  obtain ⟨hl, g, hp, as, rh, rs, go⟩ := hsp
  have inK : T.K.In s.heap := e0.mod.kin.keeps (fun b o q => (e0.bs b o q).1)
  have nl : s.heap.NoLimit := e0.mod.nolimit.keeps (fun b o q => (e0.bs b o q).1)
  have kinds : ∀ y ∈ ps.zip us, (defScope st).names.lookup y.1 = some .local ∨ ((defScope st).names.lookup y.1 = some .cell ∧ ((cellsFrom (s.heap.objs.size + 1) (defScope st).names []).lookup y.1).isSome = true) := by
    rintro ⟨n, v⟩ hy
    exact (S.par n (List.of_mem_zip hy).1).imp id fun q => ⟨q, PySem.W.cellsFrom_some _ _ _ (.inl q)⟩
  refine codeAny_call_function hr.depth (inK _ _ lk) rfl S.co S.gen rfl (PySem.W.codeRec_of inK hcd) (hbd _ _ _ _ (wpAny_newFunctionEnv_cells S.kind kinds fun env he s1 ic => ?_))
  subst he
  refine ⟨nl.keeps ic.toInCall.keep, codeAny_func ?_⟩
  have J : Inv (cAt P w mg base T N qual (defScope st) f cdv A outer s H E g).X [] (L2.start N vs) H s1 := inv_start S hr.hd e0 hl r ic
  have hbody := hb cdv A outer s H E g (hr.down _)
  have hnl : ps.length ≤ N.length := by
    have := congrArg List.length S.pre
    rw [List.length_take] at this
    omega
  have fin : ∀ {σ' : L2.St} {H' : Hp} {v : V} {u : Value} {s' : Shared}, Inv (cAt P w mg base T N qual (defScope st) f cdv A outer s H E g).X [] σ' H' s' → RelV v u → Q v H' → CE outer P w H s Q u s' :=
    fun J rv q => ⟨_, _, J.os, J.bare, J.base, J.hok, rv, q⟩
  let D : Ends := { nx := fun _ H' => Q .non H', rt := Q }
  have start_rel : Rel T ⟨g, H⟩ g ⟨as.map some ++ List.replicate (N.length - ps.length) none, hp⟩ (L2.start N vs) H := by
    refine ⟨rh, ?_, fun i m v h1 h2 => ?_⟩
    · unfold L2.start
      simp [rs.length, hl]
    · have h1 : (as.map some ++ List.replicate (N.length - ps.length) none)[i]? = some (some m) := h1
      unfold L2.start at h2
      by_cases hi : i < as.length
      · rw [List.getElem?_append_left (by simpa using hi), List.getElem?_map] at h1
        rw [List.getElem?_append_left (by simpa [← rs.length] using hi), List.getElem?_map] at h2
        cases ha : as[i]? with
        | none => rw [ha] at h1; cases h1
        | some m' =>
          rw [ha] at h1
          cases h1
          obtain ⟨x, hx, rx⟩ := rs.get ha
          rw [hx] at h2
          cases h2
          exact ⟨x, rfl, rx⟩
      · rw [List.getElem?_append_right (by simpa using Nat.le_of_not_lt hi), List.getElem?_replicate] at h1
        split at h1 <;> cases h1
  have goal : rdS (cAt P w mg base T N qual (defScope st) f cdv A outer s H E g) b D (L2.start N vs) H := by
    refine ⟨g, ⟨as.map some ++ List.replicate (N.length - ps.length) none, hp⟩, start_rel, ?_⟩
    unfold bodyF at go
    cases hm : b ⟨as.map some ++ List.replicate (N.length - ps.length) none, hp⟩ with
    | stuck => rw [hm] at go; exact go.elim
    | err x s1 => rw [hm] at go; exact fun g' H' σ' cls d mo rl xr => go g' H' cls d rl.h xr
    | ok fl s1 =>
      rw [hm] at go
      cases fl with
      | nx => exact fun g' H' σ' mo rl => go g' H' .non rl.h .non
      | rt m => exact fun g' H' σ' v mo rl rv => go g' H' v rl.h rv
      | bk => exact go.elim
      | ct => exact go.elim
  refine wpAny_mono (hbody.run [] s1 (L2.start N vs) H D J goal) (fun fl s' hs => ?_) fun e s' hs => hs
  cases fl with
  | ret u =>
    obtain ⟨v, σ', H', J', rv, q⟩ := hs
    exact fin J' rv q
  | next =>
    obtain ⟨σ', H', J', q⟩ := hs
    exact fin (v := V.non) (u := Value.none) J' rfl q
  | brk => exact hs.elim fun _ z => z.elim fun _ y => y.2.elim
  | cont => exact hs.elim fun _ z => z.elim fun _ y => y.2.elim
end
end Ma
/-! Ma12: calls of the text's own defs. -/
namespace Ma
open L2 PySem.Spec PySem PyProof.Rows
section
variable {T : Tab} {e : En} {g g' : Gh} {H H' : Hp} {hp hp' : List Cell}
theorem RelH.self (r : RelH T e g hp H) : RelH T ⟨g, H⟩ g hp H :=
  ⟨r.len, r.nd, r.cell, r.thaw, r.fzt, r.rot, fun _ _ h _ => h, fun _ h => .inl h, fun _ h => .inl h, Mono.refl _ _, r.tb, fun p hp => (r.tb.tab p hp).2.1⟩
theorem RelH.lost (r : RelH T e g hp H) {a : Addr} (h : H a = none) : e.H a = none ∨ a ∈ e.g.ro := by
  cases q : e.H a with
  | none => exact .inl rfl
  | some o =>
    by_cases hr : a ∈ e.g.ro
    · exact .inr hr
    · have := r.frm a o q hr
      rw [h] at this; cases this
theorem RelH.comp (r : RelH T e g hp H) (q : RelH T ⟨g, H⟩ g' hp' H') : RelH T e g' hp' H' := by
  refine ⟨q.len, q.nd, q.cell, q.thaw, q.fzt, q.rot, fun a o h1 h2 => ?_, fun a h => ?_, fun a h => ?_, r.m0.trans q.m0, q.tb, r.tbe⟩
  · refine q.frm a o (r.frm a o h1 h2) fun z => ?_
    rcases r.nro a z with y | y
    · exact h2 y
    · rw [h1] at y; cases y
  · rcases q.nfz a h with z | z | z
    · exact r.nfz a z
    · rcases r.lost z with y | y
      · exact .inr (.inl y)
      · exact .inr (.inr y)
    · rcases r.nro a z with y | y
      · exact .inr (.inr y)
      · exact .inr (.inl y)
  · rcases q.nro a h with z | z
    · exact r.nro a z
    · rcases r.lost z with y | y
      · exact .inr y
      · exact .inl y
end
/-- a def's end as an expression's -/
def upF (env : List (Option M)) : ResF → Res M
  | .ok m hp => .ok m ⟨env, hp⟩
  | .err x hp => .err x ⟨env, hp⟩
  | .stuck => .stuck
/-- called by position -/
def spP (T : Tab) (F : Fn) : Sp := fun vs H Q E => ∃ g hp args, RelH T ⟨g, H⟩ g hp H ∧ RVs T g H args vs ∧ GoF T g H (F args hp) Q E
structure FnP (P : Program) (w : World) (mg : Str → Option Value) (base : Heap) (T : Tab) (k : Nat) (f : Addr) (F : Fn) : Prop where
  run : ∀ (A : Around) (outer : List Env) (s : Shared) (H : Hp) (us : List Value) (vs : List V) (Q : VK) (E : XK), RoomG k A → Env0 P w T.K mg base A outer s H → Vals vs us → spP T F vs H Q E →
    codeAny (model P w) A (.call (.ref f) ⟨us, []⟩) (CR (L2.CX P w) outer P w H s Q E) s
/-- with the defaults of what is left out behind -/
def posF (n : Nat) (dms : List M) (F : Fn) : Fn := fun args hp => if args.length + dms.length = n then F (args ++ dms) hp else .stuck
theorem FnP.of {P : Program} {w : World} {mg : Str → Option Value} {base : Heap} {T : Tab} {k : Nat} {f : Addr} {fd : FuncData} {ps : List Str} {F : Fn} {ds : List Value} {dvs : List V} {dms : List M} (G : FnG P w mg base T k f fd ps F) (hb : L2.Binds T.K fd ps ds) (hd : Vals dvs ds)
    (hdm : ∀ g H, RVs T g H dms dvs) : FnP P w mg base T k f (posF ps.length dms F) := by
  refine ⟨fun A outer s H us vs Q E hr e0 rv ⟨g, hp, args, rh, rs, go⟩ => ?_⟩
  unfold posF at go
  by_cases hl : args.length + dms.length = ps.length
  · rw [if_pos hl] at go
    have rs2 := rs.app (hdm g H)
    have hvl : (vs ++ dvs).length = ps.length := by rw [← rs2.length, List.length_append]; exact hl
    have r2 : Vals (vs ++ dvs) (us ++ ds) := rv.append hd
    exact G.run A outer s H ⟨us, []⟩ (us ++ ds) (vs ++ dvs) Q E hr e0 (hb s us (e0.mod.kin.keeps fun b o q => (e0.bs b o q).1) (by rw [← r2.length]; exact hvl)) r2 ⟨hvl, g, hp, args ++ dms, rh, rs2, go⟩
  · rw [if_neg hl] at go; exact go.elim
section
variable {C : MC} {g : Gh} {H : Hp} {s : MS} {σ : L2.St} {k : Nat} {f : Addr} {F : Fn}
theorem sp_up {Q : VK} {args : List M} {vs : List V} (r : C.rel g s σ H) (rs : RVs C.T g H args vs) (h : Go C C.V1 σ (upF s.env (F args s.hp)) g H Q) : spP C.T F vs H Q fun cls d H' => C.W cls d σ H' := by
  refine ⟨g, s.hp, args, r.h.self, rs, ?_⟩
  cases hf : F args s.hp with
  | stuck => rw [hf] at h; exact h.elim
  | ok m hp => rw [hf] at h; exact fun g' H' v rl rv => h g' H' v rl.m0 (r.env rl.m0 (r.h.comp rl)) rv
  | err x hp => rw [hf] at h; exact fun g' H' cls d rl xr => h g' H' cls d rl.m0 (r.env rl.m0 (r.h.comp rl)) xr
/-- the callee runs -/
theorem run_p {pins : List (Addr × Obj)} {sh : Shared} {Q : VK} {us : List Value} {args : List M} {vs : List V} (G : FnP C.X.prog C.X.w C.X.mg C.X.base C.T k f F) (hr : RoomG k C.X.A) (tk : Takes C.X C.W)
    (I : Inv C.X pins σ H sh) (r : C.rel g s σ H) (rs : RVs C.T g H args vs) (rv : Vals vs us) (h : Go C C.V1 σ (upF s.env (F args s.hp)) g H Q) :
    wpAny (model C.X.prog C.X.w) C.X.A (call (.ref f) us) (EP C.X pins σ Q) C.X.xe sh := by
  have e0 : Env0 C.X.prog C.X.w C.T.K C.X.mg C.X.base C.X.A C.X.stack sh H := C.hK ▸ I.env0
  refine wpAny_call (codeAny_mono (G.run C.X.A C.X.stack sh H us vs Q _ hr e0 rv (sp_up r rs h)) fun res s' hq => ?_)
  cases res with
  | error x => exact tk x s' (XE.of_call I (fun _ _ _ z => z) hq)
  | ok fl =>
    cases fl with
    | ret u => exact I.after hq
    | next => exact hq.elim
    | brk => exact hq.elim
    | cont => exact hq.elim
/-- f(e, ..) -/
def mFn (ma : MA) (F : Fn) : ME := fun s => (ma s).bind fun ms s1 => upF s1.env (F ms s1.hp)
theorem em_fn {x : Str} {p pos : Pos} {ex : Expr} {es : List Expr} {ma : MA} (G : FnP C.X.prog C.X.w C.X.mg C.X.base C.T k f F) (hr : RoomG k C.X.A) (tk : Takes C.X C.W)
    (hm : C.X.mg x = some (.ref f)) (hk : PySem.W.keepIn C.T.K (.ref f) = true) (ha : PMa C (ex :: es) ma)
    (hg : Gl C.X x := by rfl) (hdb : (x == ("__debug__" : Str)) = false := by decide) (he : starEach (ex :: es) C.X.env = (false, eval ex C.X.env) :: starEach es C.X.env := by rfl) (hpl : (backTo pos (starEach es C.X.env)).any (·.1) = false := by rfl) :
    PMe C (.Call (.Name x p) (ex :: es) [] pos) (mFn ma F) := by
  refine ⟨fun pins sh σ H Q I h => wpAny_Call_Name_kw (ld_glob I hg hm ?_ hdb)⟩
  refine PySem.W.callWith_K (h₀ := C.X.base) I.ok.mod.kin (C.hK ▸ hk) (thn (ha.run pos pins sh σ H _ I (rdA_bind h)) fun us s1 hh => ?_) he hpl
  obtain ⟨vs, H1, I1, rv, ms, s2, g1, r1, rs, q1⟩ := hh
  exact ⟨I1.kIn, run_p G hr tk I1 r1 rs rv q1⟩
end
end Ma
/-! Ma13: a box becomes data; defs known by name; chains of comparisons. -/
namespace Ma
open L2 PySem.Spec PySem PyProof.Rows
section
variable {C : MC} {g g1 : Gh} {H H1 : Hp} {s : MS} {σ : L2.St} {ex ea eb ec : Expr} {es : List Expr} {a b c : ME} {ma : MA} {pos p : Pos} {x : Str}
/-- nobody changes the list in box n any more -/
theorem Rel.still (r : C.rel g s σ H) {n : Nat} {ms : List M} {q : Addr} (hc : s.hp[n]? = some (.lst ms)) (hq : g.ro[n]? = some q) : C.rel (g.add q) ⟨s.env, s.hp.set n .dead⟩ σ H ∧ Mono g H (g.add q) H := by
  have mo : Mono g H (g.add q) H := ⟨⟨List.prefix_refl _, fun _ h => .inl h, fun _ _ => rfl, fun _ _ h => h⟩, fun _ _ _ h => h⟩
  refine ⟨r.env mo ⟨by simp [Gh.add, r.h.len], r.h.nd, fun m d u h1 h2 => ?_, fun m d u h1 h2 lv f => ?_, fun u f => ?_, r.h.rot, r.h.frm, fun u f => ?_, r.h.nro, r.h.m0.trans mo, r.h.tb.more (fun a f => f.imp id fun z => by obtain ⟨u, e⟩ := r.h.rot q (List.mem_of_getElem? hq); exact ⟨u, by rw [z]; exact e, ((r.h.cell n _ q hc hq).plain trivial e).tbl⟩), r.h.tbe⟩, mo⟩
  · by_cases hmn : m = n
    · subst hmn
      rw [List.getElem?_set_self (List.getElem?_eq_some_iff.mp hc).1] at h1
      cases h1
      trivial
    · rw [List.getElem?_set_ne (Ne.symm hmn)] at h1
      exact (r.h.cell m d u h1 h2).mono mo rfl
  · by_cases hmn : m = n
    · subst hmn
      rw [List.getElem?_set_self (List.getElem?_eq_some_iff.mp hc).1] at h1
      cases h1
      exact lv
    · rw [List.getElem?_set_ne (Ne.symm hmn)] at h1
      rcases f with f | rfl
      · exact r.h.thaw m d u h1 h2 lv f
      · exact hmn (nd_ix r.h.nd h2 hq)
  · rcases f with f | rfl
    · exact r.h.fzt u f
    · exact r.h.rot u (List.mem_of_getElem? hq)
  · rcases f with f | rfl
    · exact r.h.nfz u f
    · rcases r.h.nro u (List.mem_of_getElem? hq) with z | z
      · exact .inr (.inr z)
      · exact .inr (.inl z)
def frz (x : M) (s : MS) : Res M := match x with
  | .box n => match s.hp[n]? with
    | some (.lst ms) => .ok (.lst ms) ⟨s.env, s.hp.set n .dead⟩
    | _ => .stuck
  | m => .ok m s
def mFrz (a : ME) : ME := fun s => (a s).bind frz
theorem em_frz (h : PMe C ex a) : PMe C ex (mFrz a) := wkE h fun σ H Q q => by
  obtain ⟨g, s, r, q⟩ := q
  refine ⟨g, s, r, ?_⟩
  unfold mFrz at q
  cases ha : a s with
  | stuck => rw [ha] at q; exact q.elim
  | err e s1 => rw [ha] at q; exact q
  | ok m s1 =>
    rw [ha] at q
    intro g1 H1 v mo r1 rv
    have q := Go.later mo q
    unfold frz at q
    cases m with
    | box n =>
      dsimp only [Res.bind] at q
      cases hc : s1.hp[n]? with
      | none => rw [hc] at q; exact q.elim
      | some cl =>
        rw [hc] at q
        cases cl with
        | lst ms =>
          cases rv with
          | @box _ p e =>
            obtain ⟨r2, mo2⟩ := r1.still hc e
            obtain ⟨vs, e2, rs⟩ := r1.h.cell n _ p hc e
            exact q (g1.add p) H1 _ mo2 r2 (.lst (.inr rfl) e2 (rs.mono mo2))
        | _ => exact q.elim
    | _ => exact q.ret r1 rv
/-! ### defs by their names -/
/-- what the text's name x holds: a def that keeps its mirror -/
structure Kn (P : Program) (w : World) (mg : Str → Option Value) (base : Heap) (T : Tab) (x : Str) (k : Nat) (F : Fn) : Prop where
  ex : ∃ f : Addr, FnP P w mg base T k f F ∧ mg x = some (.ref f) ∧ PySem.W.keepIn T.K (.ref f) = true
theorem em_kn {k : Nat} {F : Fn} (G : Kn C.X.prog C.X.w C.X.mg C.X.base C.T x k F) (hr : RoomG k C.X.A) (tk : Takes C.X C.W) (ha : PMa C (ex :: es) ma)
    (hg : Gl C.X x := by rfl) (hdb : (x == ("__debug__" : Str)) = false := by decide) (he : starEach (ex :: es) C.X.env = (false, eval ex C.X.env) :: starEach es C.X.env := by rfl) (hpl : (backTo pos (starEach es C.X.env)).any (·.1) = false := by rfl) :
    PMe C (.Call (.Name x p) (ex :: es) [] pos) (mFn ma F) := by
  obtain ⟨f, h, hm, hk⟩ := G.ex
  exact em_fn h hr tk hm hk ha hg hdb he hpl
/-! ### a < b < c -/
def mChain (o o' : M → M → MS → Res M) (a b c : ME) : ME := fun s => (a s).bind fun x s1 => (b s1).bind fun y s2 => (o x y s2).bind fun z s3 => match z with
  | .bl k => if k = true then (c s3).bind fun w s4 => o' y w s4 else .ok (.bl false) s3
  | _ => .stuck
theorem em_chain {op op' : CmpOp} {o o' : M → M → MS → Res M} (ho : Op2Ok C (compareOp op) o) (ho' : Op2Ok C (compareOp op') o') (ha : PMe C ea a) (hb : PMe C eb b) (hc : PMe C ec c)
    (hm : lastMarks [op, op'] [eb, ec] = false := by with_unfolding_all rfl) : PMe C (.Compare ea [op, op'] [eb, ec] pos) (mChain o o' a b c) := by
  refine ⟨fun pins sh σ H Q I h => ?_⟩
  obtain ⟨g, s, r, q⟩ := h
  refine Compare_chain (thn (ha.run pins sh σ H _ I ⟨g, s, r, Go.bind (R := C.V1) q⟩) fun v s1 ⟨x, H1, I1, l1, m1, ms1, g1, mo1, r1, rv1, q1⟩ => chain_link ?_) hm
  refine thn (hb.run pins s1 σ H1 _ I1 ⟨g1, ms1, r1, Go.bind (R := C.V1) q1⟩) fun u s2 ⟨y, H2, I2, l2, m2, ms2, g2, mo2, r2, rv2, q2⟩ => ?_
  refine thn (ho pins s2 σ H2 g2 ms2 m1 m2 x y v u _ I2 r2 (rv1.mono mo2) rv2 l1 l2 (Go.bind (R := C.V1) q2)) fun d s3 ⟨z, H3, I3, l3, m3, ms3, g3, mo3, r3, rv3, q3⟩ => ?_
  cases rv3 with
  | bl k =>
    cases l3
    refine wpAny_truthy_bool ?_
    cases k with
    | false => exact ite_ff ⟨.bl false, H3, I3, rfl, q3.ret r3 (.bl _)⟩
    | true =>
      refine ite_tt (chain_last (thn (hc.run pins s3 σ H3 _ I3 ⟨g3, ms3, r3, Go.bind (R := C.V1) q3⟩) fun w' s4 ⟨z', H4, I4, l4, m4, ms4, g4, mo4, r4, rv4, q4⟩ => ?_))
      exact ho' pins s4 σ H4 g4 ms4 m2 m4 y z' u w' Q I4 r4 (rv2.mono (mo3.trans mo4)) rv4 l2 l4 q4
  | _ => exact q3.elim
/-- -e -/
def mNeg (a : ME) : ME := fun s => (a s).bind fun x s1 => match x with
  | .int i => .ok (.int (-i)) s1
  | _ => .stuck
theorem em_neg (ha : PMe C ea a) : PMe C (.UnaryOp .USub ea pos) (mNeg a) := wkE (pe_un un_neg ha) fun σ H Q h => by
  obtain ⟨g, s, r, q⟩ := rdE_bind h
  refine ⟨g, s, r, q.imp ?_⟩
  rintro k H1 ⟨m, s1, g1, r1, rv, q1⟩
  cases rv with
  | int i => exact ⟨i, rfl, q1.ret r1 (.int _)⟩
  | _ => exact q1.elim
end
end Ma
/-! Ma14: targets in parentheses; list comprehensions. -/
namespace Ma
open L2 PySem.Spec PySem PyProof.Rows
section
variable {C : MC} {g g1 : Gh} {H H1 : Hp} {s : MS} {σ : L2.St} {ex ea eb ec : Expr} {es : List Expr} {a b c : ME} {ma : MA} {pos p : Pos} {x : Str}
def gNs : List Nat → TGs
  | [] => gNil
  | i :: is => gCons (gName i) (gNs is)
def setM : List Nat → List M → List (Option M) → Option (List (Option M))
  | [], [], env => some env
  | i :: is, m :: ms, env => setM is ms (env.set i (some m))
  | _, _, _ => none
def gTupN (is : List Nat) : MG := fun w s => match w with
  | .tup ms => match setM is ms s.env with
    | some e => .ok () ⟨e, s.hp⟩
    | none => .stuck
  | _ => .stuck
theorem wipe_put {i : Nat} {v : V} : ∀ {vs : List Nat} {σ : L2.St}, i ∈ vs → wipe (σ.set i (some v)) vs = wipe σ vs
  | [], _, h => by simp at h
  | j :: vs, σ, h => by
    unfold wipe
    by_cases hm : i ∈ vs
    · rw [wipe_put hm]
    · have e : i = j := by simpa [hm] using h
      subst e
      have key : ∀ {us : List Nat} {τ : L2.St}, i ∉ us → wipe (τ.set i (some v)) us = (wipe τ us).set i (some v) := by
        intro us
        induction us with
        | nil => intro τ _; rfl
        | cons k us ih =>
          intro τ hk
          have h1 : i ≠ k := fun z => hk (by simp [z])
          have h2 : i ∉ us := fun z => hk (by simp [z])
          unfold wipe
          rw [ih h2, List.set_comm _ _ h1]
      rw [key hm, List.set_set]
theorem ns_of {Q : L2.St → Hp → Prop} : ∀ {is : List Nat} {ms : List M} {vs : List V} {env env' : List (Option M)} {hp : List Cell} {σ : L2.St}, C.rel g ⟨env, hp⟩ σ H → RVs C.T g H ms vs → setM is ms env = some env' →
    (∀ σ', C.rel g ⟨env', hp⟩ σ' H → (∀ ws : List Nat, (∀ i ∈ is, i ∈ ws) → wipe σ' ws = wipe σ ws) → Q σ' H) → gNs is vs σ H Q
  | [], [], _, env, env', hp, σ, r, .nil, h, k => by
    cases h
    exact ⟨rfl, k σ r fun _ _ => rfl⟩
  | i :: is, m :: ms, _, env, env', hp, σ, r, .cons rv rs, h, k => by
    refine ⟨_, _, rfl, ?_⟩
    refine ns_of (is := is) (r.put (i := i) rv) rs h fun σ' r' hw => k σ' r' fun ws hs => ?_
    rw [hw ws fun j hj => hs j (by simp [hj])]
    exact wipe_put (hs i (by simp))
  | [], _ :: _, _, _, _, _, _, _, _, h, _ => by cases h
  | _ :: _, [], _, _, _, _, _, _, _, h, _ => by cases h
theorem gm_tupN {es : List Expr} {k : Nat} {is : List Nat} {n : Nat} (hc : C.X.calm = true) (h : PGs C.X es (gNs is)) (hl : is.length = n := by rfl)
    (hn : (assignEach es C.X.env).length = n := by rfl) (hst : (assignEach es C.X.env).findIdx? (·.1) = none := by rfl) : PMg C (.Tuple es k pos) (gTupN is) :=
  wkG (pg_tup hc h hn hst) fun v σ H Q ⟨g, s, w, r, rv, q⟩ => by
    unfold gTupN at q
    cases rv with
    | @tup pa ms vs e rs =>
      dsimp only at q
      cases he : setM is ms s.env with
      | none => rw [he] at q; exact q.elim
      | some env' =>
        rw [he] at q
        have hlen : ∀ {is : List Nat} {ms : List M} {env env' : List (Option M)}, setM is ms env = some env' → ms.length = is.length := by
          intro is
          induction is with
          | nil => intro ms env env' z; cases ms with
            | nil => rfl
            | cons _ _ => cases z
          | cons i is ih => intro ms env env' z; cases ms with
            | nil => cases z
            | cons _ _ => exact congrArg Nat.succ (ih z)
        exact ⟨pa, vs, rfl, .inl (.inl e), by rw [← rs.length, hlen he, hl], ns_of (env := s.env) (hp := s.hp) r rs he fun σ' r' _ => q g H σ' (Mono.refl _ _) r'⟩
    | _ => exact q.elim
/-! ### the targets of a comprehension -/
def rdGc (C : MC) (ws : List Nat) (m : MG) : TG := fun v σ H Q => ∃ g s w, C.rel g s σ H ∧ RV C.T g H w v ∧ match m w s with
  | .ok _ s1 => ∀ (σ' : L2.St), C.rel g s1 σ' H → wipe σ' ws = wipe σ ws → Q σ' H
  | _ => False
abbrev PMc (C : MC) (ws : List Nat) (tg : Expr) (m : MG) : Prop := PG C.X tg (rdGc C ws m)
theorem gc_name (i : Nat) {ws : List Nat} (hN : C.X.N.Nodup) (hi : C.X.N[i]? = some x) (hx : Loc C.X.env.scope x) (hw : i ∈ ws) (hf : C.X.fn x = true ∨ C.X.env.scope.names.lookup x = some .local := by first | exact .inl rfl | exact .inr rfl | assumption) : PMc C ws (.Name x pos) (gSet i) :=
  wkG (pg_name hN hi hx hf) fun v σ H Q ⟨g, s, w, r, rv, q⟩ => q _ (r.put rv) (wipe_put hw)
theorem gc_tup {es : List Expr} {k : Nat} {is ws : List Nat} {n : Nat} (hc : C.X.calm = true) (h : PGs C.X es (gNs is)) (hw : ∀ i ∈ is, i ∈ ws) (hl : is.length = n := by rfl)
    (hn : (assignEach es C.X.env).length = n := by rfl) (hst : (assignEach es C.X.env).findIdx? (·.1) = none := by rfl) : PMc C ws (.Tuple es k pos) (gTupN is) :=
  wkG (pg_tup hc h hn hst) fun v σ H Q ⟨g, s, w, r, rv, q⟩ => by
    unfold gTupN at q
    cases rv with
    | @tup pa ms vs e rs =>
      dsimp only at q
      cases he : setM is ms s.env with
      | none => rw [he] at q; exact q.elim
      | some env' =>
        rw [he] at q
        have hlen : ∀ {is : List Nat} {ms : List M} {env env' : List (Option M)}, setM is ms env = some env' → ms.length = is.length := by
          intro is
          induction is with
          | nil => intro ms env env' z; cases ms with
            | nil => rfl
            | cons _ _ => cases z
          | cons i is ih => intro ms env env' z; cases ms with
            | nil => cases z
            | cons _ _ => exact congrArg Nat.succ (ih z)
        exact ⟨pa, vs, rfl, .inl (.inl e), by rw [← rs.length, hlen he, hl], ns_of (env := s.env) (hp := s.hp) r rs he fun σ' r' z => q σ' r' (z ws hw)⟩
    | _ => exact q.elim
/-! ### [elt for target in iter if ..] -/
def wipeM (env : List (Option M)) : List Nat → List (Option M)
  | [] => env
  | v :: vs => (wipeM env vs).set v none
theorem Rel.wipe {T : Tab} {e : En} : ∀ {vs : List Nat} {s : MS}, Rel T e g s σ H → Rel T e g ⟨wipeM s.env vs, s.hp⟩ (wipe σ vs) H
  | [], s, r => r
  | v :: vs, s, r => by
    have q := Rel.wipe (vs := vs) r
    refine ⟨q.h, by simp [wipeM, L2.wipe, q.len], fun i m x h1 h2 => ?_⟩
    have h1 : ((wipeM s.env vs).set v none)[i]? = some (some m) := h1
    have h2 : ((L2.wipe σ vs).set v none)[i]? = some x := h2
    rw [List.getElem?_set] at h1 h2
    by_cases hv : v = i
    · rw [if_pos hv] at h1
      split at h1 <;> cases h1
    · rw [if_neg hv] at h1 h2
      exact q.sl i m x h1 h2
def lcLoop (vs : List Nat) (tg : MG) (tt : MT) (el : ME) : List M → List M → MS → Res (List M)
  | [], acc, s => .ok acc s
  | x :: xs, acc, s => match tg x ⟨wipeM s.env vs, s.hp⟩ with
    | .ok _ s1 => match tt s1 with
      | .ok true s2 => match el s2 with
        | .ok y s3 => if acc.length < big then lcLoop vs tg tt el xs (acc ++ [y]) ⟨s.env, s3.hp⟩ else .stuck
        | _ => .stuck
      | .ok false s2 => lcLoop vs tg tt el xs acc ⟨s.env, s2.hp⟩
      | _ => .stuck
    | _ => .stuck
def mLc (vs : List Nat) (it : MI) (tg : MG) (tt : MT) (el : ME) : ME := fun s => (it s).bind fun xs s1 => (lcLoop vs tg tt el xs [] s1).bind fun ms s2 => .ok (.lst ms) s2
/-- the new list, beside all that the machine knows -/
structure Side (e : En) (g : Gh) (H : Hp) (D : Addr) (vs : List V) : Prop where
  at_ : H D = some (.lst vs)
  nf : ¬ g.fz D
  nr : D ∉ g.ro
  ne : e.H D = none
theorem RelH.side {T : Tab} {e : En} {hp : List Cell} {D : Addr} {vs ws : List V} (r : RelH T e g hp H) (d : Side e g H D vs) : RelH T e g hp (upd H D (.lst ws)) ∧ Mono g H g (upd H D (.lst ws)) ∧ Side e g (upd H D (.lst ws)) D ws := by
  have mo : Mono g H g (upd H D (.lst ws)) := ⟨⟨List.prefix_refl _, fun _ h => h, fun a f => upd_ne fun z => d.nf (z ▸ f), fun a us h => by
    have : a ≠ D := fun z => by subst z; rw [d.at_] at h; cases h
    rw [upd_ne this]; exact h⟩, fun a o u h => by
    have : a ≠ D := fun z => by subst z; rw [d.at_] at h; cases h
    rw [upd_ne this]; exact h⟩
  have nr : ∀ {n : Nat} {a : Addr}, g.ro[n]? = some a → a ≠ D := fun h z => d.nr (z ▸ List.mem_of_getElem? h)
  refine ⟨⟨r.len, r.nd, fun n c a h1 h2 => (r.cell n c a h1 h2).mono mo (upd_ne (nr h2)), r.thaw, fun a f => ?_, fun a h => ?_, fun a o h1 h2 => ?_, r.nfz, r.nro, r.m0.trans mo, r.tb.upd (fun u z => by rw [d.at_] at z; cases z; exact plain_lst) plain_lst.tbl (fun _ => plain_lst), r.tbe⟩, mo, ⟨upd_same, d.nf, d.nr, d.ne⟩⟩
  · obtain ⟨o, q⟩ := r.fzt a f
    exact ⟨o, by rw [upd_ne fun (z : a = D) => d.nf (z ▸ f)]; exact q⟩
  · obtain ⟨o, q⟩ := r.rot a h
    exact ⟨o, by rw [upd_ne fun (z : a = D) => d.nr (z ▸ h)]; exact q⟩
  · have q := r.frm a o h1 h2
    rw [upd_ne fun z => by subst z; rw [d.ne] at h1; cases h1]
    exact q
theorem Side.later {T : Tab} {e : En} {hp hp' : List Cell} {D : Addr} {vs : List V} (d : Side e g H D vs) (q : RelH T ⟨g, H⟩ g1 hp' H1) : Side e g1 H1 D vs := by
  refine ⟨q.frm D _ d.at_ d.nr, fun f => ?_, fun h => ?_, d.ne⟩
  · rcases q.nfz D f with z | z | z
    · exact d.nf z
    · have z : H D = none := z
      rw [d.at_] at z; cases z
    · exact d.nr z
  · rcases q.nro D h with z | z
    · exact d.nr z
    · have z : H D = none := z
      rw [d.at_] at z; cases z
/-- what the loop's end has to give -/
def GoL (C : MC) (σ : L2.St) (D : Addr) (r : Res (List M)) (g : Gh) (H : Hp) (Q : Hp → Prop) : Prop := match r with
  | .ok ms s => ∀ (g' : Gh) (H' : Hp) (vs : List V), Mono g H g' H' → C.rel g' s σ H' → Side C.e g' H' D vs → RVs C.T g' H' ms vs → Q H'
  | _ => False
theorem GoL.later {D : Addr} {r : Res (List M)} {Q : Hp → Prop} (m : Mono g H g1 H1) (h : GoL C σ D r g H Q) : GoL C σ D r g1 H1 Q := by
  cases r with
  | ok a s => exact fun g' H' v q => h g' H' v (m.trans q)
  | err x s => exact h
  | stuck => exact h
abbrev MC.inBlk (C : MC) (s : Shared) (H : Hp) (scope : Scope) (D : Addr) (cl : List (Str × Addr)) (fp : List Addr) (e : En) : MC := ⟨C.X.blk s H scope (compEnvC scope cl D C.X.env) fp, C.T, e, fun _ _ _ _ => False, C.hK⟩
theorem lc_rd {mi : MI} {mg : MG} {mt : MT} {me : ME} {vs : List Nat} {g' : TG} {tt : TT} {te : TE} (hg : ∀ e v σ H Q, rdGc ⟨C.X, C.T, e, fun _ _ _ _ => False, C.hK⟩ vs mg v σ H Q → g' v σ H Q)
    (ht : ∀ e σ H Q, rdT ⟨C.X, C.T, e, fun _ _ _ _ => False, C.hK⟩ mt σ H Q → tt σ H Q) (he : ∀ e σ H Q, rdE ⟨C.X, C.T, e, fun _ _ _ _ => False, C.hK⟩ me σ H Q → te σ H Q) {σ : L2.St} {H : Hp} {Q : VK}
    (h : rdE C (mLc vs mi mg mt me) σ H Q) : tLc (rdI C mi) g' tt te vs σ H Q := by
  obtain ⟨g, s, r, q⟩ := h
  refine ⟨g, s, r, ?_⟩
  unfold mLc at q
  unfold GoI
  cases hm : mi s with
  | stuck => rw [hm] at q; exact q.elim
  | err x s1 => rw [hm] at q; exact q
  | ok items s1 =>
    rw [hm] at q
    dsimp only [Res.bind] at q
    intro g0 H0 J mo0 r0 wk D hD
    have q := Go.later mo0 q
    -- the loop's end
    have fin0 : GoL C σ D (lcLoop vs mg mt me items [] s1) g0 H0 (fun H' => Q (.ref D) H') := by
      unfold GoL
      cases hl : lcLoop vs mg mt me items [] s1 with
      | stuck => rw [hl] at q; exact q.elim
      | err x s2 => exact absurd hl (by
          have : ∀ (xs acc : List M) (s : MS), lcLoop vs mg mt me xs acc s ≠ .err x s2 := by
            intro xs
            induction xs with
            | nil => intro acc s z; cases z
            | cons y ys ih =>
              intro acc s z
              unfold lcLoop at z
              split at z
              · split at z
                · split at z
                  · split at z
                    · exact ih _ _ z
                    · cases z
                  · cases z
                · exact ih _ _ z
                · cases z
              · cases z
          exact this _ _ _)
      | ok ms s2 =>
        rw [hl] at q
        intro g' H' ws mo r' d rs
        have mo2 : Mono g' H' (g'.add D) H' := ⟨⟨List.prefix_refl _, fun _ h => .inl h, fun _ _ => rfl, fun _ _ h => h⟩, fun _ _ _ h => h⟩
        have r2 : C.rel (g'.add D) s2 σ H' := r'.env mo2 ⟨r'.h.len, r'.h.nd, fun n c a h1 h2 => (r'.h.cell n c a h1 h2).mono mo2 rfl, fun n c a h1 h2 lv f => by
          rcases f with f | rfl
          · exact r'.h.thaw n c a h1 h2 lv f
          · exact d.nr (List.mem_of_getElem? h2), fun a f => by
          rcases f with f | rfl
          · exact r'.h.fzt a f
          · exact ⟨_, d.at_⟩, r'.h.rot, r'.h.frm, fun a f => by
          rcases f with f | rfl
          · exact r'.h.nfz a f
          · exact .inr (.inl d.ne), r'.h.nro, r'.h.m0.trans mo2, r'.h.tb.more (fun a f => f.imp id fun z => ⟨_, (congrArg H' z).trans d.at_, plain_lst.tbl⟩), r'.h.tbe⟩
        exact q (g'.add D) H' (.ref D) (mo.trans mo2) r2 (.lst (.inr rfl) d.at_ (rs.mono mo2))
    have hDr : D ∉ g0.ro := fun z => by obtain ⟨o, e⟩ := r0.h.rot D z; rw [hD] at e; cases e
    have hDf : ¬ g0.fz D := fun z => by obtain ⟨o, e⟩ := r0.h.fzt D z; rw [hD] at e; cases e
    have hDe : C.e.H D = none := by
      rcases r0.h.lost hD with z | z
      · exact z
      · exact absurd (r0.h.m0.ro.subset z) hDr
    have mo1 := mono_laid (o := .lst []) r0.h hD
    have r1 := r0.laid (o := .lst []) hD
    obtain ⟨G, Y, w, hG, hY⟩ := wk
    refine lc_it w (fun i H => ∃ g hp acc ws, Mono g0 H0 g H ∧ C.rel g ⟨s1.env, hp⟩ σ H ∧ Side C.e g H D ws ∧ RVs C.T g H acc ws ∧ GoL C σ D (lcLoop vs mg mt me (items.drop i) acc ⟨s1.env, hp⟩) g H (fun H' => Q (.ref D) H'))
      ⟨g0, s1.hp, [], [], mo1, r1, ⟨upd_same, hDf, hDr, hDe⟩, .nil, fin0.later mo1⟩ (fun i H _ ⟨g, _, _, _, mo, _⟩ => hG g H mo) ?_ ?_
    · rintro i x H1 H2 hi ⟨g1, hp1, acc, ws, mo1, r1, d1, rs1, q1⟩ y
      obtain ⟨m, hm, mo2, r2, rv, same⟩ := hY i g1 H1 ⟨s1.env, hp1⟩ σ x H2 hi mo1 r1 y
      have d2 : Side C.e g1 H2 D ws := ⟨same _ _ d1.at_, d1.nf, d1.nr, d1.ne⟩
      have q1 := q1.later mo2
      have rs2 := rs1.mono mo2
      rw [drop_of hm] at q1
      unfold lcLoop at q1
      -- the turn starts from here
      have rt : Rel C.T ⟨g1, H2⟩ g1 ⟨wipeM s1.env vs, hp1⟩ (wipe σ vs) H2 := by
        have := Rel.wipe (vs := vs) r2
        exact ⟨this.h.self, this.len, this.sl⟩
      refine hg ⟨g1, H2⟩ _ _ _ _ ⟨g1, ⟨wipeM s1.env vs, hp1⟩, m, rt, rv, ?_⟩
      dsimp only at q1
      cases ht1 : mg m ⟨wipeM s1.env vs, hp1⟩ with
      | stuck => rw [ht1] at q1; exact q1.elim
      | err e s2 => rw [ht1] at q1; exact q1.elim
      | ok u s2 =>
        rw [ht1] at q1
        intro σ2 r3 hw
        refine ⟨by rw [hw]; exact (by
          have : ∀ (us : List Nat) (τ : L2.St), wipe (wipe τ us) us = wipe τ us := by
            intro us τ
            apply List.ext_getElem?
            intro j
            have key : ∀ (us : List Nat) (τ : L2.St) (j : Nat), (wipe τ us)[j]? = if j ∈ us then (if j < τ.length then some none else none) else τ[j]? := by
              intro us
              induction us with
              | nil => intro τ j; simp [wipe]
              | cons k us ih =>
                intro τ j
                unfold wipe
                rw [List.getElem?_set, ih, wipe_length]
                by_cases hk : k = j
                · subst hk; simp
                · simp [hk, Ne.symm hk]
            rw [key, key, wipe_length]
            split <;> rfl
          exact this vs σ), ?_⟩
        refine ht ⟨g1, H2⟩ _ _ _ ⟨g1, s2, r3, ?_⟩
        dsimp only at q1
        cases ht2 : mt s2 with
        | stuck => rw [ht2] at q1; exact q1.elim
        | err e s3 => rw [ht2] at q1; exact q1.elim
        | ok k s3 =>
          rw [ht2] at q1
          intro g3 H3 b mo3 r3' eb
          cases eb
          cases k with
          | false =>
            rw [if_neg Bool.false_ne_true]
            have rc : RelH C.T C.e g3 s3.hp H3 := r2.h.comp r3'.h
            have mo3' := r3'.h.m0
            exact ⟨g3, s3.hp, acc, ws, (mo1.trans mo2).trans mo3', r2.env mo3' rc, d2.later (hp := hp1) r3'.h, rs2.mono mo3', q1.later mo3'⟩
          | true =>
            rw [if_pos rfl]
            refine he ⟨g1, H2⟩ _ _ _ ⟨g3, s3, r3', ?_⟩
            dsimp only at q1
            cases ht3 : me s3 with
            | stuck => rw [ht3] at q1; exact q1.elim
            | err e s4 => rw [ht3] at q1; exact q1.elim
            | ok y s4 =>
              rw [ht3] at q1
              intro g4 H4 yv mo4 r4 ry
              dsimp only at q1
              by_cases hb : acc.length < big
              · rw [if_pos hb] at q1
                have mo4' := r4.h.m0
                have rc : RelH C.T C.e g4 s4.hp H4 := r2.h.comp r4.h
                have d4 := d2.later (hp := hp1) r4.h
                have rs4 := rs2.mono mo4'
                obtain ⟨rh5, mo5, d5⟩ := rc.side (ws := ws ++ [yv]) d4
                exact ⟨ws, d4.at_, by rw [← rs4.length, sizeLine_eq]; exact hb, g4, s4.hp, acc ++ [y], ws ++ [yv], ((mo1.trans mo2).trans mo4').trans mo5, (r2.env mo4' rc).env mo5 rh5, d5, (rs4.mono mo5).app (.cons (ry.mono mo5) .nil), q1.later (mo4'.trans mo5)⟩
              · rw [if_neg hb] at q1; exact q1.elim
    · rintro H1 ⟨g1, hp1, acc, ws, mo1, r1, d1, rs1, q1⟩
      rw [List.drop_length] at q1
      exact q1 g1 H1 ws (Mono.refl _ _) r1 d1 rs1
end
end Ma
/-! Ma15: list comprehensions as expressions and as statements. -/
namespace Ma
open L2 PySem.Spec PySem PyProof.Rows
section
variable {C : MC} {tg iter elt : Expr} {ifs : List Expr} {scope : Scope} {own : List (Str × Nat)} {pos spos : Pos} {mi : MI} {mg : MG} {mt : MT} {me : ME}
def mYes : MT := fun s => .ok true s
abbrev PMts (C : MC) (ifs : List Expr) (mt : MT) : Prop := PTs C.X ifs (rdT C mt)
theorem tsm_nil : PMts C [] mYes := ⟨fun pins s σ H Q I ⟨g, ms, r, q⟩ => pts_nil.run pins s σ H Q I (q.ret r rfl)⟩
theorem tsm_one {c : Expr} (h : PMt C c mt) : PMts C [c] mt := pts_one h
theorem em_lc (hc : C.X.calm = true) (hN : C.X.N.Nodup) (hi : PMi C tg iter mi) (ok : BlkOk C.X.N C.X.env.scope scope own)
    (hg : ∀ (s : Shared) (H : Hp) (D : Addr) (cl : List (Str × Addr)) (fp : List Addr) (e : En), PMc (C.inBlk s H scope D cl fp e) (own.map (·.2)) tg mg)
    (ht : ∀ (s : Shared) (H : Hp) (D : Addr) (cl : List (Str × Addr)) (fp : List Addr) (e : En), PMts (C.inBlk s H scope D cl fp e) ifs mt)
    (he : ∀ (s : Shared) (H : Hp) (D : Addr) (cl : List (Str × Addr)) (fp : List Addr) (e : En), PMe (C.inBlk s H scope D cl fp e) elt me)
    (hs : ∀ x, foldedSetIterable iter C.X.env x = pure x := by intro _; rfl) : PMe C (.ListComp elt [⟨tg, iter, ifs, 0⟩] scope pos) (mLc (own.map (·.2)) mi mg mt me) :=
  wkE (pe_lc (g := fun v σ H Q => ∃ e, rdGc ⟨C.X, C.T, e, fun _ _ _ _ => False, C.hK⟩ (own.map fun (p : Str × Nat) => p.2) mg v σ H Q) (tt := fun σ H Q => ∃ e, rdT ⟨C.X, C.T, e, fun _ _ _ _ => False, C.hK⟩ mt σ H Q) (te := fun σ H Q => ∃ e, rdE ⟨C.X, C.T, e, fun _ _ _ _ => False, C.hK⟩ me σ H Q) hc hN hi ok
    (fun s H D cl fp => ⟨fun pins s1 σ H1 v u Q I r ⟨e, q⟩ => (hg s H D cl fp e).run pins s1 σ H1 v u Q I r q⟩)
    (fun s H D cl fp => ⟨fun pins s1 σ H1 Q I ⟨e, q⟩ => (ht s H D cl fp e).run pins s1 σ H1 Q I q⟩)
    (fun s H D cl fp => ⟨fun pins s1 σ H1 Q I ⟨e, q⟩ => (he s H D cl fp e).run pins s1 σ H1 Q I q⟩) hs)
    fun σ H Q h => lc_rd (fun e v σ H Q z => ⟨e, z⟩) (fun e σ H Q z => ⟨e, z⟩) (fun e σ H Q z => ⟨e, z⟩) h
theorem sm_setLc (i : Nat) {y : Str} {py : Pos} (hc : C.X.calm = true) (hN : C.X.N.Nodup) (hi : PMi C tg iter mi) (ok : BlkOk C.X.N C.X.env.scope scope own)
    (hg : ∀ (s : Shared) (H : Hp) (D : Addr) (cl : List (Str × Addr)) (fp : List Addr) (e : En), PMc (C.inBlk s H scope D cl fp e) (own.map (·.2)) tg mg)
    (ht : ∀ (s : Shared) (H : Hp) (D : Addr) (cl : List (Str × Addr)) (fp : List Addr) (e : En), PMts (C.inBlk s H scope D cl fp e) ifs mt)
    (he : ∀ (s : Shared) (H : Hp) (D : Addr) (cl : List (Str × Addr)) (fp : List Addr) (e : En), PMe (C.inBlk s H scope D cl fp e) elt me)
    (hy : C.X.N[i]? = some y := by rfl) (hyl : C.X.env.scope.names.lookup y = some .local := by rfl)
    (hsw : swapsWith (.ListComp elt [⟨tg, iter, ifs, 0⟩] scope pos) (some (.Name y py)) spos.line C.X.env = pure true := by exact sw_true rfl rfl rfl (by decide +kernel))
    (hs : ∀ x, foldedSetIterable iter C.X.env x = pure x := by intro _; rfl) : PMs C (.Assign [.Name y py] (.ListComp elt [⟨tg, iter, ifs, 0⟩] scope pos) spos) (sSet i (mLc (own.map (·.2)) mi mg mt me)) :=
  wkS (ps_setLc (g := fun v σ H Q => ∃ e, rdGc ⟨C.X, C.T, e, fun _ _ _ _ => False, C.hK⟩ (own.map fun (p : Str × Nat) => p.2) mg v σ H Q) (tt := fun σ H Q => ∃ e, rdT ⟨C.X, C.T, e, fun _ _ _ _ => False, C.hK⟩ mt σ H Q) (te := fun σ H Q => ∃ e, rdE ⟨C.X, C.T, e, fun _ _ _ _ => False, C.hK⟩ me σ H Q) hc hN hy hyl hsw hi ok
    (fun s H D cl fp => ⟨fun pins s1 σ H1 v u Q I r ⟨e, q⟩ => (hg s H D cl fp e).run pins s1 σ H1 v u Q I r q⟩)
    (fun s H D cl fp => ⟨fun pins s1 σ H1 Q I ⟨e, q⟩ => (ht s H D cl fp e).run pins s1 σ H1 Q I q⟩)
    (fun s H D cl fp => ⟨fun pins s1 σ H1 Q I ⟨e, q⟩ => (he s H D cl fp e).run pins s1 σ H1 Q I q⟩) hs)
    fun D σ H h => by
      obtain ⟨g, s, r, q⟩ := h
      refine lc_rd (C := C) (mi := mi) (fun e v σ H Q z => ⟨e, z⟩) (fun e σ H Q z => ⟨e, z⟩) (fun e σ H Q z => ⟨e, z⟩) ⟨g, s, r, (Go.bindS (R := C.V1) (σ := σ) q).imp ?_⟩
      rintro x H1 ⟨m, s1, g1, mo, r1, rv, q1⟩
      exact q1.nx (r1.put rv)
end
end Ma
/-! Ma16: a law's end: its mirror gives True. -/
namespace Ma
open L2 PySem.Spec PySem PyProof.Rows
/-- the law's def, called at the heap behind the top, with the script and the empty tables known as T tells -/
theorem lawG {P : Program} {w : World} {T : Tab} {mg mb : Str → Option Value} {k : Nat} {fa a : Addr} {F : Fn} {s₁ : Shared} {vs : List Value} {ns : List Int} {hp : List Cell} {cs : List (Addr × Addr)}
    (KX : T.K.In s₁.heap) (hns : s₁.heap.Ns mainGlobals mg) (hb : s₁.heap.Ns builtinsNs mb) (hbb : ∀ x : Str, x ≠ "__name__" → mb x = bootBuiltins x) (hlim : s₁.heap.NoLimit) (hg : s₁.gens = #[])
    (hT : ∀ p ∈ cs, s₁.heap.get? p.2 = some (PySem.W.tabObj #[])) (nT : ∀ p ∈ cs, T.K.lookup p.2 = none) (hC : ∀ p ∈ cs, PySem.W.CodeHd s₁.heap p.1 p.2) (eT : T.tb.map (·.1) = cs.map (·.2)) (dT : (cs.map (·.2)).Nodup)
    (hbm : ∃ (bm : Addr) (ob : Obj), mg "__builtins__" = some (.ref bm) ∧ bm ≠ builtinsNs ∧ s₁.heap.get? bm = some ob ∧ ob.cls = .type "module" ∧ ob.dict = some builtinsNs ∧ ob.data = .plain)
    (ha : s₁.heap.get? a = some { cls := .type "list", data := .seq vs.toArray }) (hi : IntsAre vs ns) (hl : ns.length ≤ sizeLine) (hr : Room k callerA)
    (G : ∀ base : Heap, T.K.In base → base.Ns mainGlobals mg → (∀ p ∈ cs, LamX.TabB base mg p.1 p.2) → FnP P w mg base T k fa F) (hF : F [.scr ns] (cs.map fun _ => Cell.dead) = .ok (.bl true) hp) :
    codeAny (model P w) callerA (.call (.ref fa) ⟨[.ref a], []⟩) (fun r s' => r = .ok (.ret (.bool true)) ∧ OldK s₁.heap s'.heap ∧ s'.os = s₁.os ∧ AllBare s'.gens) s₁ := by
  have vints := vals_ints hi
  let scrO : Obj := { cls := .type "list", data := .seq vs.toArray }
  have isT : ∀ b ∈ cs.map (·.2), s₁.heap.get? b = some (PySem.W.tabObj #[]) := fun b hb => by
    obtain ⟨p, hp, rfl⟩ := List.mem_map.mp hb
    exact hT p hp
  have aT : a ∉ cs.map (·.2) := fun z => by
    have q := isT a z
    rw [ha] at q
    have q2 : Data.seq vs.toArray _ = Data.fields #[] := congrArg Obj.data (Option.some.inj q)
    cases q2
  have tbM : ∀ p ∈ T.tb, p.1 ∈ cs.map (·.2) := fun p hp => eT ▸ List.mem_map.mpr ⟨p, hp, rfl⟩
  -- H tracks the script at most, and the tables; gh: its ghosts
  have main : ∀ (H : Hp) (gh : Gh), gh.ro = cs.map (·.2) → (∀ b, gh.fz b → b = a ∧ ∃ o, H b = some o) → (∀ b o, H b = some o → (b = a ∧ o = .frz scrO (.lst (ns.map V.int))) ∨ (b ∈ cs.map (·.2) ∧ o = .tbl #[])) →
      (∀ b ∈ cs.map (·.2), H b = some (.tbl #[])) → HOk P w H s₁.heap → (H a ≠ none → T.K.lookup a = none) → RV T gh H (.scr ns) (.ref a) →
      codeAny (model P w) callerA (.call (.ref fa) ⟨[.ref a], []⟩) (fun r s' => r = .ok (.ret (.bool true)) ∧ OldK s₁.heap s'.heap ∧ s'.os = s₁.os ∧ AllBare s'.gens) s₁ := by
    intro H gh gro gfz only tabs hok notK rv
    have free : ∀ {b : Addr} {o : Obj}, s₁.heap.get? b = some o → o ≠ scrO → o ≠ PySem.W.tabObj #[] → H b = none := fun {b o} e ne nt => by
      cases q : H b with
      | none => rfl
      | some u =>
        rcases only b u q with ⟨rfl, _⟩ | ⟨z, _⟩
        · rw [ha] at e
          exact absurd (Option.some.inj e).symm ne
        · rw [isT b z] at e
          exact absurd (Option.some.inj e).symm nt
    have keepD : ∀ {b : Addr} {o : Obj}, s₁.heap.get? b = some o → (∀ xs n, o.data ≠ .seq xs n) → (∀ xs, o.data = .fields xs → xs.size ≠ 0) → (hidT s₁.heap H).get? b = some o := fun {b o} e h1 h2 =>
      hidT_get e (free e (fun z => by subst z; exact h1 _ _ rfl) (fun z => by subst z; exact h2 _ rfl rfl))
    have nsb : ∀ {b : Addr} {m : Str → Option Value}, s₁.heap.Ns b m → (hidT s₁.heap H).Ns b m := fun {b m} ⟨o, es, ep, e, d, r⟩ =>
      ⟨o, es, ep, keepD e (fun xs n z => by rw [d] at z; cases z) (fun xs z => by rw [d] at z; cases z), d, r⟩
    have kb : T.K.In (hidT s₁.heap H) := fun b o e => hidT_get (KX b o e) (by
      cases q : H b with
      | none => rfl
      | some u =>
        rcases only b u q with ⟨rfl, _⟩ | ⟨z, _⟩
        · rw [notK (by rw [q]; simp)] at e; cases e
        · obtain ⟨p, hp, rfl⟩ := List.mem_map.mp z
          rw [nT p hp] at e; cases e)
    have md : Mod T.K mg (hidT s₁.heap H) := ⟨kb, nsb hns, ⟨mb, nsb hb, hbb⟩, hlim.elim fun mc h => ⟨mc, nsb h.1, h.2⟩⟩
    have e0 : Env0 P w T.K mg (hidT s₁.heap H) callerA [] s₁ H := ⟨rfl, md, fun _ _ e => of_hidT e, Nat.le_of_eq (hidT_size _ _), trivial, fun b hb => (by cases hb), hok, .of_eq hg⟩
    have TB : ∀ p ∈ cs, LamX.TabB (hidT s₁.heap H) mg p.1 p.2 := fun p hp => by
      have hTp := hT p hp
      refine ⟨?_, ?_, fun z => ?_⟩
      · obtain ⟨o, us, file, tf, flags, tg, inF, text, tt, e1, r1, r2, r3, rest⟩ := hC p hp
        refine ⟨o, us, file, tf, flags, tg, inF, text, tt, keepD e1 (fun xs n z => by rw [r2] at z; cases z) (fun xs z => ?_), r1, r2, r3, rest⟩
        rw [r2] at z
        cases z
        intro y
        have := (Array.getElem?_eq_some_iff.mp r3).1
        omega
      · obtain ⟨bm, ob, b1, b2, b3, b4, b5, b6⟩ := hbm
        refine ⟨bm, ob, b1, b2, fun q => ?_, fun q => ?_, keepD b3 (fun xs n z => by rw [b6] at z; cases z) (fun xs z => by rw [b6] at z; cases z), b4, b5, b6⟩
        · obtain ⟨o, es, ep, e, hd, _⟩ := hns
          rw [q, e] at b3
          cases b3
          rw [hd] at b6
          cases b6
        · rw [q, hTp] at b3
          cases b3
          cases b6
      · obtain ⟨o, es, ep, e, hd, _⟩ := hns
        rw [z, hTp] at e
        cases e
        cases hd
    have rh : RelH T ⟨gh, H⟩ gh (cs.map fun _ => Cell.dead) H := by
      refine ⟨by rw [gro]; simp, by rw [gro]; exact dT, fun n c q h1 h2 => ?_, fun n c q h1 h2 ow => ?_, fun b f => (gfz b f).2, fun q h => ⟨_, tabs q (gro ▸ h)⟩, fun _ _ h _ => h, fun _ h => .inl h, fun q h => .inl h, Mono.refl _ _, ⟨fun p hp => ⟨?_, ?_, fun f => ?_⟩, fun b ps z => ?_, fun q h u z => ?_⟩, fun p hp => ?_⟩
      · rw [List.getElem?_map] at h1
        cases e : cs[n]? with
        | none => rw [e] at h1; cases h1
        | some y => rw [e] at h1; cases h1; trivial
      · rw [List.getElem?_map] at h1
        cases e : cs[n]? with
        | none => rw [e] at h1; cases h1
        | some y => rw [e] at h1; cases h1; exact ow.elim
      · exact LamX.TabS.nil (tabs _ (tbM p hp))
      · rw [gro]; exact tbM p hp
      · exact aT ((gfz _ f).1 ▸ tbM p hp)
      · rcases only b _ z with ⟨_, y⟩ | ⟨y, _⟩
        · cases y
        · rw [← eT] at y
          obtain ⟨p, hp, e⟩ := List.mem_map.mp y
          exact ⟨p, hp, e⟩
      · rw [tabs q (gro ▸ h)] at z
        cases z
        exact ⟨fun _ _ z => (by unfold LamX.CodeO at z; cases z), fun _ z => (by cases z)⟩
      · show p.1 ∈ gh.ro
        rw [gro]; exact tbM p hp
    have sp : spP T F [.ref a] H (fun v _ => v = .bl true) (fun _ _ _ => False) := ⟨gh, cs.map fun _ => Cell.dead, [.scr ns], rh, .cons rv .nil, by
      rw [hF]
      intro g' H' v _ r
      cases r
      rfl⟩
    refine codeAny_mono ((G _ kb (nsb hns) TB).run callerA [] s₁ H [.ref a] [.ref a] _ _ ⟨hr, rfl⟩ e0 (.cons rfl .nil) sp) fun r s' h => ?_
    cases r with
    | error e =>
      obtain ⟨_, _, _, _, _, _, _, _, _, _, _, _, z⟩ := (h : L2.CX P w [] H s₁ (fun _ _ _ => False) e s')
      exact z.elim
    | ok fl =>
      cases fl with
      | ret u =>
        obtain ⟨v, H', os, bare, un, hok', r', q⟩ := h
        have q' : v = .bl true := q
        subst q'
        obtain rfl : u = Value.bool true := r'
        have grown : ∀ p ∈ cs, ∃ more : Array Value, s'.heap.get? p.2 = some { cls := .none, data := .fields more } := fun p hp => by
          obtain ⟨more, z⟩ := un.tbls p.2 #[] (tabs _ (List.mem_map.mpr ⟨p, hp, rfl⟩))
          exact ⟨_, hok' p.2 _ z⟩
        have key : ∀ b o, b ∉ cs.map (·.2) → s₁.heap.get? b = some o → s'.heap.get? b = some o := fun b o nb e => by
          cases q : H b with
          | none => exact un.keep b o e q (fun z => by cases z) (fun z => by cases z)
          | some u =>
            rcases only b u q with ⟨rfl, rfl⟩ | ⟨z, _⟩
            · rw [ha] at e
              cases e
              exact (hok' _ _ (un.frzs _ _ _ q)).1
            · exact absurd z nb
        refine ⟨rfl, ⟨fun b o e => ?_, fun b o e => ?_⟩, os, bare⟩
        · by_cases hb : b ∈ cs.map (·.2)
          · obtain ⟨p, hp, rfl⟩ := List.mem_map.mp hb
            obtain ⟨more, hm⟩ := grown p hp
            rw [hT p hp] at e
            cases e
            exact .inr (.inl ⟨((hC p hp).tab (hT p hp)).isCodeTable, rfl, #[], more, rfl, (by rw [Array.empty_append]; exact hm)⟩)
          · exact .inl (key b o hb e)
        · by_cases hb : b ∈ cs.map (·.2)
          · obtain ⟨p, hp, rfl⟩ := List.mem_map.mp hb
            obtain ⟨more, hm⟩ := grown p hp
            exact ⟨_, hm⟩
          · exact ⟨o, key b o hb e⟩
      | next => exact h.elim
      | brk => exact h.elim
      | cont => exact h.elim
  cases hk : T.K.lookup a with
  | some o =>
    have e := KX a o hk
    rw [ha] at e
    cases e
    refine main (fun b => if b ∈ cs.map (·.2) then some (.tbl #[]) else none) ⟨cs.map (·.2), fun _ => False⟩ rfl (fun b h => h.elim) (fun b o h => ?_) (fun b h => if_pos h) (fun b u h => ?_) (fun h => absurd (if_neg aT) h) (.scrK fun H => ?_)
    · by_cases hb : b ∈ cs.map (·.2)
      · exact .inr ⟨hb, (Option.some.inj ((if_pos hb).symm.trans h)).symm⟩
      · cases (if_neg hb).symm.trans h
    · by_cases hb : b ∈ cs.map (·.2)
      · cases (if_pos hb).symm.trans h
        exact isT b hb
      · cases (if_neg hb).symm.trans h
    exact .inr ⟨_, vs.toArray, _, hk, rfl, rfl, rfl, by rw [List.size_toArray, hi.length]; exact hl, by simpa using vints⟩
  | none =>
    have at_ : (fun b => if b = a then some (HO.frz scrO (.lst (ns.map V.int))) else if b ∈ cs.map (·.2) then some (.tbl #[]) else none : Hp) a = some (.frz scrO (.lst (ns.map V.int))) := if_pos rfl
    refine main (fun b => if b = a then some (.frz scrO (.lst (ns.map V.int))) else if b ∈ cs.map (·.2) then some (.tbl #[]) else none) ⟨cs.map (·.2), fun b => b = a⟩ rfl (fun b h => ⟨h, by rw [show b = a from h]; exact ⟨_, if_pos rfl⟩⟩) (fun b o h => ?_) (fun b h => ?_) (fun b u h => ?_) (fun _ => hk) (.scr rfl at_)
    · by_cases hb : b = a
      · exact .inl ⟨hb, (Option.some.inj ((if_pos hb).symm.trans h)).symm⟩
      · have h := (if_neg hb).symm.trans h
        by_cases hb2 : b ∈ cs.map (·.2)
        · exact .inr ⟨hb2, (Option.some.inj ((if_pos hb2).symm.trans h)).symm⟩
        · cases (if_neg hb2).symm.trans h
    · have hb : b ≠ a := fun z => aT (z ▸ h)
      exact (if_neg hb).trans (if_pos h)
    · by_cases hb : b = a
      · cases (if_pos hb).symm.trans h
        subst hb
        exact ⟨ha, by rw [List.length_map]; exact hl, vs, _, vints, ha⟩
      · have h := (if_neg hb).symm.trans h
        by_cases hb2 : b ∈ cs.map (·.2)
        · cases (if_pos hb2).symm.trans h
          exact isT b hb2
        · cases (if_neg hb2).symm.trans h
theorem walkT {l : PySem.W.OpenLaw} {n k : Nat} {q : Program} {loose : List Str} {XP : (Str → Option Value) → Heap → Prop} {YP : World → Heap → Prop} {d : DefRec}
    (hn : l.most = some n) (hn2 : n ≤ sizeLine) (hdf : d.params.defaults = []) (hr : Room k callerA)
    (F : ∀ (w : World) (mg : Str → Option Value) (fa : Addr) (h : Heap), YP w h → h.Ns mainGlobals mg → mg d.name = some (.ref fa) →
      ∃ (T : Tab) (cs : List (Addr × Addr)) (Fm : Fn), T.K.In h ∧ (∀ p ∈ cs, h.get? p.2 = some (PySem.W.tabObj #[])) ∧ (∀ p ∈ cs, T.K.lookup p.2 = none) ∧ (∀ p ∈ cs, PySem.W.CodeHd h p.1 p.2) ∧ T.tb.map (·.1) = cs.map (·.2) ∧ (cs.map (·.2)).Nodup ∧
        (∀ ns : List Int, ns.length ≤ n → ∃ hp, Fm [.scr ns] (cs.map fun _ => Cell.dead) = .ok (.bl true) hp) ∧
        ∀ base : Heap, T.K.In base → base.Ns mainGlobals mg → (∀ p ∈ cs, LamX.TabB base mg p.1 p.2) → FnP l.prog w mg base T k fa Fm) :
    PySem.W.WalkO q loose XP YP l.row.toRowW d [] (fun f vs => PySem.call f vs) := by
  refine Att.attach_callB hn hdf fun w s₀ s₁ mg mb fa o pm cd doc a vs ns Gr Y ho hd hcd hmg hobj hints hlen hbits hg => ?_
  obtain ⟨T, cs, Fm, KX, hT, nT, hC, eT, dT, hsp, hF⟩ := F w mg fa _ Y Gr.T.g hmg
  obtain ⟨hp, e⟩ := hsp ns hlen
  exact lawG KX Gr.T.g Gr.T.b Gr.T.builtins Gr.T.nolimit hg hT nT hC eT dT Gr.T.bmain hobj hints (Nat.le_trans hlen hn2) hr hF e
end Ma
/-! Ma17: defs with *args; instances: made, their fields, their methods. -/
namespace Ma
open L2 PySem.Spec PySem PyProof.Rows
section
variable {P : Program} {w : World} {mg : Str → Option Value} {base : Heap} {T : Tab}
/-- def f(a, .., *v): what is left over in a tuple -/
def starF (n : Nat) (F : Fn) : Fn := fun args hp => if n ≤ args.length ∧ args.length ≤ big then F (args.take n ++ [.tup (args.drop n)]) hp else .stuck
theorem rdS_start {C : MC} {n len : Nat} {b : MStm} {N : List Str} {Q : VK} {E : XK} {g : Gh} {H : Hp} {hp : List Cell} {as : List M} {vs : List V} (hC : C.e = ⟨g, H⟩) (hW : C.W = fun cls d _ H' => E cls d H') (hN : N.length = len) (hn : as.length = n) (hnl : n ≤ len)
    (rh : RelH C.T ⟨g, H⟩ g hp H) (rs : RVs C.T g H as vs) (go : GoF C.T g H (bodyF n len b as hp) Q E) : rdS C b { nx := fun _ H' => Q .non H', rt := Q } (L2.start N vs) H := by
  refine ⟨g, ⟨as.map some ++ List.replicate (len - n) none, hp⟩, ?_, ?_⟩
  · show Rel C.T C.e _ _ _ _
    rw [hC]
    refine ⟨rh, ?_, fun i m v h1 h2 => ?_⟩
    · unfold L2.start
      simp [rs.length, hN, ← hn]
    · have h1 : (as.map some ++ List.replicate (len - n) none)[i]? = some (some m) := h1
      unfold L2.start at h2
      by_cases hi : i < as.length
      · rw [List.getElem?_append_left (by simpa using hi), List.getElem?_map] at h1
        rw [List.getElem?_append_left (by simpa [← rs.length] using hi), List.getElem?_map] at h2
        cases ha : as[i]? with
        | none => rw [ha] at h1; cases h1
        | some m' =>
          rw [ha] at h1
          cases h1
          obtain ⟨x, hx, rx⟩ := rs.get ha
          rw [hx] at h2
          cases h2
          exact ⟨x, rfl, rx⟩
      · rw [List.getElem?_append_right (by simpa using Nat.le_of_not_lt hi), List.getElem?_replicate] at h1
        split at h1 <;> cases h1
  · unfold bodyF at go
    cases hm : b ⟨as.map some ++ List.replicate (len - n) none, hp⟩ with
    | stuck => rw [hm] at go; exact go.elim
    | err x s1 =>
      rw [hm] at go
      intro g' H' σ' cls d mo rl xr
      rw [hW]
      have rl : Rel C.T C.e g' s1 σ' H' := rl
      rw [hC] at rl
      exact go g' H' cls d rl.h xr
    | ok fl s1 =>
      rw [hm] at go
      cases fl with
      | nx =>
        intro g' H' σ' mo rl
        have rl : Rel C.T C.e g' s1 σ' H' := rl
        rw [hC] at rl
        exact go g' H' .non rl.h .non
      | rt m =>
        intro g' H' σ' v mo rl rv
        have rl : Rel C.T C.e g' s1 σ' H' := rl
        rw [hC] at rl
        exact go g' H' v rl.h rv
      | bk => exact go.elim
      | ct => exact go.elim
theorem fnP_star {x qual : Str} {st : Stmt} {f : Addr} {fd : FuncData} {N ps : List Str} {pv : Str} {k : Nat} {b : MStm} (F : Fun T.K x qual st f fd) (S : FnScope N (ps ++ [pv]) (defScope st))
    (hbd : ∀ (kV doc pm : Value) (an : Option Addr) (cdv ct : Value) (us rest : List Value), us.length = ps.length → bindArgs (PySem.W.fnOf x qual (defArgs st) (defBody st) (defScope st) .none kV doc pm an cdv ct) ⟨us ++ rest, []⟩ = (newTuple rest >>= fun t => pure (ps.zip us ++ [(pv, t)])))
    (hb : ∀ (cdv : Value) (A : Around) (outer : List Env) (s : Shared) (H : Hp) (E : XK) (g : Gh), RoomG k (A.deeper (envOfC qual (defScope st) s.heap.objs.size f cdv)) → PMb (cAt P w mg base T N qual (defScope st) f cdv A outer s H E g) (defBody st) b) :
    FnP P w mg base T (k + 1) f (starF ps.length (bodyF (ps.length + 1) N.length b)) := by
  refine ⟨fun A outer s H us vs Q E hr e0 rv ⟨g, hp, args, rh, rs, go⟩ => ?_⟩
  obtain ⟨oc, od, kV, doc, pm, an, cdv, ct, osl, rfl, lk, hcd⟩ := F.ex
  unfold starF at go
  by_cases hl : ps.length ≤ args.length ∧ args.length ≤ big
  · rw [if_pos hl] at go
    have hvl : ps.length ≤ vs.length := by rw [← rs.length]; exact hl.1
    have hul : ps.length ≤ us.length := by rw [← rv.length]; exact hvl
    have hn : H s.heap.objs.size = none := e0.hok.fresh (Nat.le_refl _)
    have hz : (vs.drop ps.length).length ≤ sizeLine := by rw [List.length_drop, ← rs.length]; exact big_le (by omega)
    have r1 := rv.take ps.length
    have r2 := rv.drop ps.length
    have eu : us.take ps.length ++ us.drop ps.length = us := List.take_append_drop _ _
    have hl1 : (us.take ps.length).length = ps.length := by rw [List.length_take]; omega
    have hnl : (ps ++ [pv]).length ≤ N.length := by
      have := congrArg List.length S.pre
      rw [List.length_take] at this
      omega
    refine StX.run_bnd (G := fun xs H2 => ∃ p, H p = none ∧ xs = vs.take ps.length ++ [V.ref p] ∧ H2 = upd H p (.tup (vs.drop ps.length))) lk hcd S hr.toRoom e0 (fun A' Ex Q' h => ?_) fun s2 H2 xs ⟨p, hp', ex, eH⟩ hr' => ?_
    · have hbi := hbd kV doc pm an cdv ct (us.take ps.length) (us.drop ps.length) hl1
      rw [eu] at hbi
      rw [hbi]
      refine wpAny_bind (wpAny_newTuple (wpAny_pure ?_) (by rw [← r2.length]; exact hz))
      have new : ObjOk P w (upd H s.heap.objs.size (.tup (vs.drop ps.length))) (s.heap.push ({ cls := .type "tuple", data := .seq (us.drop ps.length).toArray } : Obj)) s.heap.objs.size (.tup (vs.drop ps.length)) := ⟨hz, _, r2, ⟨_, Heap.get?_push_size _ rfl, rfl, _, rfl⟩⟩
      have un := StX.un_laid (fs := frs outer) (s := s) (o := ({ cls := .type "tuple", data := .seq (us.drop ps.length).toArray } : Obj)) (u := .tup (vs.drop ps.length)) hn
      have z := h _ _ (vs.take ps.length ++ [V.ref s.heap.objs.size]) (us.take ps.length ++ [Value.ref s.heap.objs.size]) (StX.env0_laid e0 new) un rfl (fun e s' => StX.cxUp outer s H _ _ E e s' un (fun b o q => Heap.get?_push_of_some _ q) rfl) (r1.append (.cons rfl .nil))
        (by rw [List.length_append, List.length_append, List.length_take]; simp; omega) ⟨_, hn, rfl, rfl⟩
      rw [List.zip_append hl1.symm] at z
      exact z
    · subst ex eH
      have mo := mono_laid (o := .tup (vs.drop ps.length)) rh hp'
      have rh2 : RelH T ⟨g, upd H p (.tup (vs.drop ps.length))⟩ g hp (upd H p (.tup (vs.drop ps.length))) := (rh.laid hp').self
      have rs2 : RVs T g (upd H p (.tup (vs.drop ps.length))) (args.take ps.length ++ [.tup (args.drop ps.length)]) (vs.take ps.length ++ [V.ref p]) := ((rs.mono mo).take _).app (.cons (.tup upd_same ((rs.mono mo).drop _)) .nil)
      have big := hb cdv A outer s2 (upd H p (.tup (vs.drop ps.length))) E g ⟨hr', hr.gs⟩
      refine ⟨_, big, rdS_start (E := E) rfl rfl rfl ?_ (by simpa using hnl) rh2 rs2 ?_⟩
      · simp; omega
      · -- what follows, told from the heap ahead of the tuple
        cases hf : bodyF (ps.length + 1) N.length b (args.take ps.length ++ [.tup (args.drop ps.length)]) hp with
        | stuck => rw [hf] at go; exact go.elim
        | ok m hp2 => rw [hf] at go; exact fun g' H' v rl rv => go g' H' v ((rh.laid hp').comp rl) rv
        | err e hp2 => rw [hf] at go; exact fun g' H' cls d rl xr => go g' H' cls d ((rh.laid hp').comp rl) xr
  · rw [if_neg hl] at go; exact go.elim
end
end Ma
/-! Ma18: exceptions as values. -/
namespace Ma
open L2 PySem.Spec PySem PyProof.Rows
/-- an own kind of ValueError that has no `__init__` -/
structure ExK (K : PySem.W.Frag) (C : Addr) : Prop where
  ini : PySem.W.findIn K (.ref C) "__init__" = some (some (.builtin "ValueError.__init__"))
  ex : PySem.W.excInitIn K C [.type "ValueError", .type "Exception", .type "BaseException", .type "object"] "ValueError.__new__" = true
  kp : PySem.W.keepIn K (.ref C) = true
end Ma
/-! Ma19: fields; isinstance. -/
namespace Ma
open L2 PySem.Spec PySem PyProof.Rows
section
variable {C : MC} {g g1 : Gh} {H H1 : Hp} {s : MS} {σ : L2.St} {ex ea eb ec : Expr} {es : List Expr} {a b c : ME} {ma : MA} {pos p : Pos} {x n f : Str} {A : Addr} {T : Tab}
theorem RFs.look {fs : List (Str × M)} {vs : List (Str × V)} {y : M} (r : RFs T g H fs vs) (h : fs.lookup f = some y) : ∃ v, vs.lookup f = some v ∧ RV T g H y v := by
  induction r with
  | nil => cases h
  | @cons k m v fs vs q t ih =>
    rw [List.lookup_cons] at h ⊢
    cases hk : f == k with
    | true =>
      rw [hk] at h
      cases h
      exact ⟨v, rfl, q⟩
    | false =>
      rw [hk] at h
      exact ih h
theorem RVs.zip : ∀ {ns : List Str} {ms : List M} {vs : List V}, RVs T g H ms vs → RFs T g H (ns.zip ms) (ns.zip vs)
  | [], _, _, _ => .nil
  | _ :: _, _, _, .nil => .nil
  | _ :: ns, _, _, .cons r t => .cons r (RVs.zip (ns := ns) t)
/-- fields read -/
def fldM (is xs : List Str) (f : Str) (hp : List Cell) : M → Option M
  | .exn c ns ms => if xs.contains c then (ns.zip ms).lookup f else none
  | .box n => match hp[n]? with
    | some (.ins c fms) => if is.contains c then fms.lookup f else none
    | _ => none
  | _ => none
def oFld (is xs : List Str) (f : Str) (m : M) (s : MS) : Res M := match fldM is xs f s.hp m with
  | some y => .ok y s
  | none => .stuck
def mFld (is xs : List Str) (f : Str) (a : ME) : ME := fun s => (a s).bind (oFld is xs f)
theorem fld_exn {K : PySem.W.Frag} {P : Program} {w : World} {hp : Heap} {a C : Addr} {d : Addr} {fs : List (Str × V)} {v : V} (kin : K.In hp) (hok : HOk P w H hp)
    (h1 : H a = some (XO (.ref C) (some d) a)) (h2 : H d = some (.xd fs)) (X : XfC K C) (hn : PySem.W.findIn K (.ref C) f = some none) (hl : fs.lookup f = some v) {M1 : Around} {E : Value → Shared → Prop} {Q : Value → Shared → Prop} {sh : Shared} (hsh : sh.heap = hp)
    (q : ∀ u, RelV v u → Q u { sh with toks := sh.toks + 1 }) : wpAny (model P w) M1 (getAttr (.ref a) f true) Q E sh := by
  have z := hok _ _ h1
  simp only [ObjOk, XO] at z
  obtain ⟨⟨oe, ws, e1, ⟨e2, e3⟩, e4⟩, -, -⟩ := z
  have z2 := hok _ _ h2
  simp only [ObjOk] at z2
  obtain ⟨mA, n1, rl⟩ := z2
  obtain ⟨od, e5, lk⟩ := lookIn_ns n1
  have rf := rl f
  rw [hl] at rf
  cases hm : mA f with
  | none => rw [hm] at rf; exact rf.elim
  | some u =>
    rw [hm] at rf
    subst hsh
    refine HandSPX.exc_get (C := C) (ox := oe) (od := some od) (gt := none) kin ⟨e1, e2, ?_, ?_⟩ X.ga X.gg X.exC (PySem.W.findObj_own X.hdC hn rfl ((lk f).trans (congrArg some hm))) (handed_of rf) (q u rf)
    · unfold PySem.W.notCls; rw [e4]
    · rw [e3]; exact e5
theorem em_fld {is xs : List Str} (hi : ∀ c ∈ is, ∀ A, C.T.ad c = some A → Cls C.T.K A ∧ NoAttr C.T.K A f) (hx : ∀ c ∈ xs, ∀ A, C.T.ad c = some A → XfC C.T.K A ∧ PySem.W.findIn C.T.K (.ref A) f = some none)
    (h : PMe C ex a) (hb : attributeBase ex f C.X.env (eval ex C.X.env) = eval ex C.X.env := by rfl) : PMe C (.Attribute ex f pos) (mFld is xs f a) := by
  refine ⟨fun pins sh σ H Q I q => attr_of hb (thn (h.run pins sh σ H _ I (rdE_bind q)) fun u s1 hh => ?_)⟩
  obtain ⟨x, H1, I1, rv, m, s2, g1, r1, rm, q1⟩ := hh
  unfold oFld at q1
  cases hf : fldM is xs f s2.hp m with
  | none => rw [hf] at q1; exact q1.elim
  | some y =>
    rw [hf] at q1
    have kin : C.T.K.In s1.heap := C.hK ▸ I1.kIn
    cases rm with
    | @exn a A c ns ms vs ad xa rs =>
      obtain rfl : u = .ref a := rv
      simp only [fldM] at hf
      split at hf
      case isFalse => cases hf
      case isTrue hc =>
        obtain ⟨X, hn⟩ := hx c (List.contains_iff_mem.mp hc) A ad
        obtain ⟨hl, -, d, hd, z⟩ := xa
        cases d with
        | none =>
          subst z
          cases hf
        | some dx =>
          obtain ⟨v, lv, rv2⟩ := (rs.zip (ns := ns)).look hf
          exact fld_exn kin I1.hok hd z.2 X hn lv rfl fun u ru => ⟨v, H1, I1.kept (h' := s1.heap) (t' := s1.toks + 1) (fun b o e => e), ru, q1.ret r1 rv2⟩
    | @box n a e =>
      obtain rfl : u = .ref a := rv
      simp only [fldM] at hf
      cases hc : s2.hp[n]? with
      | none => rw [hc] at hf; cases hf
      | some cl =>
        rw [hc] at hf
        cases cl with
        | lst ms => cases hf
        | dK ms => cases hf
        | dF ms => cases hf
        | tP ms => cases hf
        | dead => cases hf
        | ins c fms =>
          dsimp only at hf
          split at hf
          case isFalse => cases hf
          case isTrue hcc =>
            obtain ⟨A, dx, fvs, ad, ha, rf⟩ := r1.h.cell n _ a hc e
            obtain ⟨k1, k2⟩ := hi c (List.contains_iff_mem.mp hcc) A ad
            obtain ⟨v, lv, rv2⟩ := rf.look hf
            exact getattr_ok I1 ha (C.hK ▸ k1) (C.hK ▸ k2) lv fun u s' I2 ru => ⟨v, H1, I2, ru, q1.ret r1 rv2⟩
    | _ => cases hf
end
end Ma
/-! Ma20: isinstance. -/
namespace Ma
open L2 PySem.Spec PySem PyProof.Rows
/-- a class: an own one or a built-in one -/
inductive Tg
  | own (c : Str)
  | bi (n : String)
deriving DecidableEq
def Tg.At (T : Tab) : Tg → Value → Prop
  | .own c, v => ∃ A, T.ad c = some A ∧ v = .ref A
  | .bi n, v => v = .type n
def tgOf (is xs : List Str) (hp : List Cell) : M → Option Tg
  | .non => some (.bi "NoneType")
  | .bl _ => some (.bi "bool")
  | .int _ => some (.bi "int")
  | .str _ => some (.bi "str")
  | .byt _ => some (.bi "bytes")
  | .tup _ => some (.bi "tuple")
  | .lst _ => some (.bi "list")
  | .dct _ _ => some (.bi "dict")
  | .exn c _ _ => if xs.contains c then some (.own c) else none
  | .box n => match hp[n]? with
    | some (.lst _) => some (.bi "list")
    | some (.dK _) => some (.bi "dict")
    | some (.ins c _) => if is.contains c then some (.own c) else none
    | _ => none
  | _ => none
def clOf : M → Option Tg
  | .cls c => some (.own c)
  | .ty n => some (.bi n)
  | _ => none
def cIsi (is xs : List Str) (isi : Tg → Tg → Option Bool) (ms : List M) (s : MS) : Res M := match ms with
  | [x, c] => match tgOf is xs s.hp x, clOf c with
    | some t, some u => match isi t u with
      | some b => .ok (.bl b) s
      | none => .stuck
    | _, _ => .stuck
  | _ => .stuck
/-- what isinstance asks of an instance's class -/
structure InsK (K : PySem.W.Frag) (A : Addr) : Prop where
  c : Cls K A
  ha : PySem.W.findIn K (.ref A) "__class__" = some (some (.builtin "object.__class__"))
  hn : PySem.W.specialIn K (.builtin "object.__class__") "__get__" = some (some (.builtin "getset_descriptor.__get__"))
  ht : PySem.W.takesIn K (.builtin "object.__class__") = some true
  hm : PySem.W.mroIn K A (.type "object") = some true
def rIsX (K : PySem.W.Frag) : RC := fun xs H Q => ∃ (a A : Addr) (d : Option Addr) (c : V) (cv : Value) (b : Bool), xs = [.ref a, c] ∧ H a = some (XO (.ref A) d a) ∧ (match d with | none => True | some dx => ∃ fs, H dx = some (.xd fs)) ∧ L2.ExcC K A ∧ ClsV c cv ∧ PySem.W.kitOne K (.ref A) cv = some b ∧ Q (.bl b) H
theorem call_isX {X : Cx} : CallR X (.builtin "isinstance") (rIsX X.K) := by
  intro pins s σ H xs us Q I rv ⟨a, A, d, c, cv, b, hx, ha, hd, E, hc, hk, q⟩
  subst hx
  cases rv with
  | cons r1 r2 =>
    cases r2 with
    | cons r2 r3 =>
      cases r3
      rename_i u w
      obtain rfl : u = .ref a := r1
      obtain rfl := hc.eq r2
      have z := I.hok _ _ ha
      simp only [ObjOk, XO] at z
      obtain ⟨⟨oe, ws, e1, ⟨e2, e3⟩, e4⟩, -, -⟩ := z
      have hno : PySem.W.notCls oe = true := by unfold PySem.W.notCls; rw [e4]
      have hcl : (PySem.W.clsIn X.K A).isSome = true := by
        have h := E.hd
        unfold PySem.W.hasDictIn at h
        cases hc : PySem.W.clsIn X.K A with
        | none => rw [hc] at h; simp at h
        | some _ => rfl
      have fin : ∀ tk : Nat, EP X pins σ Q (.bool b) { heap := s.heap, gens := s.gens, drawn := s.drawn, toks := tk, os := s.os } := fun tk => ⟨.bl b, H, I.kept (h' := s.heap) (t' := tk) (fun _ _ e => e), rfl, q⟩
      have kit : ∀ od : Option Obj, PySem.W.InstAt s.heap a oe A od → wpAny (model X.prog X.w) X.A (call (.builtin "isinstance") [.ref a, w]) (EP X pins σ Q) X.xe s := fun od i =>
        PySem.W.kia_one (PySem.W.kitx_exc (ox := oe) (od := od) hcl E.hg E.hk E.hs E.ha E.hn E.ht E.hm) I.kIn i hk (by simp) fin
      cases d with
      | none => exact kit none ⟨e1, e2, hno, by rw [e3]; trivial⟩
      | some dx =>
        obtain ⟨fs, hf⟩ := hd
        have z2 := I.hok _ _ hf
        simp only [ObjOk] at z2
        obtain ⟨mA, n1, -⟩ := z2
        obtain ⟨od, e5, -⟩ := lookIn_ns n1
        exact kit (some od) ⟨e1, e2, hno, by rw [e3]; exact e5⟩
section
variable {C : MC} {g g1 : Gh} {H H1 : Hp} {s : MS} {σ : L2.St} {is xs : List Str} {isi : Tg → Tg → Option Bool}
theorem clOf_at {c : M} {v : V} {u : Tg} (h : clOf c = some u) (r : RV C.T g H c v) : ∃ cv, ClsV v cv ∧ u.At C.T cv := by
  cases r with
  | cls e => cases h; exact ⟨_, .own _, _, e, rfl⟩
  | ty n => cases h; exact ⟨_, .ty n, rfl⟩
  | _ => cases h
theorem ok_isi (hi : ∀ c ∈ is, ∀ A, C.T.ad c = some A → InsK C.X.K A) (hx : ∀ c ∈ xs, ∀ A, C.T.ad c = some A → L2.ExcC C.X.K A)
    (hk : ∀ t u b, isi t u = some b → ∀ tv uv, t.At C.T tv → u.At C.T uv → PySem.W.kitOne C.X.K tv uv = some b) :
    CallOk C (fun ys H Q => rIsi C.X.K ys H Q ∨ rIsX C.X.K ys H Q) (cIsi is xs isi) := fun σ H g s ms ys Q r rs h => by
  unfold cIsi at h
  split at h
  case h_2 => exact h.elim
  case h_1 x c =>
    split at h
    case h_2 => exact h.elim
    case h_1 t u ht hu =>
      split at h
      case h_2 => exact h.elim
      case h_1 b hb =>
        cases rs with
        | cons r1 r2 =>
          cases r2 with
          | cons r2 r3 =>
            cases r3
            obtain ⟨cv, hc, hu2⟩ := clOf_at hu r2
            have kk := fun tv h1 => hk t u b hb tv cv h1 hu2
            have done := h.same r (.bl b)
            have base : ∀ {n : String} {v : V}, t = .bi n → TyX C.X.K H v (.type n) → ∃ (x c : V) (t u : Value) (b : Bool), [v, _] = [x, c] ∧ ClsV c u ∧ TyX C.X.K H x t ∧ PySem.W.kitOne C.X.K t u = some b ∧ Q (.bl b) H := fun {n v} e ty => ⟨v, _, .type n, cv, b, rfl, hc, ty, kk _ (by subst e; rfl), done⟩
            cases r1 with
            | non => cases ht; exact .inl (base rfl (.base .non))
            | bl k => cases ht; exact .inl (base rfl (.base (.bl _)))
            | int k => cases ht; exact .inl (base rfl (.base (.int _)))
            | str k => cases ht; exact .inl (base rfl (.base (.str _)))
            | byt k => cases ht; exact .inl (base rfl (.byt _))
            | tup e q => cases ht; exact .inl (base rfl (.base (.tup e)))
            | lst f e q => cases ht; exact .inl (base rfl (.base (.lst e)))
            | dct f l e q => cases ht; exact .inl (base rfl (.fDict e))
            | scr f e => cases ht
            | scrK e => cases ht
            | @exn a A c ns ms vs ad xa rr =>
              simp only [tgOf] at ht
              split at ht
              case isFalse => cases ht
              case isTrue hcc =>
                cases ht
                obtain ⟨hl, hf, d, hd, z⟩ := xa
                refine .inr ⟨a, A, d, _, cv, b, rfl, hd, ?_, hx c (List.contains_iff_mem.mp hcc) A ad, hc, kk _ ⟨A, ad, rfl⟩, done⟩
                cases d with
                | none => trivial
                | some dx => exact ⟨_, z.2⟩
            | cls e => cases ht
            | ty n => cases ht
            | raw a => cases ht
            | set f e => cases ht
            | @box n a e =>
              simp only [tgOf] at ht
              cases hcl : s.hp[n]? with
              | none => rw [hcl] at ht; cases ht
              | some cl =>
                rw [hcl] at ht
                cases cl with
                | lst ms =>
                  cases ht
                  obtain ⟨vs, ha, rf⟩ := r.h.cell n _ a hcl e
                  exact .inl (base rfl (.base (.lst ha)))
                | dK ms =>
                  cases ht
                  obtain ⟨vs, ha, rf⟩ := r.h.cell n _ a hcl e
                  exact .inl (base rfl (.base (.dK ha)))
                | tP ms => cases ht
                | dead => cases ht
                | dF ms => cases ht
                | ins c fms =>
                  dsimp only at ht
                  split at ht
                  case isFalse => cases ht
                  case isTrue hcc =>
                    cases ht
                    obtain ⟨A, dx, fvs, ad, ha, rf⟩ := r.h.cell n _ a hcl e
                    have k := hi c (List.contains_iff_mem.mp hcc) A ad
                    exact .inl ⟨_, _, _, cv, b, rfl, hc, .base (.ins ha k.c k.ha k.hn k.ht k.hm), kk _ ⟨A, ad, rfl⟩, done⟩
end
end Ma
/-! Ma21: count, index, all, any of lists. -/
namespace Ma
open L2 PySem.Spec PySem PyProof.Rows
section
variable {C : MC} {g g1 : Gh} {H H1 : Hp} {s : MS} {σ : L2.St} {ex ea eb ec : Expr} {es : List Expr} {a b c : ME} {ma : MA} {pos p apos cpos : Pos} {x n f : Str} {A : Addr} {T : Tab}
/-- all and any of a list of bools -/
def blsOf : List M → Option (List Bool)
  | [] => some []
  | .bl b :: ms => (blsOf ms).map (b :: ·)
  | _ => none
theorem blsOf_at : ∀ {ms : List M} {vs : List V} {bs : List Bool}, RVs T g H ms vs → blsOf ms = some bs → vs = bs.map V.bl
  | _, _, _, .nil, h => by cases h; rfl
  | _, _, bs, @RVs.cons _ _ _ m v ms vs r rs, h => by
    cases r with
    | bl b =>
      simp only [blsOf] at h
      cases hb : blsOf ms with
      | none => rw [hb] at h; cases h
      | some cs =>
        rw [hb] at h
        cases h
        rw [blsOf_at rs hb]; rfl
    | _ => cases h
def cAll (any : Bool) (ms : List M) (s : MS) : Res M := match ms with
  | [x] => match (seqL s.hp x).bind blsOf with
    | some bs => .ok (.bl (if any then bs.any id else bs.all id)) s
    | none => .stuck
  | _ => .stuck
theorem cAll_at {any : Bool} {ms : List M} {xs : List V} {Q : VK} (r : C.rel g s σ H) (rs : RVs C.T g H ms xs) (h : Go C C.V1 σ (cAll any ms s) g H Q) : ∃ (a : Addr) (bs : List Bool), xs = [V.ref a] ∧ SqL C.X.K H a (bs.map V.bl) ∧ Q (.bl (if any then bs.any id else bs.all id)) H := by
  unfold cAll at h
  split at h
  case h_2 => exact h.elim
  case h_1 x =>
    split at h
    case h_2 => exact h.elim
    case h_1 bs hb =>
      cases hl : seqL s.hp x with
      | none => rw [hl] at hb; cases hb
      | some ys =>
        rw [hl] at hb
        cases rs with
        | cons r1 r2 =>
          cases r2
          obtain ⟨q, vs, rfl, hq, rr⟩ := seqL_at r hl r1
          exact ⟨q, bs, rfl, blsOf_at rr hb ▸ hq, h.same r (.bl _)⟩
theorem ok_all : CallOk C (rAll C.X.K) (cAll false) := fun σ H g s ms xs Q r rs h => cAll_at r rs h
end
end Ma
/-! Ma22: repr of data. -/
namespace Ma
open L2 PySem.Spec PySem PyProof.Rows
def rReprD (K : PySem.W.Frag) : RC := fun xs H Q => ∃ (a : Addr) (d : PyData), xs = [.ref a] ∧ Dp K H (.ref a) d ∧ d.showable = true ∧ d.hasDict = false ∧ d.depth ≤ 64 ∧ d.shown.length ≤ sizeLine ∧ Q (.str d.shown) H
theorem call_reprD {X : Cx} (hg : X.A.guards = some []) (hu : X.A.units + 65 < cLine) : CallR X (.builtin "repr") (rReprD X.K) := by
  intro pins s σ H xs us Q I rv ⟨a, d, hx, d1, h1, h2, h3, h4, q⟩
  subst hx
  cases rv with
  | cons r1 r2 =>
    cases r2
    rename_i u
    obtain rfl : u = .ref a := r1
    obtain ⟨as, k1⟩ := Dp.reads I _ _ _ d1 rfl
    refine repr_of_reads' k1 h1 (fun h => by rw [h2] at h; cases h) hg (by omega) (fun _ _ e => e) (fun h' u tk keep => ⟨.str _, H, I.kept (h' := h') (t' := tk) keep, ⟨_, rfl⟩, q⟩) h4
section
variable {C : MC} {g g1 : Gh} {H H1 : Hp} {s : MS} {σ : L2.St}
def isSeqD : PyData → Bool
  | .list _ => true
  | .tuple _ => true
  | _ => false
def cRepr (ms : List M) (s : MS) : Res M := match ms with
  | [.int i] => if i.natAbs.log2 < 1920 then .ok (.str (toString i)) s else .stuck
  | [x] => match datT s.hp x with
    | some d => if (isSeqD d && d.showable && !d.hasDict && decide (d.depth ≤ 64) && decide (d.shown.length ≤ sizeLine)) = true then .ok (.str d.shown) s else .stuck
    | none => .stuck
  | _ => .stuck
theorem Dp.seq {K : PySem.W.Frag} {x : V} {d : PyData} (h : Dp K H x d) (hd : isSeqD d = true) : ∃ a, x = .ref a := by
  cases h <;> first | exact ⟨_, rfl⟩ | cases hd
theorem ok_repr : CallOk C (fun xs H Q => (∃ i, xs = [.int i] ∧ i.natAbs.log2 < 1920 ∧ Q (.str (toString i)) H) ∨ rReprD C.X.K xs H Q) cRepr := fun σ H g s ms xs Q r rs h => by
  unfold cRepr at h
  split at h
  case h_1 i =>
    by_cases hb : i.natAbs.log2 < 1920
    · rw [if_pos hb] at h
      cases rs with
      | cons r1 r2 => cases r2; cases r1; exact .inl ⟨i, rfl, hb, h.same r (.str _)⟩
    · rw [if_neg hb] at h; exact h.elim
  case h_3 => exact h.elim
  case h_2 x _ =>
    split at h
    case h_2 => exact h.elim
    case h_1 d hd =>
      by_cases hb : (isSeqD d && d.showable && !d.hasDict && decide (d.depth ≤ 64) && decide (d.shown.length ≤ sizeLine)) = true
      · rw [if_pos hb] at h
        simp only [Bool.and_eq_true, decide_eq_true_eq, Bool.not_eq_true'] at hb
        obtain ⟨⟨⟨⟨h0, h1⟩, h2⟩, h3⟩, h4⟩ := hb
        cases rs with
        | cons r1 r2 =>
          cases r2
          have d1 := datT_dp r r1 hd
          obtain ⟨a, rfl⟩ := Dp.seq d1 h0
          exact .inr ⟨a, d, rfl, d1, h1, h2, h3, h4, h.same r (.str _)⟩
      · rw [if_neg hb] at h; exact h.elim
end
end Ma
/-! Ma23: names of the text: numbers, classes; built-in types. -/
namespace Ma
open L2 PySem.Spec PySem PyProof.Rows
section
variable {C : MC} {g g1 : Gh} {H H1 : Hp} {s : MS} {σ : L2.St} {pos : Pos} {x c : Str} {A : Addr}
theorem em_gi {i : Int} (h : ∃ t, C.X.mg x = some (.int i t)) (hg : Gl C.X x := by rfl) (hdb : (x == ("__debug__" : Str)) = false := by decide) : PMe C (.Name x pos) (mc (.int i)) := by
  obtain ⟨t, h⟩ := h
  exact wkE (pe_glob (v := .int i) hg h ⟨t, rfl⟩ hdb) fun σ H Q ⟨g, s, r, q⟩ => q.ret r (.int _)
theorem em_cls (ad : C.T.ad c = some A) (h : C.X.mg x = some (.ref A)) (hg : Gl C.X x := by rfl) (hdb : (x == ("__debug__" : Str)) = false := by decide) : PMe C (.Name x pos) (mc (.cls c)) :=
  wkE (pe_glob (v := .ref A) hg h rfl hdb) fun σ H Q ⟨g, s, r, q⟩ => q.ret r (.cls ad)
theorem em_ty {n : String} (h : C.X.mg x = none) (hv : bootBuiltins x = some (.type n) := by first | rfl | decide +kernel) (hg : Gl C.X x := by rfl) (hdb : (x == ("__debug__" : Str)) = false := by decide) (hn : x ≠ "__name__" := by decide) : PMe C (.Name x pos) (mc (.ty n)) :=
  wkE (pe_bltn (v := .ty n) hg h hv rfl hn hdb) fun σ H Q ⟨g, s, r, q⟩ => q.ret r (.ty n)
end
/-- what the text's name x holds: a class -/
structure KnC (mg : Str → Option Value) (T : Tab) (x : Str) : Prop where
  ex : ∃ A, T.ad x = some A ∧ mg x = some (.ref A)
theorem em_kc {C : MC} {pos : Pos} {x : Str} (h : KnC C.X.mg C.T x) (hg : Gl C.X x := by rfl) (hdb : (x == ("__debug__" : Str)) = false := by decide) : PMe C (.Name x pos) (mc (.cls x)) := by
  obtain ⟨A, h1, h2⟩ := h.ex
  exact em_cls h1 h2 hg hdb
/-- an own kind of ValueError that has no `__init__`, by its name -/
structure KnE (mg : Str → Option Value) (T : Tab) (x : Str) : Prop where
  ex : ∃ A, T.ad x = some A ∧ mg x = some (.ref A) ∧ ExK T.K A
/-- what isinstance and fields ask of the classes -/
structure Cx0 (T : Tab) (is xs : List Str) (isi : Tg → Tg → Option Bool) : Prop where
  i : ∀ c ∈ is, ∀ A, T.ad c = some A → InsK T.K A
  x : ∀ c ∈ xs, ∀ A, T.ad c = some A → L2.ExcC T.K A
  k : ∀ t u b, isi t u = some b → ∀ tv uv, t.At T tv → u.At T uv → PySem.W.kitOne T.K tv uv = some b
theorem ok_isK {C : MC} {is xs : List Str} {isi : Tg → Tg → Option Bool} (h : Cx0 C.T is xs isi) : CallOk C (fun ys H Q => rIsi C.X.K ys H Q ∨ rIsX C.X.K ys H Q) (cIsi is xs isi) :=
  ok_isi (fun c hc A ad => C.hK ▸ h.i c hc A ad) (fun c hc A ad => C.hK ▸ h.x c hc A ad) (fun t u b hb tv uv h1 h2 => C.hK ▸ h.k t u b hb tv uv h1 h2)
theorem call_isA {X : Cx} : CallR X (.builtin "isinstance") (fun ys H Q => rIsi X.K ys H Q ∨ rIsX X.K ys H Q) := CallR.alt call_isi call_isX
theorem call_reprA {X : Cx} (hg : X.A.guards = some []) (hu : X.A.units + 65 < cLine) : CallR X (.builtin "repr") (fun xs H Q => (∃ i, xs = [.int i] ∧ i.natAbs.log2 < 1920 ∧ Q (.str (toString i)) H) ∨ rReprD X.K xs H Q) := CallR.alt SkE.call_repr_int (call_reprD hg hu)
end Ma
/-! Ma24: fields by their names. -/
namespace Ma
open L2 PySem.Spec PySem PyProof.Rows
/-- what a field's name asks of the classes that have it -/
structure FldK (T : Tab) (is xs : List Str) (f : Str) : Prop where
  i : ∀ c ∈ is, ∀ A, T.ad c = some A → Cls T.K A ∧ NoAttr T.K A f
  x : ∀ c ∈ xs, ∀ A, T.ad c = some A → XfC T.K A ∧ PySem.W.findIn T.K (.ref A) f = some none
theorem em_kf {C : MC} {is xs : List Str} {f : Str} {ex : Expr} {a : ME} {pos : Pos} (k : FldK C.T is xs f) (h : PMe C ex a) (hb : attributeBase ex f C.X.env (eval ex C.X.env) = eval ex C.X.env := by rfl) : PMe C (.Attribute ex f pos) (mFld is xs f a) := em_fld k.i k.x h hb
theorem room65 {k : Nat} {A : Around} (r : RoomG k A) : A.units + 65 < cLine := by
  have := r.toRoom.un
  omega
end Ma
/-! Ma25: exceptions with an `__init__` of their own. -/
namespace Ma
open L2 PySem.W PySem.Spec PySem PyProof.Rows
end Ma
/-! Ma26: super().__init__(text). -/
namespace Ma
open L2 PySem.W PySem.Spec PySem PyProof.Rows
abbrev VE : List Value := [.type "ValueError", .type "Exception", .type "BaseException", .type "object"]
/-- what the row super().__init__(..) asks -/
structure SupF (P : Program) (K : PySem.W.Frag) (mg mb : Str → Option Value) (C D cda cc : Addr) : Prop where
  kD : ∃ cdD, clsIn K D = some cdD
  sub : mroIn K C (.ref D) = some true
  st : nsIn K cStatics "thirdparty.any" = some none
  sup : ks_superIn K C D "__init__" = some (some (.builtin "ValueError.__init__"))
  ve : subIn K (.ref C) (.type "ValueError") = some true
  cell : ∃ (cl : Value) (cld : Option Addr) (csl : Array (Option Value)), K.lookup cc = some { cls := cl, dict := cld, data := .cell (some (.ref D)), slots := csl }
  code : ∃ (ccl : Value) (cdd : Option Addr) (vs : Array Value) (ccs : Array (Option Value)) (file : Str) (tf : Tok), K.lookup cda = some { cls := ccl, dict := cdd, data := .fields vs, slots := ccs } ∧ vs[2]? = some (.str file tf) ∧ (P.main.file == file) = true
  top : (P.main.scope.names.lookup ("super" : Str)).isSome = false
  mg : mg "super" = none
  mb : mb "super" = some (.type "super")
section
variable {P : Program} {w : World} {K : PySem.W.Frag} {mg mb m : Str → Option Value} {h : Heap} {L C D cda cc e t f : Addr} {fd : FuncData} {A : Around} {E : Value → Shared → Prop} {s : Shared} {body : List Stmt} {js : Expr} {p0 p1 p2 p3 p4 : Pos} {of : Obj} {Q : Flow → Shared → Prop} {news : List (Addr × Obj)}
theorem super_row (F : SupF P K mg mb C D cda cc) (kin : K.In h) (hg : h.Ns mainGlobals mg) (hb : h.Ns builtinsNs mb) (hx : excInitIn K C VE "ValueError.__new__" = true)
    (hof : h.get? f = some of) (hfd : of.data = .func fd) (hself : ∃ ar, (fd.params.posonlyargs ++ fd.params.args).head? = some ar ∧ m ar.arg = some (.ref e) ∧ fd.scope.names.lookup ar.arg = some .local)
    (hk : fd.scope.kind = .function) (hgl : fd.globals = mainGlobals) (hbl : fd.builtins = builtinsNs) (hc : fd.closure = [(("__class__" : Str), cc)]) (hcd : fd.code = .ref cda)
    (hs1 : fd.scope.names.lookup ("super" : Str) = some NameKind.globalImplicit) (hs2 : fd.scope.names.lookup ("__class__" : Str) = some NameKind.free)
    (fr : Fr h L s.heap m) (nw : News h L s.heap [(e, excObj C t none .none)]) {pl : Sem Bool} (hev : eval (.Call (.Attribute (.Call (.Name "super" p0) [] [] p1) "__init__" p2) [js] [] p3) (callEnv fd L f) = (do
      let ov ← attributeBase (.Call (.Name "super" p0) [] [] p1) "__init__" (callEnv fd L f) (eval (.Call (.Name "super" p0) [] [] p1) (callEnv fd L f))
      standAt p2.atName
      let (g, first) ← holding [ov] (getMethod ov "__init__" pl)
      callWith p3 g first (backTo p3 (starEach [js] (callEnv fd L f))) []))
    (hint : interactive (callEnv fd L f) = false) (hsw : swapsWith (.Call (.Attribute (.Call (.Name "super" p0) [] [] p1) "__init__" p2) [js] [] p3) none p4.line (callEnv fd L f) = pure false)
    (hst : starEach [js] (callEnv fd L f) = (false, eval js (callEnv fd L f)) :: starEach [] (callEnv fd L f)) (hl : ∀ v : Value, [v].length ≤ sizeLine)
    (hjs : ∀ (s1 : Shared) (news : List (Addr × Obj)) (Q : List Value → Shared → Prop), Fr h L s1.heap m → News h L s1.heap news → (∀ (v : Value) (s2 : Shared), Fr h L s2.heap m → News h L s2.heap news → s2.gens = s1.gens → s2.os = s1.os → Q [v] s2) → wpAny (model P w) A (spliced (backTo p3 (starEach [js] (callEnv fd L f)))) Q E s1)
    (q : ∀ (t' : Addr) (s2 : Shared), Fr h L s2.heap m → News h L s2.heap [(e, excObj C t' none .none)] → s2.gens = s.gens → s2.os = s.os → Q .next s2) :
    PySem.wpAt (model P w) A (.func body (callEnv fd L f)) (exec (.Expr (.Call (.Attribute (.Call (.Name "super" p0) [] [] p1) "__init__" p2) [js] [] p3) p4) (callEnv fd L f)) Q E s := by
  obtain ⟨ar, ha1, ha2, ha3⟩ := hself
  obtain ⟨ccl, cdd, vs, ccs, file, tf, k1, k2, k3⟩ := F.code
  obtain ⟨cl, cld, csl, kc⟩ := F.cell
  obtain ⟨cdD, kD⟩ := F.kD
  have up : ∀ {b : Addr} {o : Obj}, K.lookup b = some o → s.heap.get? b = some o := fun z => fr.keep _ _ (kin _ _ z)
  have nse : ∀ {o : Obj}, s.heap.get? e = some o → o = excObj C t none .none := fun {o} z => by
    have := (nw _ (List.mem_singleton.mpr rfl)).1
    rw [this] at z
    exact (Option.some.inj z).symm
  have hexe := (nw _ (List.mem_singleton.mpr rfl)).1
  refine ks_wpAt_Expr_any (ks_wpAt_MethodCall (pl := pl) (ks_wpAt_super_base hs1 hs2 (by decide) rfl (fr.keep _ _ hof) hfd ha1 hcd (up k1) rfl k2 k3 F.top ?_) hev) hint hsw
  refine ks_loadName_global hk hs1 (Calls.loadGlobal_builtin (mg := mg) (mb := mb) ?_ F.mg ?_ F.mb ⟨rfl, wpAny_loadName_free (c := cc) (v := .ref D) hk hs2 ?_ ?_ (wpAny_loadName_local hk ha3 fr.ns ha2 ?_)⟩)
  · show s.heap.Ns fd.globals mg
    rw [hgl]
    exact hg.keeps fr.keep
  · show s.heap.Ns fd.builtins mb
    rw [hbl]
    exact hb.keeps fr.keep
  · show fd.closure.lookup _ = some cc
    rw [hc]
    rfl
  · exact ⟨_, up kc, rfl⟩
  · obtain ⟨oD, lD, dD⟩ : ∃ oD, K.lookup D = some oD ∧ oD.data = .cls cdD := by
      unfold clsIn at kD
      split at kD
      · cases kD
        exact ⟨_, by assumption, rfl⟩
      · cases kD
    obtain ⟨hp, gs, d, tk, os⟩ := s
    refine ks_wpAny_isType_cls (up lD) dD ⟨rfl, ks_wpAny_call_super (up lD) dD hexe rfl (fun c => by simp [excObj, excRec]) (looks_mroIn (fun a o z => up z) F.sub) fun h1 hso keep => ?_⟩
    have fr1 : Fr h L h1 m := fr.keeps keep
    have nw1 : News h L h1 [(e, excObj C t none .none)] := nw.grown keep
    have nso : h.get? hp.objs.size = none := by
      cases z : h.get? hp.objs.size with
      | none => rfl
      | some o =>
        have := fr.keep _ _ z
        simp [Heap.get?] at this
    have nw2 : News h L h1 [(hp.objs.size, ks_superObj D e C), (e, excObj C t none .none)] := nw1.more fr1 hso (fun _ _ => by simp) nso
    refine kxs_method kxs_ValueError fr1 kin nw2 (List.mem_cons_self ..) (ox := excObj C t none .none) (odx := none) ⟨keep _ _ hexe, rfl, rfl, trivial⟩ F.st F.sup F.ve (by decide) fun u h2 fr2 nw3 lt => ?_
    refine kxs_callWith1 (x := e) (i := "ValueError.__init__") nw3 (List.mem_cons_self ..) (hjs _ _ _ fr2 nw3 fun v s3 fr3 nw4 e1 e2 => ⟨(nw4 _ (List.mem_cons_self ..)).1, ?_⟩) hst rfl
    have hne1 : u ≠ e := fun z => by
      have a1 := (nw4 _ (List.mem_cons_self ..)).1
      have a2 := (nw4 (e, excObj C t none .none) (by simp)).1
      subst z
      rw [a1] at a2
      cases a2
    have hne2 : hp.objs.size ≠ e := fun z => by
      have a1 := (nw4 (hp.objs.size, ks_superObj D e C) (by simp)).1
      have a2 := (nw4 (e, excObj C t none .none) (by simp)).1
      rw [z] at a1
      rw [a1] at a2
      cases a2
    refine kxs_call (C := C) (t := t) (dv := none) (c2 := .none) fr3 kin nw4 PySem.F.excBase_ValueError hx (List.mem_cons_self ..) (.tail hne1 (.tail hne2 (.head (by simp)))) (hl v) fun t' h4 fr4 nw5 lt4 => ?_
    exact q t' _ fr4 (fun p hp' => nw5 p (by
      have := List.mem_singleton.mp hp'
      subst this
      simp)) e1 e2
end
end Ma
/-! Ma27: an exception's fields, one or two. -/
namespace Ma
open L2 PySem.W PySem.Spec PySem PyProof.Rows
theorem ns_one {h : Heap} {dx : Addr} {f : Str} {k : Int} {tk : Tok} {v : Value} {n : Nat} (e : h.get? dx = some (dictOf [⟨k, .str f tk, v⟩] n)) : h.Ns1 dx fun x => if f = x then some v else none := by
  refine ⟨_, _, _, e, rfl, fun a ha => ⟨f, tk, ?_⟩, by simp [UniqKeys], fun x => ?_⟩
  · have : a = ⟨k, .str f tk, v⟩ := by simpa using ha
    rw [this]
  · by_cases hx : f = x
    · simp [nsFind, findBy, Value.isStr, hx]
    · simp [nsFind, findBy, Value.isStr, hx]
theorem ns_two {h : Heap} {dx : Addr} {f g : Str} {k l : Int} {tk tl : Tok} {v u : Value} {n : Nat} (ne : f ≠ g) (e : h.get? dx = some (dictOf [⟨k, .str f tk, v⟩, ⟨l, .str g tl, u⟩] n)) : h.Ns1 dx fun x => if f = x then some v else if g = x then some u else none := by
  refine ⟨_, _, _, e, rfl, fun a ha => ?_, ?_, fun x => ?_⟩
  · have : a = ⟨k, .str f tk, v⟩ ∨ a = ⟨l, .str g tl, u⟩ := by simpa using ha
    rcases this with z | z <;> rw [z]
    · exact ⟨f, tk, rfl⟩
    · exact ⟨g, tl, rfl⟩
  · simp [UniqKeys, Value.isStr]
    exact fun z => ne z.symm
  · by_cases hx : f = x
    · simp [nsFind, findBy, Value.isStr, hx]
    · by_cases hy : g = x
      · simp [nsFind, findBy, Value.isStr, hx, hy]
      · simp [nsFind, findBy, Value.isStr, hx, hy]
end Ma
/-! Ma28: self.f = x in an exception's `__init__`. -/
namespace Ma
open L2 PySem.W PySem.Spec PySem PyProof.Rows
structure StF (K : PySem.W.Frag) (C : Addr) (f : Str) : Prop where
  sa : findIn K (.ref C) "__setattr__" = some (some (.builtin "object.__setattr__"))
  ov : excOver K C VE = true
  tk : takerIn K C f = some none
  hd : hasDictIn K C = true
section
variable {P : Program} {w : World} {K : PySem.W.Frag} {m : Str → Option Value} {h : Heap} {L C e t dx : Addr} {A : Around} {E : Value → Shared → Prop} {s : Shared} {p0 p1 p2 p3 : Pos} {Q : Flow → Shared → Prop} {sf f g x : Str} {v u : Value} {env : Env} {c : Code}
theorem fld_one (kin : K.In h) (F : StF K C f) (hk : env.scope.kind = .function) (hL : env.locals = L) (h1 : env.kindOf sf = some .local) (h2 : env.kindOf x = some .local) (m1 : m sf = some (.ref e)) (m2 : m x = some v)
    (hsw : swapsWith (.Name x p1) (some (.Attribute (.Name sf p0) f p2)) p3.line env = pure false) (d1 : (sf == ("__debug__" : Str)) = false) (d2 : (x == ("__debug__" : Str)) = false)
    (fr : Fr h L s.heap m) (nw : News h L s.heap [(e, excObj C t none .none)])
    (q : ∀ (dx : Addr) (s2 : Shared) (k : Int) (tk : Tok) (n : Nat), Fr h L s2.heap m → News h L s2.heap [(dx, dictOf [⟨k, .str f tk, v⟩] n), (e, excObj C t (some dx) .none)] → e < dx → s2.gens = s.gens → s2.os = s.os → Q .next s2) :
    PySem.wpAt (model P w) A c (exec (.Assign [.Attribute (.Name sf p0) f p2] (.Name x p1) p3) env) Q E s := by
  subst hL
  refine ks_wpAt_Assign_Attr (wpAt_of_wpAny (wpAny_Name (wpAny_loadName_local hk h2 fr.ns m2 ?_) d2)) hsw
  refine wpAny_Name (wpAny_loadName_local hk h1 fr.ns m1 ?_) d1
  refine set_exc0 (t := t) (c2 := .none) PySem.F.store_ValueError fr kin nw (List.mem_cons_self ..) F.sa F.ov F.tk F.hd rfl (.head (by simp)) (by simp [putL]) fun dx h' fr' nw' lt => ?_
  exact q dx _ _ _ _ fr' (by simpa [putL] using nw') (lt _ (List.mem_cons_self ..)) rfl rfl
theorem fld_two {k : Int} {tk : Tok} {n : Nat} (kin : K.In h) (F : StF K C g) (hk : env.scope.kind = .function) (hL : env.locals = L) (h1 : env.kindOf sf = some .local) (h2 : env.kindOf x = some .local) (m1 : m sf = some (.ref e)) (m2 : m x = some u)
    (hsw : swapsWith (.Name x p1) (some (.Attribute (.Name sf p0) g p2)) p3.line env = pure false) (d1 : (sf == ("__debug__" : Str)) = false) (d2 : (x == ("__debug__" : Str)) = false) (ne : f ≠ g)
    (fr : Fr h L s.heap m) (nw : News h L s.heap [(dx, dictOf [⟨k, .str f tk, v⟩] n), (e, excObj C t (some dx) .none)]) (lt : e < dx)
    (q : ∀ (s2 : Shared) (l : Int) (tl : Tok) (n : Nat), Fr h L s2.heap m → News h L s2.heap [(dx, dictOf [⟨k, .str f tk, v⟩, ⟨l, .str g tl, u⟩] n), (e, excObj C t (some dx) .none)] → s2.gens = s.gens → s2.os = s.os → Q .next s2) :
    PySem.wpAt (model P w) A c (exec (.Assign [.Attribute (.Name sf p0) g p2] (.Name x p1) p3) env) Q E s := by
  subst hL
  refine ks_wpAt_Assign_Attr (wpAt_of_wpAny (wpAny_Name (wpAny_loadName_local hk h2 fr.ns m2 ?_) d2)) hsw
  refine wpAny_Name (wpAny_loadName_local hk h1 fr.ns m1 ?_) d1
  have hf : (Value.str f tk).isStr g = false := by simp [Value.isStr, ne]
  refine set_excD (t := t) (dx := dx) (c2 := .none) (es := [⟨k, .str f tk, v⟩]) (n := n) PySem.F.store_ValueError fr kin nw (by simp) F.sa F.ov F.tk F.hd (by simp) (by simp [getL, hf, DictEntry.refKey]) rfl (.head (by
    intro p hp
    have := List.mem_singleton.mp hp
    subst this
    exact Nat.ne_of_lt lt)) (by simp [putL, hf]) fun h' fr' nw' => ?_
  exact q _ _ _ _ fr' (by simpa [putL, hf] using nw') rfl rfl
end
end Ma
/-! Ma29: C(x) and C(x, y) of exceptions with an `__init__`. -/
namespace Ma
open L2 PySem.W PySem.Spec PySem PyProof.Rows
/-- the text that is handed to super().__init__ comes to a value, whatever it is -/
def JsOk (P : Program) (w : World) (h : Heap) (m : Str → Option Value) (fd : FuncData) (f : Addr) (js : Expr) (p3 : Pos) (A : Around) (E : Value → Shared → Prop) (L : Addr) : Prop :=
  ∀ (s1 : Shared) (news : List (Addr × Obj)) (Q : List Value → Shared → Prop), Fr h L s1.heap m → News h L s1.heap news → (∀ (v : Value) (s2 : Shared), Fr h L s2.heap m → News h L s2.heap news → s2.gens = s1.gens → s2.os = s1.os → Q [v] s2) → wpAny (model P w) A (spliced (backTo p3 (starEach [js] (callEnv fd L f)))) Q E s1
/-- the `__init__` of such an exception -/
structure IniF (P : Program) (K : PySem.W.Frag) (mg mb : Str → Option Value) (C D cda cc f : Addr) (fd : FuncData) (ps : List Str) : Prop where
  ini : findIn K (.ref C) "__init__" = some (some (.ref f))
  ex : excInitIn K C VE "ValueError.__new__" = true
  fn : ∃ (od : Option Addr) (osl : Array (Option Value)), K.lookup f = some { cls := .type "function", dict := od, data := .func fd, slots := osl }
  hcd : codeIn K fd.code fd.qualname = true
  sup : SupF P K mg mb C D cda cc
  hk : fd.scope.kind = .function
  co : fd.scope.isCoroutine = false
  ge : fd.scope.isGenerator = false
  gl : fd.globals = mainGlobals
  bl : fd.builtins = builtinsNs
  cl : fd.closure = [(("__class__" : Str), cc)]
  cd : fd.code = .ref cda
  s1 : fd.scope.names.lookup ("super" : Str) = some NameKind.globalImplicit
  s2 : fd.scope.names.lookup ("__class__" : Str) = some NameKind.free
  nc : ∀ x ∈ fd.scope.names, x.2 ≠ .cell
  bd : ∀ us : List Value, us.length = ps.length → bindArgs fd ⟨us, []⟩ = pure (ps.zip us)
  lo : ∀ x ∈ ps, fd.scope.names.lookup x = some .local
section
variable {P : Program} {w : World} {K : PySem.W.Frag} {mg mb : Str → Option Value} {C D cda cc f : Addr} {fd : FuncData} {A : Around} {s : Shared} {R : Result → Shared → Prop} {us : List Value} {ps : List Str} {js : Expr} {p0 p1 p2 p3 p4 q0 q1 q2 q3 : Pos}
/-- the class called: what is left is the body -/
theorem ini_body (F : IniF P K mg mb C D cda cc f fd ps) (kin : K.In s.heap) (nl : s.heap.NoLimit) (hl : us.length ≤ sizeLine) (hn : us.length + 1 = ps.length) (hd : (A.under (.builtin "type.__call__" ⟨.ref C :: us, []⟩)).depth < recursionLimit) {body : List Stmt} (hbd : fd.body = .stmts body)
    (go : ∀ (t : Addr) (h1 : Heap) (s1 : Shared), let e := s.heap.objs.size + 1; let L := e + 1; let A1 := A.under (.builtin "type.__call__" ⟨.ref C :: us, []⟩)
      Fr s.heap L s1.heap (fun y => (ps.zip (.ref e :: us)).reverse.lookup y) → News s.heap L s1.heap [(e, excObj C t none .none)] → s1.gens = s.gens → s1.os = s.os →
      PySem.wpAt (model P w) (A1.deeper (callEnv fd L f)) (.func body (callEnv fd L f)) (execs body (callEnv fd L f))
        (fun fl s' => InitBack e R (.ok (.ret (match fl with | .ret v => v | _ => .none))) s')
        (fun x s' => wpAny (model P w) (A1.deeper (callEnv fd L f)) (leaving (callEnv fd L f) x) (fun _ s'' => InitBack e R (.error x) s'') (fun x' s'' => InitBack e R (.error x') s'') s') s1) :
    codeAny (model P w) A (.call (.ref C) ⟨us, []⟩) R s := by
  obtain ⟨nm, N, qn, bs, bm, hdct, sn, sub, ab, col, dd, k0, k1, k2, k3, k5, hc, hbm⟩ := excInit_of kin F.ex
  obtain ⟨od, osl, lk⟩ := F.fn
  obtain ⟨hp, gs, d, tk, os⟩ := s
  refine HandSPX.call_own PySem.F.excBase_ValueError hbm hc (looks_findIn kin F.ini) (exc_bind (kin _ _ lk) rfl) hl ?_
  have up : ∀ {b : Addr} {o : Obj}, hp.get? b = some o → ((hp.push (kdv_tup us)).push (HandSPX.excO C hp.objs.size)).get? b = some o := fun z => Heap.get?_push_of_some _ (Heap.get?_push_of_some _ z)
  have kin2 : K.In ((hp.push (kdv_tup us)).push (HandSPX.excO C hp.objs.size)) := fun a o z => up (kin a o z)
  have sz1 : hp.objs.size + 1 = (hp.push (kdv_tup us)).objs.size := by simp [Heap.push]
  have sz : ((hp.push (kdv_tup us)).push (HandSPX.excO C hp.objs.size)).objs.size = hp.objs.size + 1 + 1 := by simp [Heap.push]
  refine ks_codeAny_call_defAt (binds := ps.zip (.ref (hp.objs.size + 1) :: us)) hd (kin2 _ _ lk) rfl (nl.keeps fun b o z => up z) (codeRec_of kin2 F.hcd) hbd (fun M A E Q q => ?_) F.nc (fun x hx => F.lo _ (List.of_mem_zip (a := x.1) (b := x.2) hx).1) (fun h1 ns keep => ?_) F.co F.ge F.hk
  · rw [F.bd _ (by simpa using hn)]
    exact wpAny_pure q
  · have fr : Fr hp (hp.objs.size + 1 + 1) h1 (fun y => (ps.zip (.ref (hp.objs.size + 1) :: us)).reverse.lookup y) := ⟨sz ▸ ns, fun b o z => keep _ _ (up z), by omega⟩
    have nw : News hp (hp.objs.size + 1 + 1) h1 [(hp.objs.size + 1, excObj C hp.objs.size none .none)] := fun p hp' => by
      have := List.mem_singleton.mp hp'
      subst this
      exact ⟨keep _ _ (by
        have z := Heap.get?_push_size (hp.push (kdv_tup us)) (o := HandSPX.excO C hp.objs.size) rfl
        rw [← sz1] at z
        exact z), by simp, by simp [Heap.get?]⟩
    have z := go hp.objs.size h1 ⟨h1, gs, d, tk + (ps.zip (.ref (hp.objs.size + 1) :: us)).length, os⟩ fr nw rfl rfl
    rw [sz]
    exact z
end
end Ma
/-! Ma30: one field, two fields. -/
namespace Ma
open L2 PySem.W PySem.Spec PySem PyProof.Rows
/-- what the row super().__init__(js) comes to in each frame -/
structure RowS (fd : FuncData) (f : Addr) (js : Expr) (p0 p1 p2 p3 p4 : Pos) : Prop where
  ev : ∀ L, ∃ pl : Sem Bool, eval (.Call (.Attribute (.Call (.Name "super" p0) [] [] p1) "__init__" p2) [js] [] p3) (callEnv fd L f) = (do
      let ov ← attributeBase (.Call (.Name "super" p0) [] [] p1) "__init__" (callEnv fd L f) (eval (.Call (.Name "super" p0) [] [] p1) (callEnv fd L f))
      standAt p2.atName
      let (g, first) ← holding [ov] (getMethod ov "__init__" pl)
      callWith p3 g first (backTo p3 (starEach [js] (callEnv fd L f))) [])
  it : ∀ L, interactive (callEnv fd L f) = false
  sw : ∀ L, swapsWith (.Call (.Attribute (.Call (.Name "super" p0) [] [] p1) "__init__" p2) [js] [] p3) none p4.line (callEnv fd L f) = pure false
  st : ∀ L, starEach [js] (callEnv fd L f) = (false, eval js (callEnv fd L f)) :: starEach [] (callEnv fd L f)
section
variable {P : Program} {w : World} {K : PySem.W.Frag} {mg mb : Str → Option Value} {C D cda cc f : Addr} {fd : FuncData} {A : Around} {s : Shared} {R : Result → Shared → Prop} {us : List Value} {js : Expr} {p0 p1 p2 p3 p4 q0 q1 q2 q3 r0 r1 r2 r3 : Pos} {sf x y n1 n2 : Str} {v u : Value}
theorem exi_one (F : IniF P K mg mb C D cda cc f fd [sf, x]) (kin : K.In s.heap) (hg : s.heap.Ns mainGlobals mg) (hb : s.heap.Ns builtinsNs mb) (nl : s.heap.NoLimit) (hd : (A.under (.builtin "type.__call__" ⟨.ref C :: [v], []⟩)).depth < recursionLimit)
    (hbd : fd.body = .stmts [.Expr (.Call (.Attribute (.Call (.Name "super" p0) [] [] p1) "__init__" p2) [js] [] p3) p4, .Assign [.Attribute (.Name sf q0) n1 q2] (.Name x q1) q3])
    (hself : ∃ ar, (fd.params.posonlyargs ++ fd.params.args).head? = some ar ∧ ar.arg = sf) (nsx : sf ≠ x) (S : RowS fd f js p0 p1 p2 p3 p4) (F1 : StF K C n1)
    (sw1 : ∀ L, swapsWith (.Name x q1) (some (.Attribute (.Name sf q0) n1 q2)) q3.line (callEnv fd L f) = pure false) (d1 : (sf == ("__debug__" : Str)) = false) (d2 : (x == ("__debug__" : Str)) = false)
    (hjs : ∀ E, JsOk P w s.heap (fun z => ([sf, x].zip [.ref (s.heap.objs.size + 1), v]).reverse.lookup z) fd f js p3 ((A.under (.builtin "type.__call__" ⟨.ref C :: [v], []⟩)).deeper (callEnv fd (s.heap.objs.size + 1 + 1) f)) E (s.heap.objs.size + 1 + 1))
    (q : ∀ (dx t : Addr) (s2 : Shared) (k : Int) (tk : Tok) (n : Nat), (∀ b o, s.heap.get? b = some o → s2.heap.get? b = some o) → s2.heap.get? (s.heap.objs.size + 1) = some (excObj C t (some dx) .none) → s2.heap.get? dx = some (dictOf [⟨k, .str n1 tk, v⟩] n) → s.heap.get? dx = none → s.heap.objs.size + 1 < dx → s2.gens = s.gens → s2.os = s.os → R (.ok (.ret (.ref (s.heap.objs.size + 1)))) s2) :
    codeAny (model P w) A (.call (.ref C) ⟨[v], []⟩) R s := by
  obtain ⟨ar, ha1, ha2⟩ := hself
  refine ini_body F kin nl (by simp only [List.length_singleton]; decide +kernel) rfl hd hbd fun t h1 s1 => ?_
  intro e L A1 fr nw g1 o1
  have m1 : ([sf, x].zip [Value.ref e, v]).reverse.lookup sf = some (.ref e) := by
    have : (sf == x) = false := by simpa using nsx
    simp [List.lookup, this]
  have m2 : ([sf, x].zip [Value.ref e, v]).reverse.lookup x = some v := by simp [List.lookup]
  obtain ⟨od, osl, lk⟩ := F.fn
  obtain ⟨pl, ev⟩ := S.ev L
  have l1 := F.lo sf (by simp)
  have l2 := F.lo x (by simp)
  refine ks_wpAt_execs_cons (super_row (js := js) F.sup kin hg hb F.ex (kin _ _ lk) rfl ⟨ar, ha1, by rw [ha2]; exact m1, by rw [ha2]; exact l1⟩ F.hk F.gl F.bl F.cl F.cd F.s1 F.s2 fr nw ev (S.it L) (S.sw L) (S.st L) (fun _ => by simp only [List.length_singleton]; decide +kernel) (hjs _) fun t' s2 fr2 nw2 g2 o2 => ?_)
  refine ks_wpAt_execs_cons (fld_one kin F1 F.hk rfl l1 l2 m1 m2 (sw1 L) d1 d2 fr2 nw2 fun dx s3 k tk n fr3 nw3 lt g3 o3 => ?_)
  refine wpAt_of_wpAny ?_
  rw [execs]
  refine wpAny_pure ⟨rfl, ?_⟩
  exact q dx t' s3 k tk n fr3.keep (nw3 (e, _) (by simp)).1 (nw3 (dx, _) (by simp)).1 (nw3 (dx, dictOf [⟨k, .str n1 tk, v⟩] n) (by simp)).2.2 lt (by rw [g3, g2, g1]) (by rw [o3, o2, o1])
theorem exi_two (F : IniF P K mg mb C D cda cc f fd [sf, x, y]) (kin : K.In s.heap) (hg : s.heap.Ns mainGlobals mg) (hb : s.heap.Ns builtinsNs mb) (nl : s.heap.NoLimit) (hd : (A.under (.builtin "type.__call__" ⟨.ref C :: [v, u], []⟩)).depth < recursionLimit)
    (hbd : fd.body = .stmts [.Expr (.Call (.Attribute (.Call (.Name "super" p0) [] [] p1) "__init__" p2) [js] [] p3) p4, .Assign [.Attribute (.Name sf q0) n1 q2] (.Name x q1) q3, .Assign [.Attribute (.Name sf r0) n2 r2] (.Name y r1) r3])
    (hself : ∃ ar, (fd.params.posonlyargs ++ fd.params.args).head? = some ar ∧ ar.arg = sf) (nsx : sf ≠ x) (nsy : sf ≠ y) (nxy : x ≠ y) (n12 : n1 ≠ n2) (S : RowS fd f js p0 p1 p2 p3 p4) (F1 : StF K C n1) (F2 : StF K C n2)
    (sw1 : ∀ L, swapsWith (.Name x q1) (some (.Attribute (.Name sf q0) n1 q2)) q3.line (callEnv fd L f) = pure false) (sw2 : ∀ L, swapsWith (.Name y r1) (some (.Attribute (.Name sf r0) n2 r2)) r3.line (callEnv fd L f) = pure false) (d1 : (sf == ("__debug__" : Str)) = false) (d2 : (x == ("__debug__" : Str)) = false) (d3 : (y == ("__debug__" : Str)) = false)
    (hjs : ∀ E, JsOk P w s.heap (fun z => ([sf, x, y].zip [.ref (s.heap.objs.size + 1), v, u]).reverse.lookup z) fd f js p3 ((A.under (.builtin "type.__call__" ⟨.ref C :: [v, u], []⟩)).deeper (callEnv fd (s.heap.objs.size + 1 + 1) f)) E (s.heap.objs.size + 1 + 1))
    (q : ∀ (dx t : Addr) (s2 : Shared) (k l : Int) (tk tl : Tok) (n : Nat), (∀ b o, s.heap.get? b = some o → s2.heap.get? b = some o) → s2.heap.get? (s.heap.objs.size + 1) = some (excObj C t (some dx) .none) → s2.heap.get? dx = some (dictOf [⟨k, .str n1 tk, v⟩, ⟨l, .str n2 tl, u⟩] n) → s.heap.get? dx = none → s.heap.objs.size + 1 < dx → s2.gens = s.gens → s2.os = s.os → R (.ok (.ret (.ref (s.heap.objs.size + 1)))) s2) :
    codeAny (model P w) A (.call (.ref C) ⟨[v, u], []⟩) R s := by
  obtain ⟨ar, ha1, ha2⟩ := hself
  refine ini_body F kin nl (by simp only [List.length_cons, List.length_nil]; decide +kernel) rfl hd hbd fun t h1 s1 => ?_
  intro e L A1 fr nw g1 o1
  have e1 : (sf == x) = false := by simpa using nsx
  have e2 : (sf == y) = false := by simpa using nsy
  have e3 : (x == y) = false := by simpa using nxy
  have m1 : ([sf, x, y].zip [Value.ref e, v, u]).reverse.lookup sf = some (.ref e) := by simp [List.lookup, e1, e2]
  have m2 : ([sf, x, y].zip [Value.ref e, v, u]).reverse.lookup x = some v := by simp [List.lookup, e3]
  have m3 : ([sf, x, y].zip [Value.ref e, v, u]).reverse.lookup y = some u := by simp [List.lookup]
  obtain ⟨od, osl, lk⟩ := F.fn
  obtain ⟨pl, ev⟩ := S.ev L
  have l1 := F.lo sf (by simp)
  have l2 := F.lo x (by simp)
  have l3 := F.lo y (by simp)
  refine ks_wpAt_execs_cons (super_row (js := js) F.sup kin hg hb F.ex (kin _ _ lk) rfl ⟨ar, ha1, by rw [ha2]; exact m1, by rw [ha2]; exact l1⟩ F.hk F.gl F.bl F.cl F.cd F.s1 F.s2 fr nw ev (S.it L) (S.sw L) (S.st L) (fun _ => by simp only [List.length_singleton]; decide +kernel) (hjs _) fun t' s2 fr2 nw2 g2 o2 => ?_)
  refine ks_wpAt_execs_cons (fld_one kin F1 F.hk rfl l1 l2 m1 m2 (sw1 L) d1 d2 fr2 nw2 fun dx s3 k tk n fr3 nw3 lt g3 o3 => ?_)
  refine ks_wpAt_execs_cons (fld_two kin F2 F.hk rfl l1 l3 m1 m3 (sw2 L) d1 d3 n12 fr3 nw3 lt fun s4 l tl n' fr4 nw4 g4 o4 => ?_)
  refine wpAt_of_wpAny ?_
  rw [execs]
  refine wpAny_pure ⟨rfl, ?_⟩
  exact q dx t' s4 k l tk tl n' fr4.keep (nw4 (e, _) (by simp)).1 (nw4 (dx, _) (by simp)).1 (nw4 (dx, dictOf [⟨k, .str n1 tk, v⟩, ⟨l, .str n2 tl, u⟩] n') (by simp)).2.2 lt (by rw [g4, g3, g2, g1]) (by rw [o4, o3, o2, o1])
end
end Ma
/-! Ma31: the exception stands in the layer's heap. -/
namespace Ma
open L2 PySem.W PySem.Spec PySem PyProof.Rows
theorem cut_get {h : Heap} {n b : Nat} : ({ h with objs := h.objs.extract 0 n } : Heap).get? b = if b < n then h.get? b else none := by
  unfold Heap.get?
  by_cases hb : b < n
  · simp only [hb, if_true]
    have : (h.objs.extract 0 n)[b]? = h.objs[b]? := by
      rw [Array.getElem?_extract]
      by_cases hs : b < h.objs.size
      · simp [hs]; omega
      · simp; omega
    rw [this]
  · simp only [hb, if_false]
    have : (h.objs.extract 0 n)[b]? = none := by
      rw [Array.getElem?_eq_none]
      simp; omega
    rw [this]
theorem get_lt {h : Heap} {b : Addr} {o : Obj} (z : h.get? b = some o) : b < h.objs.size := by
  unfold Heap.get? at z
  by_cases hb : b < h.objs.size
  · exact hb
  · rw [Array.getElem?_eq_none (Nat.le_of_not_lt hb)] at z
    cases z
theorem two_laid {X : Cx} {pins : List (Addr × Obj)} {σ : L2.St} {H : Hp} {s : Shared} {h' : Heap} {t' : Nat} {e dx C t : Addr} {fs : List (Str × V)} {mA : Str → Option Value} (I : Inv X pins σ H s) (keep : ∀ b o, s.heap.get? b = some o → h'.get? b = some o) (he : s.heap.objs.size ≤ e) (lt : e < dx)
    (h1 : h'.get? e = some (excObj C t (some dx) .none)) (h2 : h'.Ns1 dx mA) (hr : ∀ f, RelO (fs.lookup f) (mA f)) :
    Inv X pins σ (upd (upd H e (XO (.ref C) (some dx) e)) dx (.xd fs)) { s with heap := h', toks := t' } := by
  have a1 : Inv X pins σ (upd H e (XO (.ref C) (some dx) e)) { s with heap := { h' with objs := h'.objs.extract 0 dx }, toks := t' } := by
    refine I.laidN (fun b o z => ?_) ?_ (I.hok.fresh he) ?_
    · rw [cut_get, if_pos (Nat.lt_trans (Nat.lt_of_lt_of_le (get_lt z) he) lt)]
      exact keep b o z
    · cases z : s.heap.get? e with
      | none => rfl
      | some o => exact absurd (Nat.lt_of_lt_of_le (get_lt z) he) (Nat.lt_irrefl _)
    · have z : ({ h' with objs := h'.objs.extract 0 dx } : Heap).get? e = some (excObj C t (some dx) .none) := by rw [cut_get, if_pos lt]; exact h1
      simp only [ObjOk, XO]
      exact ⟨⟨_, _, z, ⟨rfl, rfl⟩, rfl⟩, ⟨_, z⟩, fun g1 g2 ⟨oe, vs, e, z, f⟩ k => ⟨oe, vs, k _ e, z, f⟩⟩
  refine a1.laidN (h' := h') (t' := t') (fun b o z => ?_) ?_ ?_ ?_
  · rw [cut_get] at z
    split at z
    · exact z
    · cases z
  · show ({ h' with objs := h'.objs.extract 0 dx } : Heap).get? dx = none
    rw [cut_get, if_neg (Nat.lt_irrefl _)]
  · rw [upd_ne (fun z => Nat.lt_irrefl _ (z ▸ lt))]
    exact I.hok.fresh (Nat.le_trans he (Nat.le_of_lt lt))
  · simp only [ObjOk]
    exact ⟨mA, h2, hr⟩
end Ma
/-! Ma32: the text of such an exception: f"..{x}..". -/
namespace Ma
open L2 PySem.W PySem.Spec PySem PyProof.Rows
/-- a value that comes to the text z in {..} -/
def FmtV (P : Program) (w : World) (h : Heap) (A : Around) (v : Value) (z : Str) : Prop :=
  ∀ (E : Value → Shared → Prop) (s1 : Shared) (Q : Value → Shared → Prop), (∀ b o, h.get? b = some o → s1.heap.get? b = some o) → (∀ (h' : Heap) (u : Tok) (tk : Nat), (∀ b o, s1.heap.get? b = some o → h'.get? b = some o) → Q (.str z u) { s1 with heap := h', toks := tk }) → wpAny (model P w) A (formatField v Str.empty) Q E s1
section
variable {P : Program} {w : World} {h : Heap} {A : Around} {m : Str → Option Value} {fd : FuncData} {f L : Addr} {v : Value} {z x : Str} {env : Env}
theorem fmt_int {i : Int} {t : Tok} (hb : i.natAbs.log2 < 1920) : FmtV P w h A (.int i t) (Str.ofString (toString i)) := fun E s1 Q k q =>
  wpAny_formatField_int hb (q _ _ _ fun _ _ z => z)
theorem fmt_ref {a : Addr} {d : PyData} {as : List Addr} (k1 : Reads h (.ref a) d as) (h1 : d.showable = true) (h2 : d.hasDict = false) (hg : A.guards = some []) (hu : A.units + (d.depth + 2) < cLine) (h4 : d.shown.length ≤ sizeLine) : FmtV P w h A (.ref a) d.shown := fun E s1 Q k q =>
  formatField_of_reads k1 h1 (fun z => by rw [h2] at z; cases z) hg hu k (fun h' u tk keep => q h' u tk keep) h4
/-- a part of the text -/
def PartOk (P : Program) (w : World) (h : Heap) (m : Str → Option Value) (A : Around) (L : Addr) (env : Env) (e : Expr) (z : Str) : Prop :=
  ∀ (E : Value → Shared → Prop) (s1 : Shared) (Q : Value → Shared → Prop), Fr h L s1.heap m → (∀ (h' : Heap) (u : Tok) (tk : Nat), (∀ b o, s1.heap.get? b = some o → h'.get? b = some o) → Q (.str z u) { s1 with heap := h', toks := tk }) → wpAny (model P w) A (eval e env) Q E s1
theorem part_str {j : Nat} {p : Pos} : PartOk P w h m A L env (.Constant (.str z) j p) z := fun E s1 Q fr q => wpAny_Constant_str (q _ _ _ fun _ _ z => z)
theorem part_fmt {p q : Pos} (hk : env.scope.kind = .function) (hL : env.locals = L) (hx : env.kindOf x = some .local) (hm : m x = some v) (hd : (x == ("__debug__" : Str)) = false) (F : FmtV P w h A v z) : PartOk P w h m A L env (.FormattedValue (.Name x p) (-1) none q) z := fun E s1 Q fr go => by
  subst hL
  exact wpAny_FormattedValue_plain (wpAny_Name (wpAny_loadName_local hk hx fr.ns hm (F E s1 Q fr.keep go)) hd)
inductive PartsOk (P : Program) (w : World) (h : Heap) (m : Str → Option Value) (A : Around) (L : Addr) (env : Env) : List Expr → List Str → Prop
  | nil : PartsOk P w h m A L env [] []
  | cons {e : Expr} {z : Str} {es : List Expr} {zs : List Str} : PartOk P w h m A L env e z → PartsOk P w h m A L env es zs → PartsOk P w h m A L env (e :: es) (z :: zs)
theorem joins_ok {es : List Expr} {zs : List Str} (r : PartsOk P w h m A L env es zs) : ∀ (E : Value → Shared → Prop) (acc : Str) (s1 : Shared) (Q : Str → Shared → Prop), acc.length + (zs.map (·.length)).sum ≤ sizeLine → Fr h L s1.heap m → (∀ (out : Str) (h' : Heap) (tk : Nat), out.length ≤ sizeLine → (∀ b o, s1.heap.get? b = some o → h'.get? b = some o) → Q out { s1 with heap := h', toks := tk }) → Joins (model P w) A E (evalEach es env) acc Q s1 := by
  induction r with
  | nil =>
    intro E acc s1 Q hl fr q
    exact Joins_nil (q acc s1.heap s1.toks (by simpa using hl) fun _ _ z => z)
  | @cons e z es zs p t ih =>
    intro E acc s1 Q hl fr q
    rw [List.map_cons, List.sum_cons] at hl
    have hz : (acc ++ z).length = acc.length + z.length := Str.length_append ..
    refine Joins_cons (p E s1 _ fr fun h' u tk keep => ⟨z, u, rfl, by omega, ?_⟩)
    exact ih E (acc ++ z) _ Q (by omega) (fr.keeps keep) fun out h'' tk' ho k2 => q out h'' tk' ho fun b o y => k2 b o (keep b o y)
theorem js_ok {e1 e2 : Expr} {es : List Expr} {zs : List Str} {p p3 : Pos} {E : Value → Shared → Prop} (r : PartsOk P w h m A L (callEnv fd L f) (e1 :: e2 :: es) zs) (hl : (zs.map (·.length)).sum ≤ sizeLine)
    (hst : starEach [.JoinedStr (e1 :: e2 :: es) p] (callEnv fd L f) = (false, eval (.JoinedStr (e1 :: e2 :: es) p) (callEnv fd L f)) :: starEach [] (callEnv fd L f)) : JsOk P w h m fd f (.JoinedStr (e1 :: e2 :: es) p) p3 A E L := fun s1 news Q fr nw q => by
  refine wpAny_items_cons (wpAny_JoinedStr (joins_ok r E Str.empty s1 _ (by simpa [Str.length, Str.empty] using hl) fr fun out h' tk ho keep => ⟨ho, ?_⟩)) hst
  refine wpAny_items_nil (q _ _ (fr.keeps keep) (nw.grown keep) rfl rfl)
end
end Ma
/-! Ma33: such an exception called, by its heap alone. -/
namespace Ma
open L2 PySem.W PySem.Spec PySem PyProof.Rows
/-- the text of a value in {..}, whoever asks -/
def Txt (P : Program) (w : World) (h : Heap) (v : Value) (z : Str) : Prop := ∀ A : Around, A.guards = some [] → A.units + 70 < cLine → FmtV P w h A v z
/-- a part: text, or a value by its place -/
abbrev Pt := Sum Str Nat
inductive Texts (P : Program) (w : World) (h : Heap) (us : List Value) : List Pt → List Str → Prop
  | nil : Texts P w h us [] []
  | txt {z : Str} {ps : List Pt} {zs : List Str} : Texts P w h us ps zs → Texts P w h us (.inl z :: ps) (z :: zs)
  | val {i : Nat} {v : Value} {z : Str} {ps : List Pt} {zs : List Str} : us[i]? = some v → Txt P w h v z → Texts P w h us ps zs → Texts P w h us (.inr i :: ps) (z :: zs)
/-- what a call of the class comes to, on the heap -/
def ExCall (P : Program) (w : World) (K : PySem.W.Frag) (mg mb : Str → Option Value) (C : Addr) (fs : List Str) (pt : List Pt) : Prop :=
  ∀ (A : Around) (s : Shared) (us : List Value) (zs : List Str) (R : Result → Shared → Prop), RoomG 2 A → K.In s.heap → s.heap.Ns mainGlobals mg → s.heap.Ns builtinsNs mb → s.heap.NoLimit → us.length = fs.length → Texts P w s.heap us pt zs → (zs.map (·.length)).sum ≤ sizeLine →
    (∀ (dx t : Addr) (s2 : Shared) (mA : Str → Option Value), (∀ b o, s.heap.get? b = some o → s2.heap.get? b = some o) → s2.heap.get? (s.heap.objs.size + 1) = some (excObj C t (some dx) .none) → s2.heap.Ns1 dx mA → (∀ z, mA z = (fs.zip us).lookup z) → s.heap.objs.size + 1 < dx → s2.gens = s.gens → s2.os = s.os → R (.ok (.ret (.ref (s.heap.objs.size + 1)))) s2) →
    codeAny (model P w) A (.call (.ref C) ⟨us, []⟩) R s
/-- the parts as the text has them -/
inductive PtIs (ps : List Str) : List Expr → List Pt → Prop
  | nil : PtIs ps [] []
  | txt {z : Str} {j : Nat} {p : Pos} {es : List Expr} {qs : List Pt} : PtIs ps es qs → PtIs ps (.Constant (.str z) j p :: es) (.inl z :: qs)
  | val {i : Nat} {x : Str} {p q : Pos} {es : List Expr} {qs : List Pt} : ps[i]? = some x → (x == ("__debug__" : Str)) = false → PtIs ps es qs → PtIs ps (.FormattedValue (.Name x p) (-1) none q :: es) (.inr i :: qs)
section
variable {P : Program} {w : World} {K : PySem.W.Frag} {mg mb : Str → Option Value} {C D cda cc f : Addr} {fd : FuncData} {es : List Expr} {e1 e2 : Expr} {p p0 p1 p2 p3 p4 q0 q1 q2 q3 r0 r1 r2 r3 : Pos} {sf x y n1 n2 : Str} {pt : List Pt}
theorem parts_of {ps : List Str} {us : List Value} {h : Heap} {A : Around} {L : Addr} {m : Str → Option Value} {env : Env} {es : List Expr} {pt : List Pt} {zs : List Str} (hg : A.guards = some []) (hu : A.units + 70 < cLine) (hk : env.scope.kind = .function) (hL : env.locals = L) (hx : ∀ (i : Nat) (x : Str) (v : Value), ps[i]? = some x → us[i]? = some v → env.kindOf x = some .local ∧ m x = some v)
    (a : PtIs ps es pt) (b : Texts P w h us pt zs) : PartsOk P w h m A L env es zs := by
  induction a generalizing zs with
  | nil => cases b; exact .nil
  | txt _ ih => cases b with | txt b => exact .cons part_str (ih b)
  | val h1 h2 _ ih =>
    cases b with
    | val h3 h4 b =>
      obtain ⟨k1, k2⟩ := hx _ _ _ h1 h3
      exact .cons (part_fmt hk hL k1 k2 h2 (h4 A hg hu)) (ih b)
theorem under_g {A : Around} {us : List Value} (r : RoomG 2 A) (env : Env) : ((A.under (.builtin "type.__call__" ⟨.ref C :: us, []⟩)).depth < recursionLimit) ∧ ((A.under (.builtin "type.__call__" ⟨.ref C :: us, []⟩)).deeper env).guards = some [] ∧ ((A.under (.builtin "type.__call__" ⟨.ref C :: us, []⟩)).deeper env).units + 70 < cLine := by
  have r1 := Room.make r.toRoom C us []
  have r2 := r1.deeper env
  refine ⟨r1.depth, ?_, ?_⟩
  · exact r.gs
  · have := r2.un
    omega
theorem exCall_one (F : IniF P K mg mb C D cda cc f fd [sf, x]) (hbd : fd.body = .stmts [.Expr (.Call (.Attribute (.Call (.Name "super" p0) [] [] p1) "__init__" p2) [.JoinedStr (e1 :: e2 :: es) p] [] p3) p4, .Assign [.Attribute (.Name sf q0) n1 q2] (.Name x q1) q3])
    (hself : ∃ ar, (fd.params.posonlyargs ++ fd.params.args).head? = some ar ∧ ar.arg = sf) (nsx : sf ≠ x) (S : RowS fd f (.JoinedStr (e1 :: e2 :: es) p) p0 p1 p2 p3 p4) (F1 : StF K C n1)
    (sw1 : ∀ L, swapsWith (.Name x q1) (some (.Attribute (.Name sf q0) n1 q2)) q3.line (callEnv fd L f) = pure false) (d1 : (sf == ("__debug__" : Str)) = false) (d2 : (x == ("__debug__" : Str)) = false) (hp : PtIs [x] (e1 :: e2 :: es) pt) : ExCall P w K mg mb C [n1] pt := by
  intro A s us zs R hr kin hg hb nl hn tx hz q
  match us, hn with
  | [v], _ =>
    obtain ⟨hd, -, -⟩ := under_g (C := C) (us := [v]) hr (callEnv fd (s.heap.objs.size + 1 + 1) f)
    obtain ⟨-, gs, un⟩ := under_g (C := C) (us := [v]) hr (callEnv fd (s.heap.objs.size + 1 + 1) f)
    refine exi_one F kin hg hb nl hd hbd hself nsx S F1 sw1 d1 d2 (fun E => js_ok (parts_of gs un F.hk rfl (fun i z u h1 h2 => ?_) hp tx) hz (S.st _)) fun dx t s2 k tk n keep h1 h2 _ lt g o => q dx t s2 _ keep h1 (ns_one h2) (fun z => ?_) lt g o
    · match i, h1, h2 with
      | 0, h1, h2 =>
        cases h1; cases h2
        exact ⟨F.lo x (by simp), by simp [List.lookup]⟩
    · by_cases hz : n1 = z
      · subst hz; simp [List.lookup]
      · have : (z == n1) = false := by simpa using fun a => hz a.symm
        simp [List.lookup, this, hz]
theorem exCall_two (F : IniF P K mg mb C D cda cc f fd [sf, x, y]) (hbd : fd.body = .stmts [.Expr (.Call (.Attribute (.Call (.Name "super" p0) [] [] p1) "__init__" p2) [.JoinedStr (e1 :: e2 :: es) p] [] p3) p4, .Assign [.Attribute (.Name sf q0) n1 q2] (.Name x q1) q3, .Assign [.Attribute (.Name sf r0) n2 r2] (.Name y r1) r3])
    (hself : ∃ ar, (fd.params.posonlyargs ++ fd.params.args).head? = some ar ∧ ar.arg = sf) (nsx : sf ≠ x) (nsy : sf ≠ y) (nxy : x ≠ y) (n12 : n1 ≠ n2) (S : RowS fd f (.JoinedStr (e1 :: e2 :: es) p) p0 p1 p2 p3 p4) (F1 : StF K C n1) (F2 : StF K C n2)
    (sw1 : ∀ L, swapsWith (.Name x q1) (some (.Attribute (.Name sf q0) n1 q2)) q3.line (callEnv fd L f) = pure false) (sw2 : ∀ L, swapsWith (.Name y r1) (some (.Attribute (.Name sf r0) n2 r2)) r3.line (callEnv fd L f) = pure false) (d1 : (sf == ("__debug__" : Str)) = false) (d2 : (x == ("__debug__" : Str)) = false) (d3 : (y == ("__debug__" : Str)) = false) (hp : PtIs [x, y] (e1 :: e2 :: es) pt) : ExCall P w K mg mb C [n1, n2] pt := by
  intro A s us zs R hr kin hg hb nl hn tx hz q
  match us, hn with
  | [v, u], _ =>
    obtain ⟨hd, gs, un⟩ := under_g (C := C) (us := [v, u]) hr (callEnv fd (s.heap.objs.size + 1 + 1) f)
    have e3 : (x == y) = false := by simpa using nxy
    refine exi_two F kin hg hb nl hd hbd hself nsx nsy nxy n12 S F1 F2 sw1 sw2 d1 d2 d3 (fun E => js_ok (parts_of gs un F.hk rfl (fun i z u h1 h2 => ?_) hp tx) hz (S.st _)) fun dx t s2 k l tk tl n keep h1 h2 _ lt g o => q dx t s2 _ keep h1 (ns_two n12 h2) (fun z => ?_) lt g o
    · match i, h1, h2 with
      | 0, h1, h2 =>
        cases h1; cases h2
        exact ⟨F.lo x (by simp), by simp [List.lookup, e3]⟩
      | 1, h1, h2 =>
        cases h1; cases h2
        exact ⟨F.lo y (by simp), by simp [List.lookup]⟩
    · by_cases hz : n1 = z
      · subst hz; simp [List.lookup]
      · have h1 : (z == n1) = false := by simpa using fun a => hz a.symm
        by_cases hy : n2 = z
        · subst hy; simp [List.lookup, h1, hz]
        · have h2 : (z == n2) = false := by simpa using fun a => hy a.symm
          simp [List.lookup, h1, h2, hz, hy]
end
end Ma
/-! Ma34: C(x), C(x, y) of exceptions with an `__init__`, in the machine. -/
namespace Ma
open L2 PySem.W PySem.Spec PySem PyProof.Rows
def fmtM (hp : List Cell) : M → Option Str
  | .int i => if i.natAbs.log2 < 1920 then some (Str.ofString (toString i)) else none
  | x => match datT hp x with
    | some d => if (isSeqD d && d.showable && !d.hasDict && decide (d.depth ≤ 64) && decide (d.shown.length ≤ sizeLine)) = true then some d.shown else none
    | none => none
def textsM (hp : List Cell) (ms : List M) : List Pt → Option (List Str)
  | [] => some []
  | .inl z :: ps => (textsM hp ms ps).map (z :: ·)
  | .inr i :: ps => match ms[i]? with
    | some m => match fmtM hp m with
      | some z => (textsM hp ms ps).map (z :: ·)
      | none => none
    | none => none
def exiM (n : Str) (fs : List Str) (pt : List Pt) (ms : List M) (s : MS) : Res M :=
  if ms.length = fs.length then match textsM s.hp ms pt with
    | some zs => if (zs.map (·.length)).sum ≤ sizeLine then .ok (.exn n fs ms) s else .stuck
    | none => .stuck
  else .stuck
/-- what the text's name n holds: such an exception -/
structure KnI (P : Program) (w : World) (mg : Str → Option Value) (T : Tab) (n : Str) (fs : List Str) (pt : List Pt) : Prop where
  ex : ∃ A, T.ad n = some A ∧ mg n = some (.ref A) ∧ keepIn T.K (.ref A) = true ∧ ∀ mb : Str → Option Value, (∀ x : Str, x ≠ "__name__" → mb x = bootBuiltins x) → ExCall P w T.K mg mb A fs pt
section
variable {C : MC} {g g1 : Gh} {H H1 : Hp} {s : MS} {σ : L2.St} {ex : Expr} {es : List Expr} {ma : MA} {pos p : Pos} {x n : Str} {A : Addr} {fs : List Str} {pt : List Pt}
theorem zip_rel : ∀ {fs : List Str} {vs : List V} {us : List Value}, Vals vs us → ∀ f, RelO ((fs.zip vs).lookup f) ((fs.zip us).lookup f)
  | [], _, _, _, f => by simp [RelO]
  | _ :: _, _, _, .nil, f => by simp [RelO]
  | n :: fs, _, _, .cons r rs, f => by
    rw [List.zip_cons_cons, List.zip_cons_cons, List.lookup_cons, List.lookup_cons]
    cases hk : f == n with
    | true => exact r
    | false => exact zip_rel rs f
theorem vals_at : ∀ {vs : List V} {us : List Value} {i : Nat} {v : V}, Vals vs us → vs[i]? = some v → ∃ u, us[i]? = some u ∧ RelV v u
  | _, _, _, _, .nil, h => by simp at h
  | _, _, 0, _, .cons r _, h => by simp at h; subst h; exact ⟨_, rfl, r⟩
  | _, _, i + 1, v, .cons _ t, h => by
    obtain ⟨u, h1, h2⟩ := vals_at (i := i) (v := v) t (by simpa using h)
    exact ⟨u, by simpa using h1, h2⟩
theorem texts_at {pins : List (Addr × Obj)} {sh : Shared} {us : List Value} {ms : List M} {vs : List V} (I : Inv C.X pins σ H sh) (r : C.rel g s σ H) (rs : RVs C.T g H ms vs) (rv : Vals vs us) : ∀ {pt : List Pt} {zs : List Str}, textsM s.hp ms pt = some zs → Texts C.X.prog C.X.w sh.heap us pt zs
  | [], _, h => by cases h; exact .nil
  | .inl z :: ps, zs, h => by
    simp only [textsM] at h
    cases ht : textsM s.hp ms ps with
    | none => rw [ht] at h; cases h
    | some ys =>
      rw [ht] at h
      cases h
      exact .txt (texts_at I r rs rv ht)
  | .inr i :: ps, zs, h => by
    simp only [textsM] at h
    cases hm : ms[i]? with
    | none => rw [hm] at h; cases h
    | some m =>
      rw [hm] at h
      dsimp only at h
      cases hf : fmtM s.hp m with
      | none => rw [hf] at h; cases h
      | some z =>
        rw [hf] at h
        dsimp only at h
        cases ht : textsM s.hp ms ps with
        | none => rw [ht] at h; cases h
        | some ys =>
          rw [ht] at h
          cases h
          obtain ⟨v, h1, h2⟩ := rs.get hm
          obtain ⟨u, h3, h4⟩ := vals_at rv h1
          refine .val h3 ?_ (texts_at I r rs rv ht)
          unfold fmtM at hf
          split at hf
          · rename_i i
            split at hf
            · rename_i hb
              cases hf
              cases h2
              obtain ⟨t, rfl⟩ := h4
              exact fun A _ _ => fmt_int hb
            · cases hf
          · split at hf
            · rename_i d hd
              split at hf
              · rename_i hb
                cases hf
                simp only [Bool.and_eq_true, decide_eq_true_eq, Bool.not_eq_true'] at hb
                obtain ⟨⟨⟨⟨h0, b1⟩, b2⟩, b3⟩, b4⟩ := hb
                have d1 := datT_dp r h2 hd
                obtain ⟨a, rfl⟩ := Dp.seq d1 h0
                obtain ⟨as, k1⟩ := Dp.reads I _ _ _ d1 h4
                obtain rfl : u = .ref a := h4
                exact fun A g1 g2 => fmt_ref k1 b1 b2 g1 (by omega) b4
              · cases hf
            · cases hf
end
end Ma
/-! Ma35: a name whose list nobody changes any more. -/
namespace Ma
open L2 PySem.W PySem.Spec PySem PyProof.Rows
section
variable {C : MC} {g g1 : Gh} {H H1 : Hp} {D : Ends} {rest : List Stmt} {b : MStm}
def sFz (i : Nat) : MStm := fun s => match s.env[i]? with
  | some (some (.box n)) => match s.hp[n]? with
    | some (.lst ms) => .ok .nx ⟨s.env.set i (some (.lst ms)), s.hp.set n .dead⟩
    | _ => .stuck
  | _ => .stuck
theorem rdS_fz {i : Nat} {σ : L2.St} (h : rdS C (sSeq (sFz i) b) D σ H) : rdS C b D σ H := by
  obtain ⟨g, s, r, q⟩ := h
  unfold sSeq sFz at q
  cases hi : s.env[i]? with
  | none => rw [hi] at q; exact q.elim
  | some o =>
    rw [hi] at q
    cases o with
    | none => exact q.elim
    | some m =>
      cases m with
      | box n =>
        dsimp only at q
        cases hc : s.hp[n]? with
        | none => rw [hc] at q; exact q.elim
        | some cl =>
          rw [hc] at q
          cases cl with
          | lst ms =>
            obtain ⟨x, hx, rx⟩ := r.get hi
            cases rx with
            | @box _ a e =>
              obtain ⟨r2, mo⟩ := r.still hc e
              obtain ⟨vs, e2, rs⟩ := r.h.cell n _ a hc e
              have r3 := r2.put (i := i) (v := .ref a) (.lst (.inr rfl) e2 (rs.mono mo))
              have hs : σ.set i (some (V.ref a)) = σ := by
                apply List.ext_getElem?
                intro j
                rw [List.getElem?_set]
                by_cases hij : i = j
                · subst hij
                  rw [if_pos rfl, hx]
                  split
                  · rfl
                  · rename_i hlt
                    rw [List.getElem?_eq_none (Nat.le_of_not_lt hlt)] at hx
                    cases hx
                · rw [if_neg hij]
              rw [hs] at r3
              exact ⟨g.add a, _, r3, GoS.later mo q⟩
          | _ => exact q.elim
      | _ => exact q.elim
theorem bm_fz (i : Nat) (h : PMb C rest b) : PMb C rest (sSeq (sFz i) b) := wkB h fun D σ H q => rdS_fz q
end
end Ma
/-! Ma36: what a law's head tells: names, defs, classes, exceptions with an own `__init__`. -/
namespace Ma
open L2 PySem.W PySem.Spec PySem PyProof.Rows
abbrev FnI : Type := Option (Arguments × FuncBody × Scope × Addr × List Str × Addr)
/-- an own `__init__`: of which class, its parts -/
structure IniD where
  cls : Str
  params : Arguments
  body : List Stmt
  scope : Scope
def iniAd (K : Frag) (x : Str) : Addr := He.ma K (He.ga K x) "__init__"
def iniW (K : Frag) (x : Str) : FnI := match K.lookup (iniAd K x) with
  | some ⟨_, _, .func fd, _⟩ => some (fd.params, fd.body, fd.scope, fd.globals, fd.closure.map (·.1), fd.builtins)
  | _ => none
def IniD.val (d : IniD) : FnI := some (d.params, .stmts d.body, d.scope, mainGlobals, [("__class__" : Str)], builtinsNs)
abbrev AlM := Bool × List He.FnW × List FnI
def obsM (fa : List He.Fa) (fn : List He.DefD) (ni : List IniD) (ex : Frag → Bool) (K : Frag) : AlM :=
  ((fa.all fun f => f.ok K) && ((fn.all fun d => d.ok K) && ex K), fn.map fun d => He.fnW K d.at_, ni.map fun d => iniW K d.cls)
def valM (fn : List He.DefD) (ni : List IniD) : AlM := (true, fn.map He.DefD.val, ni.map IniD.val)
def SaysM (fa : List He.Fa) (fn : List He.DefD) (ni : List IniD) (ex : Frag → Bool) (K : Frag) : Prop := obsM fa fn ni ex K = valM fn ni
section
variable {fa : List He.Fa} {fn : List He.DefD} {ni : List IniD} {ex : Frag → Bool} {K : Frag}
theorem SaysM.d (c : SaysM fa fn ni ex K) : He.SaysD fa fn K := by
  have h1 : ((fa.all fun f => f.ok K) && ((fn.all fun d => d.ok K) && ex K)) = true := congrArg (fun z : AlM => z.1) c
  have h2 : (fn.map fun d => He.fnW K d.at_) = fn.map He.DefD.val := congrArg (fun z : AlM => z.2.1) c
  obtain ⟨a, b⟩ := Bool.and_eq_true_iff.mp h1
  obtain ⟨b, _⟩ := Bool.and_eq_true_iff.mp b
  show (((fa.all fun f => f.ok K) && fn.all fun d => d.ok K), fn.map fun d => He.fnW K d.at_) = (true, fn.map He.DefD.val)
  rw [h2, a, b]; rfl
theorem SaysM.more (c : SaysM fa fn ni ex K) : ex K = true := by
  have h1 : ((fa.all fun f => f.ok K) && ((fn.all fun d => d.ok K) && ex K)) = true := congrArg (fun z : AlM => z.1) c
  exact (Bool.and_eq_true_iff.mp (Bool.and_eq_true_iff.mp h1).2).2
theorem SaysM.ini (c : SaysM fa fn ni ex K) {d : IniD} (h : d ∈ ni) : iniW K d.cls = d.val := by
  have h2 : (ni.map fun d => iniW K d.cls) = ni.map IniD.val := congrArg (fun z : AlM => z.2.2) c
  obtain ⟨i, hi, e⟩ := List.mem_iff_getElem.mp h
  have h3 : (ni.map fun d => iniW K d.cls)[i]? = (ni.map IniD.val)[i]? := by rw [h2]
  rw [List.getElem?_map, List.getElem?_map, List.getElem?_eq_getElem hi, e] at h3
  exact Option.some.inj h3
end
/-! ### facts of classes as Bools -/
def eqb (a b : Option (Option Value)) : Bool := decide (a = b)
theorem eqb_ok {a b : Option (Option Value)} (h : eqb a b = true) : a = b := of_decide_eq_true h
def exkB (K : Frag) (C : Addr) : Bool := eqb (findIn K (.ref C) "__init__") (some (some (.builtin "ValueError.__init__"))) && (excInitIn K C VE "ValueError.__new__" && keepIn K (.ref C))
theorem exkB_ok {K : Frag} {C : Addr} (h : exkB K C = true) : ExK K C := by
  obtain ⟨h1, h⟩ := Bool.and_eq_true_iff.mp h
  obtain ⟨h2, h3⟩ := Bool.and_eq_true_iff.mp h
  exact ⟨eqb_ok h1, h2, h3⟩
def excB (K : Frag) (C : Addr) : Bool := xfB K C && (eqb (findIn K (.ref C) "__class__") (some (some (.builtin "object.__class__"))) && (eqb (specialIn K (.builtin "object.__class__") "__get__") (some (some (.builtin "getset_descriptor.__get__"))) && (decide (takesIn K (.builtin "object.__class__") = some true) && decide (mroIn K C (.type "object") = some true))))
theorem excB_ok {K : Frag} {C : Addr} (h : excB K C = true) : ExcC K C ∧ XfC K C := by
  obtain ⟨h1, h⟩ := Bool.and_eq_true_iff.mp h
  obtain ⟨h2, h⟩ := Bool.and_eq_true_iff.mp h
  obtain ⟨h3, h⟩ := Bool.and_eq_true_iff.mp h
  obtain ⟨h4, h5⟩ := Bool.and_eq_true_iff.mp h
  have x := xfB_ok h1
  exact ⟨⟨x.ga, x.gg, x.exC, x.hdC, eqb_ok h2, eqb_ok h3, of_decide_eq_true h4, of_decide_eq_true h5⟩, x⟩
def stB (K : Frag) (C : Addr) (f : Str) : Bool := eqb (findIn K (.ref C) "__setattr__") (some (some (.builtin "object.__setattr__"))) && (excOver K C VE && (eqb (takerIn K C f) (some none) && hasDictIn K C))
theorem stB_ok {K : Frag} {C : Addr} {f : Str} (h : stB K C f = true) : StF K C f := by
  obtain ⟨h1, h⟩ := Bool.and_eq_true_iff.mp h
  obtain ⟨h2, h⟩ := Bool.and_eq_true_iff.mp h
  obtain ⟨h3, h4⟩ := Bool.and_eq_true_iff.mp h
  exact ⟨eqb_ok h1, h2, eqb_ok h3, h4⟩
/-! ### exceptions with an own `__init__` -/
def cellB (K : Frag) (cc C : Addr) : Bool := match K.lookup cc with
  | some ⟨_, _, .cell (some (.ref D)), _⟩ => decide (D = C)
  | _ => false
theorem cellB_ok {K : Frag} {cc C : Addr} (h : cellB K cc C = true) : ∃ (cl : Value) (cld : Option Addr) (csl : Array (Option Value)), K.lookup cc = some { cls := cl, dict := cld, data := .cell (some (.ref C)), slots := csl } := by
  unfold cellB at h
  split at h
  · rename_i a b D c e
    rw [of_decide_eq_true h] at e
    exact ⟨_, _, _, e⟩
  · cases h
def fileB (P : Program) (K : Frag) (cda : Addr) : Bool := match K.lookup cda with
  | some ⟨_, _, .fields vs, _⟩ => (match vs[2]? with
    | some (Value.str file _) => P.main.file == file
    | _ => false)
  | _ => false
theorem fileB_ok {P : Program} {K : Frag} {cda : Addr} (h : fileB P K cda = true) : ∃ (ccl : Value) (cdd : Option Addr) (vs : Array Value) (ccs : Array (Option Value)) (file : Str) (tf : Tok), K.lookup cda = some { cls := ccl, dict := cdd, data := .fields vs, slots := ccs } ∧ vs[2]? = some (.str file tf) ∧ (P.main.file == file) = true := by
  unfold fileB at h
  split at h
  · rename_i a b vs c e
    split at h
    · rename_i file tf e2
      exact ⟨_, _, _, _, _, _, e, e2, h⟩
    · cases h
  · cases h
def noneB (v : Value) : Bool := match v with
  | .none => true
  | _ => false
theorem noneB_ok {v : Value} (h : noneB v = true) : v = .none := by
  cases v <;> first | rfl | cases h
def fnB (P : Program) (K : Frag) (C : Addr) (f : Addr) : Bool := match K.lookup f with
  | some ⟨.type c, _, .func fd, _⟩ => decide (c = "function") && (noneB fd.defaults && (codeIn K fd.code fd.qualname && ((match fd.closure with
    | [(_, cc)] => cellB K cc C
    | _ => false) && (match fd.code with
    | .ref cda => fileB P K cda
    | _ => false))))
  | _ => false
structure FnB (P : Program) (K : Frag) (C f : Addr) (fd : FuncData) (cc cda : Addr) : Prop where
  lk : ∃ (od : Option Addr) (osl : Array (Option Value)), K.lookup f = some { cls := .type "function", dict := od, data := .func fd, slots := osl }
  df : fd.defaults = .none
  co : codeIn K fd.code fd.qualname = true
  cl : ∃ n, fd.closure = [(n, cc)]
  cell : ∃ (cl : Value) (cld : Option Addr) (csl : Array (Option Value)), K.lookup cc = some { cls := cl, dict := cld, data := .cell (some (.ref C)), slots := csl }
  cd : fd.code = .ref cda
  file : ∃ (ccl : Value) (cdd : Option Addr) (vs : Array Value) (ccs : Array (Option Value)) (file : Str) (tf : Tok), K.lookup cda = some { cls := ccl, dict := cdd, data := .fields vs, slots := ccs } ∧ vs[2]? = some (.str file tf) ∧ (P.main.file == file) = true
theorem fnB_ok {P : Program} {K : Frag} {C f : Addr} (h : fnB P K C f = true) : ∃ fd cc cda, FnB P K C f fd cc cda := by
  unfold fnB at h
  split at h
  · rename_i c od fd osl e
    obtain ⟨h1, h⟩ := Bool.and_eq_true_iff.mp h
    obtain ⟨h0, h⟩ := Bool.and_eq_true_iff.mp h
    obtain ⟨h2, h⟩ := Bool.and_eq_true_iff.mp h
    obtain ⟨h3, h4⟩ := Bool.and_eq_true_iff.mp h
    rw [of_decide_eq_true h1] at e
    split at h3
    · rename_i n cc e3
      split at h4
      · rename_i cda e4
        exact ⟨fd, cc, cda, ⟨_, _, e⟩, noneB_ok h0, h2, ⟨n, e3⟩, cellB_ok h3, e4, fileB_ok h4⟩
      · cases h4
    · cases h3
  · cases h
def iniB (P : Program) (K : Frag) (C f : Addr) : Bool := eqb (findIn K (.ref C) "__init__") (some (some (.ref f))) && (excInitIn K C VE "ValueError.__new__" && (keepIn K (.ref C) && ((clsIn K C).isSome && (decide (mroIn K C (.ref C) = some true) && (eqb (nsIn K cStatics "thirdparty.any") (some none) && (eqb (ks_superIn K C C "__init__") (some (some (.builtin "ValueError.__init__"))) && (decide (subIn K (.ref C) (.type "ValueError") = some true) && fnB P K C f)))))))
theorem iniB_ok {P : Program} {K : Frag} {x : Str} {mg mb : Str → Option Value} {d : IniD} {ps : List Str} (h : iniB P K (He.ga K x) (iniAd K x) = true) (hw : iniW K x = d.val)
    (top : (P.main.scope.names.lookup ("super" : Str)).isSome = false) (hmg : mg "super" = none) (hmb : mb "super" = some (.type "super"))
    (hk : d.scope.kind = .function) (co : d.scope.isCoroutine = false) (ge : d.scope.isGenerator = false) (s1 : d.scope.names.lookup ("super" : Str) = some NameKind.globalImplicit) (s2 : d.scope.names.lookup ("__class__" : Str) = some NameKind.free)
    (nc : ∀ x ∈ d.scope.names, x.2 ≠ .cell) (lo : ∀ x ∈ ps, d.scope.names.lookup x = some .local)
    (bd : ∀ fd : FuncData, fd.params = d.params → fd.defaults = .none → ∀ us : List Value, us.length = ps.length → bindArgs fd ⟨us, []⟩ = pure (ps.zip us)) :
    keepIn K (.ref (He.ga K x)) = true ∧ ∃ cda cc fd, IniF P K mg mb (He.ga K x) (He.ga K x) cda cc (iniAd K x) fd ps ∧ fd.params = d.params ∧ fd.body = .stmts d.body ∧ fd.scope = d.scope := by
  obtain ⟨h1, h⟩ := Bool.and_eq_true_iff.mp h
  obtain ⟨h2, h⟩ := Bool.and_eq_true_iff.mp h
  obtain ⟨h3, h⟩ := Bool.and_eq_true_iff.mp h
  obtain ⟨h4, h⟩ := Bool.and_eq_true_iff.mp h
  obtain ⟨h5, h⟩ := Bool.and_eq_true_iff.mp h
  obtain ⟨h6, h⟩ := Bool.and_eq_true_iff.mp h
  obtain ⟨h7, h⟩ := Bool.and_eq_true_iff.mp h
  obtain ⟨h8, h9⟩ := Bool.and_eq_true_iff.mp h
  obtain ⟨fd, cc, cda, F⟩ := fnB_ok h9
  obtain ⟨od, osl, lk⟩ := F.lk
  obtain ⟨n, cl⟩ := F.cl
  refine ⟨h3, cda, cc, fd, ?_⟩
  unfold iniW at hw
  rw [lk] at hw
  have hw2 : (some (fd.params, fd.body, fd.scope, fd.globals, fd.closure.map (·.1), fd.builtins) : FnI) = some (d.params, .stmts d.body, d.scope, mainGlobals, [("__class__" : Str)], builtinsNs) := hw
  rw [cl] at hw2
  simp only [Option.some.injEq, Prod.mk.injEq, List.map_cons, List.map_nil, List.cons.injEq, and_true] at hw2
  obtain ⟨w1, w2, w3, w4, w5, w6⟩ := hw2
  have w5' : n = ("__class__" : Str) := w5
  subst w5'
  exact ⟨⟨eqb_ok h1, h2, ⟨_, _, lk⟩, F.co, ⟨Option.isSome_iff_exists.mp h4, of_decide_eq_true h5, eqb_ok h6, eqb_ok h7, of_decide_eq_true h8, F.cell, F.file, top, hmg, hmb⟩,
    by rw [w3]; exact hk, by rw [w3]; exact co, by rw [w3]; exact ge, w4, w6, cl, F.cd, by rw [w3]; exact s1, by rw [w3]; exact s2, by rw [w3]; exact nc, bd fd w1 F.df, by rw [w3]; exact lo⟩, w1, w2, w3⟩
/-! ### own names' addresses -/
def adOf (K : Frag) (cs : List Str) (c : Str) : Option Addr := if cs.contains c then some (He.ga K c) else none
theorem adOf_mem {K : Frag} {cs : List Str} {c : Str} (h : cs.contains c = true) : adOf K cs c = some (He.ga K c) := if_pos h
theorem adOf_at {K : Frag} {cs : List Str} {c : Str} {A : Addr} (h : adOf K cs c = some A) : A = He.ga K c := by
  unfold adOf at h
  split at h
  · exact (Option.some.inj h).symm
  · cases h
/-- the machine's own kinds of values -/
def tys : List String := ["NoneType", "bool", "int", "str", "bytes", "tuple", "list", "dict"]
/-- isinstance by the classes' chains -/
def isiM (mros : List (Str × List Tg)) (bi : List String) : Tg → Tg → Option Bool
  | .own c, .own d => (mros.lookup c).map fun l => l.contains (.own d)
  | .own c, .bi m => if bi.contains m = true then (mros.lookup c).map fun l => l.contains (.bi m) else none
  | .bi n, .own _ => if tys.contains n = true then some false else none
  | .bi n, .bi m => kitB n m
def kitS (K : Frag) (t u : Value) : Option Bool → Bool
  | some b => decide (kitOne K t u = some b)
  | none => true
theorem kitS_ok {K : Frag} {t u : Value} {r : Option Bool} {b : Bool} (h : kitS K t u r = true) (e : r = some b) : kitOne K t u = some b := by
  rw [e] at h
  exact of_decide_eq_true h
def isiB (K : Frag) (cs : List Str) (mros : List (Str × List Tg)) (bi : List String) : Bool :=
  cs.all fun d => (cs.all fun c => kitS K (.ref (He.ga K c)) (.ref (He.ga K d)) (isiM mros bi (.own c) (.own d))) && ((bi.all fun m => kitS K (.ref (He.ga K d)) (.type m) (isiM mros bi (.own d) (.bi m))) && tys.all fun n => kitS K (.type n) (.ref (He.ga K d)) (some false))
theorem isiB_ok {tb : List (Addr × Str)} {K : Frag} {cs : List Str} {mros : List (Str × List Tg)} {bi : List String} (h : isiB K cs mros bi = true) :
    ∀ t u b, isiM mros bi t u = some b → ∀ tv uv, t.At ⟨K, adOf K cs, tb⟩ tv → u.At ⟨K, adOf K cs, tb⟩ uv → kitOne K tv uv = some b := by
  have main : ∀ d, cs.contains d = true → (cs.all fun c => kitS K (.ref (He.ga K c)) (.ref (He.ga K d)) (isiM mros bi (.own c) (.own d))) = true ∧ (bi.all fun m => kitS K (.ref (He.ga K d)) (.type m) (isiM mros bi (.own d) (.bi m))) = true ∧ (tys.all fun n => kitS K (.type n) (.ref (He.ga K d)) (some false)) = true := fun d hd => by
    have h1 := List.all_eq_true.mp h d (List.contains_iff_mem.mp hd)
    obtain ⟨a, b⟩ := Bool.and_eq_true_iff.mp h1
    obtain ⟨b, c⟩ := Bool.and_eq_true_iff.mp b
    exact ⟨a, b, c⟩
  have mem : ∀ {c : Str} {A : Addr}, adOf K cs c = some A → cs.contains c = true := fun {c A} e => by
    unfold adOf at e
    split at e
    · assumption
    · cases e
  intro t u b e tv uv ht hu
  cases t with
  | own c =>
    obtain ⟨A, ha, rfl⟩ := ht
    have ha : adOf K cs c = some A := ha
    obtain ⟨m1, m2, m3⟩ := main c (mem ha)
    rw [adOf_at ha]
    cases u with
    | own d =>
      obtain ⟨D, hd, rfl⟩ := hu
      have hd : adOf K cs d = some D := hd
      obtain ⟨n1, _⟩ := main d (mem hd)
      rw [adOf_at hd]
      exact kitS_ok (List.all_eq_true.mp n1 c (List.contains_iff_mem.mp (mem ha))) e
    | bi m =>
      have hu : uv = .type m := hu
      subst hu
      have e2 := e
      unfold isiM at e2
      dsimp only at e2
      split at e2
      · rename_i hm
        exact kitS_ok (List.all_eq_true.mp m2 m (List.contains_iff_mem.mp hm)) e
      · cases e2
  | bi n =>
    have ht : tv = .type n := ht
    subst ht
    cases u with
    | own d =>
      obtain ⟨D, hd, rfl⟩ := hu
      have hd : adOf K cs d = some D := hd
      obtain ⟨_, _, n3⟩ := main d (mem hd)
      rw [adOf_at hd]
      unfold isiM at e
      dsimp only at e
      split at e
      · rename_i hn
        exact kitS_ok (List.all_eq_true.mp n3 n (List.contains_iff_mem.mp hn)) e
      · cases e
    | bi m =>
      have hu : uv = .type m := hu
      subst hu
      exact kit_ty e
end Ma
/-! Ma37: a class's method in the text; the parts of super().__init__(..). -/
namespace Ma
open L2 PySem.W PySem.Spec PySem PyProof.Rows
def clsMeth (s : Stmt) (j : Nat) : Stmt := match s with
  | .ClassDef _ _ _ b _ _ _ _ _ _ _ => b.getD j (.Pass ⟨0, 0, 0, 0⟩)
  | _ => .Pass ⟨0, 0, 0, 0⟩
def jsOf (s : Stmt) : Expr := match defBody s with
  | .Expr (.Call _ (js :: _) _ _) _ :: _ => js
  | _ => .Name "" ⟨0, 0, 0, 0⟩
def rp (s : Stmt) (k : Nat) : Pos := match defBody s with
  | .Expr (.Call (.Attribute (.Call (.Name _ p0) _ _ p1) _ p2) _ _ p3) p4 :: _ => [p0, p1, p2, p3, p4].getD k ⟨0, 0, 0, 0⟩
  | _ => ⟨0, 0, 0, 0⟩
theorem hself_of {fd : FuncData} {p : Arguments} {sf : Str} (e : fd.params = p) (h : ((p.posonlyargs ++ p.args).head?).map (·.arg) = some sf) : ∃ ar, (fd.params.posonlyargs ++ fd.params.args).head? = some ar ∧ ar.arg = sf := by
  rw [e]
  cases q : (p.posonlyargs ++ p.args).head? with
  | none => rw [q] at h; cases h
  | some ar => rw [q] at h; exact ⟨ar, rfl, Option.some.inj h⟩
end Ma
/-! Ma38: operators of own instances. -/
namespace Ma
open L2 PySem.W PySem.Spec PySem PyProof.Rows
/-- the own class named c has under this name a def that keeps its mirror -/
structure KnM (P : Program) (w : World) (mg : Str → Option Value) (base : Heap) (T : Tab) (c name : Str) (k : Nat) (F : Fn) : Prop where
  ex : ∀ A, T.ad c = some A → ∃ f : Addr, FnP P w mg base T k f F ∧ findIn T.K (.ref A) name = some (some (.ref f)) ∧ isFn T.K (.ref f) = true ∧ fnIn T.K f = true
theorem RoomG.in1 {k : Nat} {A : Around} (r : RoomG (k + 1) A) : RoomG k A.in1 := ⟨r.toRoom.in1, r.gs⟩
section
variable {C : MC} {g g1 : Gh} {H H1 : Hp} {s : MS} {σ : L2.St} {ea eb ex : Expr} {es : List Expr} {a b : ME} {ma : MA} {pos p : Pos} {x c name f : Str} {k : Nat} {F : Fn} {pins : List (Addr × Obj)} {sh : Shared}
/-- an instance in a box, on the heap -/
theorem ins_at {n : Nat} {fms : List (Str × M)} {v : V} (I : Inv C.X pins σ H sh) (r : C.rel g s σ H) (hc : s.hp[n]? = some (.ins c fms)) (rv : RV C.T g H (.box n) v) :
    ∃ a A dx fvs od ox, v = .ref a ∧ C.T.ad c = some A ∧ H a = some (.ins A dx fvs) ∧ RFs C.T g H fms fvs ∧ g.ro[n]? = some a ∧ InstAt sh.heap a ox A (some od) := by
  obtain ⟨p, rfl, hp, A, dx, fvs, ad, e, rf⟩ := r.cellAt hc rv
  obtain ⟨mA, J, _⟩ := ins_get I.hok e
  obtain ⟨od, J, _⟩ := J.look
  exact ⟨p, A, dx, fvs, _, _, rfl, ad, e, rf, hp, J⟩
/-- the callee runs inside a built-in's code -/
theorem run_in1 {Q : VK} {fa : Addr} {us : List Value} {args : List M} {vs : List V} (G : FnP C.X.prog C.X.w C.X.mg C.X.base C.T k fa F) (hr : RoomG (k + 1) C.X.A) (tk : Takes C.X C.W)
    (I : Inv C.X pins σ H sh) (r : C.rel g s σ H) (rs : RVs C.T g H args vs) (rv : Vals vs us) (h : Go C C.V1 σ (upF s.env (F args s.hp)) g H Q) :
    wpAny (model C.X.prog C.X.w) C.X.A.in1 (call (.ref fa) us) (EP C.X pins σ Q) C.X.xe sh := by
  have e0 : Env0 C.X.prog C.X.w C.T.K C.X.mg C.X.base C.X.A C.X.stack sh H := C.hK ▸ I.env0
  refine wpAny_call (codeAny_mono (G.run C.X.A.in1 C.X.stack sh H us vs Q _ hr.in1 e0.in1 rv (sp_up r rs h)) fun res s' hq => ?_)
  cases res with
  | error x => exact tk x s' (XE.of_call I (fun _ _ _ z => z) hq)
  | ok fl =>
    cases fl with
    | ret u => exact I.after hq
    | next => exact hq.elim
    | brk => exact hq.elim
    | cont => exact hq.elim
/-- the class of a value -/
def isIns (c : Str) (x : M) (s : MS) : Bool := match x with
  | .box n => match s.hp[n]? with
    | some (.ins c' _) => c' == c
    | _ => false
  | _ => false
theorem isIns_of {c : Str} {x : M} {s : MS} (h : isIns c x s = true) : ∃ n fms, x = .box n ∧ s.hp[n]? = some (.ins c fms) := by
  unfold isIns at h
  split at h
  · split at h
    · rename_i c' fms e
      rw [beq_iff_eq.mp h] at e
      exact ⟨_, _, rfl, e⟩
    · cases h
  · cases h
/-- a result, looked at -/
def upP (post : M → Option M) (r : Res M) : Res M := match r with
  | .ok m s => match post m with
    | some m' => .ok m' s
    | none => .stuck
  | .err x s => .err x s
  | .stuck => .stuck
def pBl : M → Option M
  | .bl b => some (.bl b)
  | _ => none
def pNot : M → Option M
  | .bl b => some (.bl (!b))
  | _ => none
def pNat : M → Option M
  | .int i => if 0 ≤ i ∧ i < 9223372036854775808 then some (.int i) else none
  | _ => none
def oDun (c : Str) (F : Fn) (o : M → M → MS → Res M) : M → M → MS → Res M := fun x y s => if isIns c x s = true then upF s.env (F [x, y] s.hp) else o x y s
/-- with the operands the other way, the answer looked at -/
def oDunR (c : Str) (F : Fn) (post : M → Option M) (o : M → M → MS → Res M) : M → M → MS → Res M := fun x y s => if isIns c y s = true then upP post (upF s.env (F [y, x] s.hp)) else o x y s
theorem Go.post {post : M → Option M} {r : Res M} {Q : VK} (h : Go C C.V1 σ (upP post r) g H Q) : Go C C.V1 σ r g H fun v H1 => ∃ m m' s1 g1, C.rel g1 s1 σ H1 ∧ RV C.T g1 H1 m v ∧ post m = some m' ∧ Go C C.V1 σ (.ok m' s1) g1 H1 Q := by
  cases r with
  | stuck => exact h.elim
  | err x s => exact h
  | ok m s =>
    intro g1 H1 v mo r1 rv
    unfold upP at h
    dsimp only at h
    cases hp : post m with
    | none => rw [hp] at h; exact h.elim
    | some m' =>
      rw [hp] at h
      exact ⟨m, m', s, g1, r1, rv, hp, fun g2 H2 v2 mo2 r2 rv2 => h g2 H2 v2 (mo.trans mo2) r2 rv2⟩
theorem op_dunIn {o : M → M → MS → Res M} (M1 : KnM C.X.prog C.X.w C.X.mg C.X.base C.T c "__contains__" k F) (hr : RoomG k C.X.A) (tk : Takes C.X C.W) (h : Op2Ok C (compareOp .In) o) : Op2Ok C (compareOp .In) (oDunR c F pBl o) := by
  intro pins sh σ H g ms m1 m2 x y v u Q I r r1 r2 l1 l2 q
  unfold oDunR at q
  by_cases hi : isIns c m2 ms = true
  · rw [if_pos hi] at q
    obtain ⟨n, fms, rfl, hc⟩ := isIns_of hi
    obtain ⟨a, A, dx, fvs, od, ox, rfl, ad, e, rf, hro, J⟩ := ins_at I r hc r2
    cases (show u = Value.ref a from l2)
    obtain ⟨f, fp, hs, hf, hfn⟩ := M1.ex A ad
    obtain ⟨m, hF⟩ := I.fr
    refine in_K hF (C.hK ▸ I.ok.mod.kin) J hs hf (thn (run_p fp hr tk I r (.cons r2 (.cons r1 .nil)) (.cons rfl (.cons l1 .nil)) q.post) fun z s2 ⟨vz, H2, I2, rz, m, m', s3, g3, r3, rv3, hp, q3⟩ => ?_)
    cases m <;> first | cases hp | skip
    rename_i b
    cases rv3
    cases (show z = Value.bool b from rz)
    exact wpAny_truthy_bool ⟨.bl b, H2, I2, rfl, q3.ret r3 (.bl b)⟩
  · rw [if_neg hi] at q
    exact h pins sh σ H g ms m1 m2 x y v u Q I r r1 r2 l1 l2 q
theorem op_dunNotIn {o : M → M → MS → Res M} (M1 : KnM C.X.prog C.X.w C.X.mg C.X.base C.T c "__contains__" k F) (hr : RoomG k C.X.A) (tk : Takes C.X C.W) (h : Op2Ok C (compareOp .NotIn) o) : Op2Ok C (compareOp .NotIn) (oDunR c F pNot o) := by
  intro pins sh σ H g ms m1 m2 x y v u Q I r r1 r2 l1 l2 q
  unfold oDunR at q
  by_cases hi : isIns c m2 ms = true
  · rw [if_pos hi] at q
    obtain ⟨n, fms, rfl, hc⟩ := isIns_of hi
    obtain ⟨a, A, dx, fvs, od, ox, rfl, ad, e, rf, hro, J⟩ := ins_at I r hc r2
    cases (show u = Value.ref a from l2)
    obtain ⟨f, fp, hs, hf, hfn⟩ := M1.ex A ad
    obtain ⟨m, hF⟩ := I.fr
    refine notIn_K hF (C.hK ▸ I.ok.mod.kin) J hs hf (thn (run_p fp hr tk I r (.cons r2 (.cons r1 .nil)) (.cons rfl (.cons l1 .nil)) q.post) fun z s2 ⟨vz, H2, I2, rz, m, m', s3, g3, r3, rv3, hp, q3⟩ => ?_)
    cases m <;> first | cases hp | skip
    rename_i b
    cases rv3
    cases (show z = Value.bool b from rz)
    exact wpAny_truthy_bool ⟨.bl (!b), H2, I2, rfl, q3.ret r3 (.bl (!b))⟩
  · rw [if_neg hi] at q
    exact h pins sh σ H g ms m1 m2 x y v u Q I r r1 r2 l1 l2 q
end
end Ma
/-! Ma39: x[k] of lists, dicts, own instances. -/
namespace Ma
open L2 PySem.W PySem.Spec PySem PyProof.Rows
section
variable {κ β : Type} [DecidableEq κ]
def valG (kvs : List (κ × β)) (k : κ) : Option β := (kvs.find? fun kv => decide (kv.1 = k)).map (·.2)
def putG (kvs : List (κ × β)) (k : κ) (v : β) : List (κ × β) := if (kvs.any fun kv => decide (kv.1 = k)) = true then kvs.map (fun kv => if kv.1 = k then (kv.1, v) else kv) else kvs ++ [(k, v)]
end
section
variable {C : MC} {g g1 : Gh} {H H1 : Hp} {s : MS} {σ : L2.St} {ea eb ex : Expr} {es : List Expr} {a b : ME} {ma : MA} {pos p : Pos} {x c name f : Str} {k : Nat} {F : Fn} {pins : List (Addr × Obj)} {sh : Shared} {T : Tab}
theorem RFs.valG {κ : Type} [DecidableEq κ] {fs : List (κ × M)} {vs : List (κ × V)} (r : RFs T g H fs vs) (k : κ) : (∃ m v, Ma.valG fs k = some m ∧ valV vs k = some v ∧ RV T g H m v) ∨ (Ma.valG fs k = none ∧ valV vs k = none) := by
  induction r with
  | nil => exact .inr ⟨rfl, rfl⟩
  | @cons j m v fs vs q t ih =>
    by_cases e : j = k
    · exact .inl ⟨m, v, by simp [Ma.valG, List.find?_cons, e], by simp [valV, List.find?_cons, e], q⟩
    · have e1 : Ma.valG ((j, m) :: fs) k = Ma.valG fs k := by simp [Ma.valG, List.find?_cons, e]
      have e2 : valV ((j, v) :: vs) k = valV vs k := by simp [valV, List.find?_cons, e]
      rw [e1, e2]
      exact ih
theorem RFs.any {κ : Type} [DecidableEq κ] {fs : List (κ × M)} {vs : List (κ × V)} (r : RFs T g H fs vs) (k : κ) : (fs.any fun kv => decide (kv.1 = k)) = (vs.any fun kv => decide (kv.1 = k)) := by
  induction r with
  | nil => rfl
  | cons q t ih => rw [List.any_cons, List.any_cons, ih]
theorem RFs.repl {κ : Type} [DecidableEq κ] {fs : List (κ × M)} {vs : List (κ × V)} {m : M} {v : V} (r : RFs T g H fs vs) (k : κ) (rv : RV T g H m v) : RFs T g H (fs.map fun kv => if kv.1 = k then (kv.1, m) else kv) (vs.map fun kv => if kv.1 = k then (kv.1, v) else kv) := by
  induction r with
  | nil => exact .nil
  | @cons j m' v' fs vs q t ih =>
    rw [List.map_cons, List.map_cons]
    by_cases e : j = k
    · dsimp only
      rw [if_pos e, if_pos e]
      exact .cons rv ih
    · dsimp only
      rw [if_neg e, if_neg e]
      exact .cons q ih
theorem RFs.append {κ : Type} {fs fs' : List (κ × M)} {vs vs' : List (κ × V)} (r : RFs T g H fs vs) (r' : RFs T g H fs' vs') : RFs T g H (fs ++ fs') (vs ++ vs') := by
  induction r with
  | nil => exact r'
  | cons q t ih => exact .cons q ih
theorem RFs.put {κ : Type} [DecidableEq κ] {fs : List (κ × M)} {vs : List (κ × V)} {m : M} {v : V} (r : RFs T g H fs vs) (k : κ) (rv : RV T g H m v) : RFs T g H (putG fs k m) (putK vs k v) := by
  unfold putG putK
  rw [r.any k]
  split
  · exact r.repl k rv
  · exact r.append (.cons rv .nil)
/-- a key of a dict -/
def keyM : M → Option Key
  | .int i => some (.inl i)
  | .str z => some (.inr z)
  | _ => none
theorem keyM_at {m : M} {k : Key} {v : V} (h : keyM m = some k) (r : RV T g H m v) : v = kV k := by
  cases m <;> first | cases h | skip
  · cases r; rfl
  · cases r; rfl
/-- a dict in a box, to be changed -/
def dictL (hp : List Cell) (x : M) : Option (List (Key × M)) := match x with
  | .box n => match hp[n]? with
    | some (.dK kms) => some kms
    | _ => none
  | _ => none
theorem dictL_at {x : M} {kms : List (Key × M)} {v : V} (r : C.rel g s σ H) (h : dictL s.hp x = some kms) (rv : RV C.T g H x v) : ∃ n a kvs, x = .box n ∧ s.hp[n]? = some (.dK kms) ∧ v = .ref a ∧ g.ro[n]? = some a ∧ H a = some (.dK kvs) ∧ RFs C.T g H kms kvs := by
  unfold dictL at h
  split at h
  · rename_i n
    split at h
    · rename_i kms' e
      cases h
      obtain ⟨a, rfl, hp, kvs, e2, rf⟩ := r.cellAt e rv
      exact ⟨n, a, kvs, rfl, e, rfl, hp, e2, rf⟩
    · cases h
  · cases h
/-- a dict in a box, to be read -/
def dictOf (hp : List Cell) (x : M) : Option (List (Key × M)) := match x with
  | .box n => match hp[n]? with
    | some (.dK kms) => some kms
    | some (.dF kms) => some kms
    | _ => none
  | _ => none
theorem dictOf_at {x : M} {kms : List (Key × M)} {v : V} (r : C.rel g s σ H) (h : dictOf s.hp x = some kms) (rv : RV C.T g H x v) : ∃ n a kvs, x = .box n ∧ v = .ref a ∧ g.ro[n]? = some a ∧ Rd H a (.dK kvs) ∧ RFs C.T g H kms kvs := by
  unfold dictOf at h
  split at h
  · rename_i n
    split at h
    · rename_i kms' e
      cases h
      obtain ⟨a, rfl, hp, kvs, e2, rf⟩ := r.cellAt e rv
      exact ⟨n, a, kvs, rfl, rfl, hp, .inl e2, rf⟩
    · rename_i kms' e
      cases h
      obtain ⟨a, rfl, hp, o, kvs, e2, rf⟩ := r.cellAt e rv
      exact ⟨n, a, kvs, rfl, rfl, hp, .inr ⟨_, e2⟩, rf⟩
    · cases h
  · cases h
/-- a subscription's tail, its ground -/
def IxG (C : MC) (o : M → M → MS → Res M) : Prop :=
  ∀ (value slice : Expr) (pins : List (Addr × Obj)) (sh : Shared) (σ : L2.St) (H : Hp) (g : Gh) (ms : MS) (m1 m2 : M) (x y : V) (v u : Value) (Q : VK), Inv C.X pins σ H sh → C.rel g ms σ H → RV C.T g H m1 x → RV C.T g H m2 y → RelV x v → RelV y u →
    subscripted slice false v u = operate [v, u] (getItem v u) → subscripted slice true v u = runValue (.builtin "lifetime.subscript" ⟨[v, u], []⟩) → Go C C.V1 σ (o m1 m2 ms) g H Q → wpAny (model C.X.prog C.X.w) C.X.A (subscriptTail value slice v u) (EP C.X pins σ Q) C.X.xe sh
theorem ixG_seq : IxG C oIx := fun value slice pins sh σ H g ms m1 m2 x y v u Q I r r1 r2 l1 l2 h1 _ q => ix_seq value slice pins sh σ H x y v u Q I l1 l2 (oIx_at q r r1 r2) h1
/-- d[k] -/
def oIxD (o : M → M → MS → Res M) (x y : M) (s : MS) : Res M := match dictOf s.hp x with
  | some kms => match keyM y with
    | some k => match valG kms k with
      | some m => .ok m s
      | none => .stuck
    | none => .stuck
  | none => o x y s
theorem subT {prog : Program} {w : World} {A : Around} {E : Value → Shared → Prop} {s : Shared} {value slice : Expr} {o i : Value} {T id : String} {Q : Value → Shared → Prop} (hT : s.TypeIs o T)
    (hl : typeLookup (.type T) "__getitem__" = pure (some (.builtin id))) (hs : subscripted slice false o i = operate [o, i] (getItem o i)) (h : wpAny (model prog w) A (getItem o i) Q E s) : wpAny (model prog w) A (subscriptTail value slice o i) Q E s := by
  unfold subscriptTail
  refine wpAny_bind ?_
  rw [getitemInPython_of_ne hT.not_modules]
  refine wpAny_bind (wpAny_specialOf hT hl ?_)
  have fin : wpAny (model prog w) A (subscripted slice false o i) (fun r s₃ => wpAny (model prog w) A (letTemporaryGo value o r >>= fun _ => pure r) Q E s₃) E s := by
    rw [hs]
    exact wpAny_operating (wpAny_mono h (fun r s₃ h₃ => wpAny_bind (wpAny_letTemporaryGo (wpAny_pure h₃))) fun _ _ x => x)
  first
    | exact wpAny_pure (wpAny_bind fin)
    | exact wpAny_bind (wpAny_pure (wpAny_bind fin))
    | exact wpAny_bind fin
theorem ixG_dict {o : M → M → MS → Res M} (hu : C.X.A.units + 1 < cLine) (h : IxG C o) : IxG C (oIxD o) := by
  intro value slice pins sh σ H g ms m1 m2 x y v u Q I r r1 r2 l1 l2 h1 h2 q
  unfold oIxD at q
  split at q
  · rename_i kms hd
    split at q
    · rename_i ky hk
      split at q
      · rename_i m hm
        obtain ⟨n, a, kvs, rfl, rfl, hro, e, rf⟩ := dictOf_at r hd r1
        cases (show v = Value.ref a from l1)
        have ey := keyM_at hk r2
        subst ey
        rcases rf.valG ky with ⟨m', vv, e1, e2, rv⟩ | ⟨e1, _⟩
        · rw [hm] at e1
          cases e1
          have gt : DGet H a (kV ky) (some vv) := .inl ⟨kvs, ky, e, rfl, e2.symm⟩
          exact subT (dict_typeIs I gt) PySem.F.slot_dict_getitem.lookup h1 (d_getItem hu I gt l2 fun w' s' I' rw' => ⟨vv, H, I', rw', q.ret r rv⟩)
        · rw [hm] at e1; cases e1
      · exact q.elim
    · exact q.elim
  · exact h value slice pins sh σ H g ms m1 m2 x y v u Q I r r1 r2 l1 l2 h1 h2 q
theorem ixG_dun {o : M → M → MS → Res M} (M1 : KnM C.X.prog C.X.w C.X.mg C.X.base C.T c "__getitem__" k F) (hr : RoomG (k + 1) C.X.A) (tk : Takes C.X C.W) (h : IxG C o) : IxG C (oDun c F o) := by
  intro value slice pins sh σ H g ms m1 m2 x y v u Q I r r1 r2 l1 l2 h1 h2 q
  unfold oDun at q
  by_cases hi : isIns c m1 ms = true
  · rw [if_pos hi] at q
    obtain ⟨n, fms, rfl, hc⟩ := isIns_of hi
    obtain ⟨a, A, dx, fvs, od, ox, rfl, ad, e, rf, hro, J⟩ := ins_at I r hc r1
    cases (show v = Value.ref a from l1)
    obtain ⟨f, fp, hs, hf, hfn⟩ := M1.ex A ad
    obtain ⟨m, hF⟩ := I.fr
    exact sub_K hF (C.hK ▸ I.ok.mod.kin) J hs hfn hf (run_in1 fp hr tk I r (.cons r1 (.cons r2 .nil)) (.cons rfl (.cons l2 .nil)) q) h2
  · rw [if_neg hi] at q
    exact h value slice pins sh σ H g ms m1 m2 x y v u Q I r r1 r2 l1 l2 h1 h2 q
def PlainIx2 (b : Expr) : Prop := (∀ o i, subscripted b false o i = operate [o, i] (getItem o i)) ∧ ∀ o i, subscripted b true o i = runValue (.builtin "lifetime.subscript" ⟨[o, i], []⟩)
theorem em_ixG {o : M → M → MS → Res M} (ho : IxG C o) (ha : PMe C ea a) (hb : PMe C eb b) (hs : PlainIx2 eb) : PMe C (.Subscript ea eb pos) (m2 o a b) := by
  refine ⟨fun pins sh σ H Q I h => Subscript_ ?_⟩
  exact both ha hb I h fun v u s2 x y H2 g2 ms m1 m2 I2 r2 rv1 rv2 l1 l2 q => ho ea eb pins s2 σ H2 g2 ms m1 m2 x y v u Q I2 r2 rv1 rv2 l1 l2 (hs.1 _ _) (hs.2 _ _) q
end
end Ma
/-! Ma40: stores at a place, in, calls of built-in functions, of dicts and own instances. -/
namespace Ma
open L2 PySem.W PySem.Spec PySem PyProof.Rows
section
variable {C : MC} {g g1 : Gh} {H H1 : Hp} {s : MS} {σ : L2.St} {ea eb ex eo ei : Expr} {es : List Expr} {a b : ME} {ma : MA} {pos p : Pos} {x c name f : Str} {k : Nat} {F : Fn} {pins : List (Addr × Obj)} {sh : Shared} {T : Tab}
/-! ### x[k] = w -/
def GoU (C : MC) (σ : L2.St) (r : Res Unit) (g : Gh) (H : Hp) (Q : Hp → Prop) : Prop := match r with
  | .ok _ s1 => ∀ (g' : Gh) (H' : Hp), Mono g H g' H' → C.rel g' s1 σ H' → Q H'
  | .err x s1 => ∀ (g' : Gh) (H' : Hp) (cls : Value) (d : Option Addr), Mono g H g' H' → C.rel g' s1 σ H' → XR C.T g' H' x cls d → C.W cls d σ H'
  | .stuck => False
def SetG (C : MC) (f : FSet) : Prop :=
  ∀ (pins : List (Addr × Obj)) (sh : Shared) (σ : L2.St) (H : Hp) (g : Gh) (s : MS) (m k w : M) (x y z : V) (v i u : Value) (Q : Hp → Prop), Inv C.X pins σ H sh → C.rel g s σ H → RV C.T g H m x → RV C.T g H k y → RV C.T g H w z → RelV x v → RelV y i → RelV z u →
    GoU C σ (f m k w s) g H Q → wpAny (model C.X.prog C.X.w) C.X.A (setItem v i u) (fun _ s' => ∃ H', Inv C.X pins σ H' s' ∧ Q H') C.X.xe sh
theorem setG_of {t : TSet} {f : FSet} (hs : PSet C.X t) (hf : SetOk C t f) (hf2 : ∀ x k w s e s1, f x k w s ≠ .err e s1) : SetG C f := fun pins sh σ H g s m k w x y z v i u Q I r r1 r2 r3 l1 l2 l3 q => by
  refine hs pins sh σ H x y z v i u Q I l1 l2 l3 (hf σ H g s m k w x y z Q r r1 r2 r3 ?_)
  unfold GoU at q
  cases h : f m k w s with
  | stuck => rw [h] at q; exact q.elim
  | err e s1 => exact (hf2 _ _ _ _ _ _ h).elim
  | ok u s1 => rw [h] at q; exact q
theorem setG_list (hc : PSet C.X rSetL) : SetG C fSetL := setG_of hc ok_setL fSetL_ne
theorem gm_subG {f : FSet} (hf : SetG C f) (ho : PMe C eo a) (hi : PMe C ei b)
    (ha : ∀ v, assign (.Subscript eo ei pos) C.X.env v = (do
      let ov ← PySem.holding [v] (eval eo C.X.env)
      let iv ← PySem.holding [v, ov] (eval ei C.X.env)
      standAt pos
      PySem.holding [v, ov, iv] (setItem ov iv v)
      release [v, ov, iv] []) := by intro _; rfl) : PMg C (.Subscript eo ei pos) (gSub a b f) := by
  refine ⟨fun pins sh σ H z u Q I rz ⟨g, s, w, r, rv, q⟩ => ?_⟩
  rw [ha]
  unfold gSub at q
  have q1 : Go C C.V1 σ (a s) g H fun x H1 => ∃ m s1 g1, Mono g H g1 H1 ∧ C.rel g1 s1 σ H1 ∧ RV C.T g1 H1 m x ∧ (match (b s1).bind fun k s2 => f m k w s2 with
      | .ok _ s1 => ∀ (g' : Gh) (H' : Hp) (σ' : L2.St), Mono g H g' H' → C.rel g' s1 σ' H' → Q σ' H'
      | .err x s1 => ∀ (g' : Gh) (H' : Hp) (cls : Value) (d : Option Addr), Mono g H g' H' → C.rel g' s1 σ H' → XR C.T g' H' x cls d → C.W cls d σ H'
      | .stuck => False) := by
    cases h1 : a s with
    | stuck => rw [h1] at q; exact q.elim
    | err e s1 => rw [h1] at q; exact q
    | ok m s1 => rw [h1] at q; exact fun g' H' x mo r' rv' => ⟨m, s1, g', mo, r', rv', q⟩
  refine wpAny_bind (wpAny_holding (thn (ho.run pins sh σ H _ I ⟨g, s, r, q1⟩) fun ov s1 ⟨x, H1, I1, l1, m, ms1, g1, mo1, r1, rm, q2⟩ => ?_))
  have q3 : Go C C.V1 σ (b ms1) g1 H1 fun y H2 => ∃ k s2 g2, Mono g1 H1 g2 H2 ∧ C.rel g2 s2 σ H2 ∧ RV C.T g2 H2 k y ∧ (match f m k w s2 with
      | .ok _ s1 => ∀ (g' : Gh) (H' : Hp) (σ' : L2.St), Mono g H g' H' → C.rel g' s1 σ' H' → Q σ' H'
      | .err x s1 => ∀ (g' : Gh) (H' : Hp) (cls : Value) (d : Option Addr), Mono g H g' H' → C.rel g' s1 σ H' → XR C.T g' H' x cls d → C.W cls d σ H'
      | .stuck => False) := by
    cases h2 : b ms1 with
    | stuck => rw [h2] at q2; exact q2.elim
    | err e s2 => rw [h2] at q2; exact fun g' H' cls d mo => q2 g' H' cls d (mo1.trans mo)
    | ok k s2 => rw [h2] at q2; exact fun g' H' y mo r' rv' => ⟨k, s2, g', mo, r', rv', q2⟩
  refine wpAny_bind (wpAny_holding (thn (hi.run pins s1 σ H1 _ I1 ⟨g1, ms1, r1, q3⟩) fun iv s2 ⟨y, H2, I2, l2, k, ms2, g2, mo2, r2, rk, q4⟩ => ?_))
  have mo12 := mo1.trans mo2
  have q5 : GoU C σ (f m k w ms2) g2 H2 fun H' => Q σ H' := by
    unfold GoU
    cases h3 : f m k w ms2 with
    | stuck => rw [h3] at q4; exact q4.elim
    | err e s3 => rw [h3] at q4; exact fun g' H' cls d mo => q4 g' H' cls d (mo12.trans mo)
    | ok u s3 => rw [h3] at q4; exact fun g' H' mo r' => q4 g' H' σ (mo12.trans mo) r'
  refine wpAny_bind (wpAny_standAt (wpAny_bind (wpAny_holding (thn (hf pins s2 σ H2 g2 ms2 m k w x y z ov iv u _ I2 r2 (rm.mono mo2) rk (rv.mono mo12) l1 l2 rz q5) fun _ s3 ⟨H3, I3, q6⟩ => ?_))))
  exact wpAny_release ⟨σ, H3, I3, q6⟩
/-- d[k] = w -/
def fSetD (o : FSet) : FSet := fun x y w s => match dictL s.hp x with
  | some kms => match keyM y with
    | some k => if kms.length < big then (match x with
      | .box n => .ok () ⟨s.env, s.hp.set n (.dK (putG kms k w))⟩
      | _ => .stuck) else .stuck
    | none => .stuck
  | none => o x y w s
theorem setG_dict {o : FSet} (hu : C.X.A.units + 1 < cLine) (h : SetG C o) : SetG C (fSetD o) := fun pins sh σ H g s m k w x y z v i u Q I r r1 r2 r3 l1 l2 l3 q => by
  unfold fSetD at q
  split at q
  · rename_i kms hd
    split at q
    · rename_i ky hk
      by_cases hl : kms.length < big
      · rw [if_pos hl] at q
        obtain ⟨n, a, kvs, rfl, hc, rfl, hro, e, rf⟩ := dictL_at r hd r1
        cases (show v = Value.ref a from l1)
        have ey := keyM_at hk r2
        subst ey
        dsimp only at q
        obtain ⟨r4, mo⟩ := Rel.poke (c' := .dK (putG kms ky w)) (o := .dK (putK kvs ky z)) r hc hro trivial (fun ws z => by rw [e] at z; cases z) fun g' mo => ⟨_, upd_same, (rf.put ky r3).mono mo⟩
        have hz : kvs.length < sizeLine := by
          have e1 := rf.length
          have e3 : big ≤ sizeLine := by decide +kernel
          omega
        exact d_setItem hu I (.k e hz) l2 l3 fun s' I' => ⟨_, I', q g _ mo r4⟩
      · rw [if_neg hl] at q; exact q.elim
    · exact q.elim
  · exact h pins sh σ H g s m k w x y z v i u Q I r r1 r2 r3 l1 l2 l3 q
/-- x[k] = w of an own instance -/
def fSetI (c : Str) (F : Fn) (o : FSet) : FSet := fun x y w s => if isIns c x s = true then (upF s.env (F [x, y, w] s.hp)).bind fun _ s1 => .ok () s1 else o x y w s
theorem setG_dun {o : FSet} (M1 : KnM C.X.prog C.X.w C.X.mg C.X.base C.T c "__setitem__" k F) (hq : ∀ A, C.T.ad c = some A → noSeq C.T.K A = true) (hr : RoomG k C.X.A) (tk : Takes C.X C.W) (h : SetG C o) : SetG C (fSetI c F o) := fun pins sh σ H g s m kk w x y z v i u Q I r r1 r2 r3 l1 l2 l3 q => by
  unfold fSetI at q
  by_cases hi : isIns c m s = true
  · rw [if_pos hi] at q
    obtain ⟨n, fms, rfl, hc⟩ := isIns_of hi
    obtain ⟨a, A, dx, fvs, od, ox, rfl, ad, e, rf, hro, J⟩ := ins_at I r hc r1
    cases (show v = Value.ref a from l1)
    obtain ⟨f, fp, hs, hf, hfn⟩ := M1.ex A ad
    obtain ⟨m, hF⟩ := I.fr
    have q2 : Go C C.V1 σ (upF s.env (F [.box n, kk, w] s.hp)) g H fun _ H' => Q H' := by
      cases hr : upF s.env (F [.box n, kk, w] s.hp) with
      | stuck => rw [hr] at q; exact q.elim
      | err e s1 => rw [hr] at q; exact q
      | ok m s1 => rw [hr] at q; exact fun g' H' _ mo r' _ => q g' H' mo r'
    exact ksp_setItem hF (C.hK ▸ I.ok.mod.kin) J (hq A ad) hs hf (thn (run_p fp hr tk I r (.cons r1 (.cons r2 (.cons r3 .nil))) (.cons rfl (.cons l2 (.cons l3 .nil))) q2) fun z s2 ⟨vz, H2, I2, rz, qz⟩ => ⟨H2, I2, qz⟩)
  · rw [if_neg hi] at q
    exact h pins sh σ H g s m kk w x y z v i u Q I r r1 r2 r3 l1 l2 l3 q
/-! ### in -/
def oInD (neg : Bool) (o : M → M → MS → Res M) (x y : M) (s : MS) : Res M := match dictOf s.hp y with
  | some kms => match keyM x with
    | some k => .ok (.bl (if neg then !(valG kms k).isSome else (valG kms k).isSome)) s
    | none => .stuck
  | none => o x y s
theorem valG_some {kms : List (Key × M)} {kvs : List (Key × V)} (rf : RFs T g H kms kvs) (ky : Key) : (valV kvs ky).isSome = (valG kms ky).isSome := by
  rcases rf.valG ky with ⟨m', vv, e1, e2, rv⟩ | ⟨e1, e2⟩
  · rw [e1, e2]; rfl
  · rw [e1, e2]; rfl
theorem op_inD {o : M → M → MS → Res M} (hu : C.X.A.units + 1 < cLine) (h : Op2Ok C (compareOp .In) o) : Op2Ok C (compareOp .In) (oInD false o) := by
  intro pins sh σ H g ms m1 m2 x y v u Q I r r1 r2 l1 l2 q
  unfold oInD at q
  split at q
  · rename_i kms hd
    split at q
    · rename_i ky hk
      obtain ⟨n, a, kvs, rfl, rfl, hro, e, rf⟩ := dictOf_at r hd r2
      cases (show u = Value.ref a from l2)
      have ey := keyM_at hk r1
      subst ey
      refine d_in hu I (.inl ⟨kvs, ky, e, rfl, rfl⟩) l1 fun s' I' => ⟨.bl (valV kvs ky).isSome, H, I', rfl, ?_⟩
      rw [valG_some rf ky]
      exact q.ret r (.bl _)
    · exact q.elim
  · exact h pins sh σ H g ms m1 m2 x y v u Q I r r1 r2 l1 l2 q
theorem op_notInD {o : M → M → MS → Res M} (hu : C.X.A.units + 1 < cLine) (h : Op2Ok C (compareOp .NotIn) o) : Op2Ok C (compareOp .NotIn) (oInD true o) := by
  intro pins sh σ H g ms m1 m2 x y v u Q I r r1 r2 l1 l2 q
  unfold oInD at q
  split at q
  · rename_i kms hd
    split at q
    · rename_i ky hk
      obtain ⟨n, a, kvs, rfl, rfl, hro, e, rf⟩ := dictOf_at r hd r2
      cases (show u = Value.ref a from l2)
      have ey := keyM_at hk r1
      subst ey
      refine d_notIn hu I (.inl ⟨kvs, ky, e, rfl, rfl⟩) l1 fun s' I' => ⟨.bl (!(valV kvs ky).isSome), H, I', rfl, ?_⟩
      rw [valG_some rf ky]
      exact q.ret r (.bl _)
    · exact q.elim
  · exact h pins sh σ H g ms m1 m2 x y v u Q I r r1 r2 l1 l2 q
/-! ### calls of built-in functions by their ground -/
def CallG (C : MC) (v : Value) (o : List M → MS → Res M) : Prop :=
  ∀ (pins : List (Addr × Obj)) (sh : Shared) (σ : L2.St) (H : Hp) (g : Gh) (s : MS) (ms : List M) (xs : List V) (us : List Value) (Q : VK), Inv C.X pins σ H sh → C.rel g s σ H → RVs C.T g H ms xs → Vals xs us →
    Go C C.V1 σ (o ms s) g H Q → wpAny (model C.X.prog C.X.w) C.X.A (call v us) (EP C.X pins σ Q) C.X.xe sh
theorem CallG.of {v : Value} {r : RC} {o : List M → MS → Res M} (hc : CallR C.X v r) (ho : CallOk C r o) : CallG C v o := fun pins sh σ H g s ms xs us Q I r rs rv q => hc pins sh σ H xs us Q I rv (ho σ H g s ms xs Q r rs q)
theorem rdA_call {o : List M → MS → Res M} {Q : VK} (h : rdE C (mCall ma o) σ H Q) : rdA C ma σ H fun xs H1 => ∃ ms s1 g1, C.rel g1 s1 σ H1 ∧ RVs C.T g1 H1 ms xs ∧ Go C C.V1 σ (o ms s1) g1 H1 Q := rdA_bind h
theorem em_callG {id : String} {o : List M → MS → Res M} (hc : CallG C (.builtin id) o) (hm : C.X.mg x = none) (ha : PMa C (ex :: es) ma) (hv : bootBuiltins x = some (.builtin id) := by first | rfl | decide +kernel) (hg : Gl C.X x := by rfl) (hn : x ≠ "__name__" := by decide)
    (hdb : (x == ("__debug__" : Str)) = false := by decide) (he : starEach (ex :: es) C.X.env = (false, eval ex C.X.env) :: starEach es C.X.env := by rfl) (hpl : (backTo pos (starEach es C.X.env)).any (·.1) = false := by rfl) :
    PMe C (.Call (.Name x p) (ex :: es) [] pos) (mCall ma o) := by
  refine ⟨fun pins sh σ H Q I h => ?_⟩
  refine wpAny_Call_Name_kw (ld_blt I hg hm hv ?_ hn hdb)
  exact PyProof.Rows.callWith_builtin1 (thn (ha.run pos pins sh σ H _ I (rdA_call h)) fun us s1 ⟨vs, H1, I1, rv, ms, s2, g1, r1, rs, q1⟩ => hc pins s1 σ H1 g1 s2 ms vs us Q I1 r1 rs rv q1) he hpl
/-- len of a dict -/
def cLenD (o : List M → MS → Res M) (ms : List M) (s : MS) : Res M := match ms with
  | [x] => match dictOf s.hp x with
    | some kms => .ok (.int kms.length) s
    | none => o ms s
  | _ => o ms s
theorem callG_lenD {o : List M → MS → Res M} (h : CallG C (.builtin "len") o) : CallG C (.builtin "len") (cLenD o) := fun pins sh σ H g s ms xs us Q I r rs rv q => by
  unfold cLenD at q
  split at q
  · rename_i x
    split at q
    · rename_i kms hd
      cases rs with
      | cons r1 r2 =>
        cases r2
        obtain ⟨n, a, kvs, rfl, rfl, hro, e, rf⟩ := dictOf_at r hd r1
        obtain ⟨u, rfl, l1⟩ := rv.one
        cases (show u = Value.ref a from l1)
        refine d_len I e fun t s' I' => ⟨.int kvs.length, H, I', ⟨_, rfl⟩, ?_⟩
        rw [← rf.length]
        exact q.ret r (.int _)
    · exact h pins sh σ H g s _ xs us Q I r rs rv q
  · exact h pins sh σ H g s ms xs us Q I r rs rv q
/-- len, repr of an own instance -/
def cDun (c : Str) (F : Fn) (post : M → Option M) (o : List M → MS → Res M) (ms : List M) (s : MS) : Res M := match ms with
  | [x] => if isIns c x s = true then upP post (upF s.env (F [x] s.hp)) else o ms s
  | _ => o ms s
theorem callG_lenI {o : List M → MS → Res M} (M1 : KnM C.X.prog C.X.w C.X.mg C.X.base C.T c "__len__" k F) (hr : RoomG (k + 1) C.X.A) (tk : Takes C.X C.W) (h : CallG C (.builtin "len") o) : CallG C (.builtin "len") (cDun c F pNat o) := fun pins sh σ H g s ms xs us Q I r rs rv q => by
  unfold cDun at q
  split at q
  · rename_i x
    by_cases hi : isIns c x s = true
    · rw [if_pos hi] at q
      obtain ⟨n, fms, rfl, hc⟩ := isIns_of hi
      cases rs with
      | cons r1 r2 =>
        cases r2
        obtain ⟨a, A, dx, fvs, od, ox, rfl, ad, e, rf, hro, J⟩ := ins_at I r hc r1
        obtain ⟨u, rfl, l1⟩ := rv.one
        cases (show u = Value.ref a from l1)
        obtain ⟨f, fp, hs, hf, hfn⟩ := M1.ex A ad
        obtain ⟨m, hF⟩ := I.fr
        refine len_K hF (C.hK ▸ I.ok.mod.kin) J hs hf (thn (run_in1 fp hr tk I r (.cons r1 .nil) (.cons rfl .nil) q.post) fun z s2 ⟨vz, H2, I2, rz, m, m', s3, g3, r3, rv3, hp, q3⟩ => ?_)
        cases m <;> first | cases hp | skip
        rename_i i
        unfold pNat at hp
        dsimp only at hp
        by_cases hi2 : 0 ≤ i ∧ i < 9223372036854775808
        · rw [if_pos hi2] at hp
          cases hp
          cases rv3
          obtain ⟨t, rfl⟩ := (show ∃ t, z = Value.int i t from rz)
          refine ⟨⟨hi2.1, ?_⟩, ⟨.int i, H2, I2.tok _, ⟨_, rfl⟩, q3.ret r3 (.int i)⟩⟩
          have e : (9223372036854775808 : Int) = 2 ^ 63 := by decide
          rw [← e]; exact hi2.2
        · rw [if_neg hi2] at hp; cases hp
    · rw [if_neg hi] at q
      exact h pins sh σ H g s _ xs us Q I r rs rv q
  · exact h pins sh σ H g s ms xs us Q I r rs rv q
end
end Ma
/-! Ma41: == and != by an own `__eq__`. -/
namespace Ma
open L2 PySem.W PySem.Spec PySem PyProof.Rows
end Ma
/-! Ma42: comparisons, + and -, properties of own instances in the machine. -/
namespace Ma
open L2 PySem.W PySem.Spec PySem PyProof.Rows
section
variable {C : MC} {g g1 : Gh} {H H1 : Hp} {s : MS} {σ : L2.St} {ea eb ex eo ei : Expr} {es : List Expr} {a b : ME} {ma : MA} {pos p : Pos} {x c name f : Str} {k : Nat} {F : Fn} {pins : List (Addr × Obj)} {sh : Shared} {T : Tab}
/-- the built-in type of a value -/
def biOf (hp : List Cell) : M → Option String
  | .non => some "NoneType"
  | .bl _ => some "bool"
  | .int _ => some "int"
  | .str _ => some "str"
  | .byt _ => some "bytes"
  | .tup _ => some "tuple"
  | .lst _ => some "list"
  | .dct _ _ => some "dict"
  | .box n => match hp[n]? with
    | some (.lst _) => some "list"
    | some (.dK _) => some "dict"
    | _ => none
  | _ => none
theorem biOf_ty {m : M} {v : V} {n : String} (r : C.rel g s σ H) (h : biOf s.hp m = some n) (rv : RV C.T g H m v) : TyX C.X.K H v (.type n) := by
  cases rv with
  | non => cases h; exact .base .non
  | bl k => cases h; exact .base (.bl _)
  | int k => cases h; exact .base (.int _)
  | str k => cases h; exact .base (.str _)
  | byt k => cases h; exact .byt _
  | tup e q => cases h; exact .base (.tup e)
  | lst f e q => cases h; exact .base (.lst e)
  | dct f l e q => cases h; exact .fDict e
  | scr f e => cases h
  | scrK e => cases h
  | exn ad e q => cases h
  | cls e => cases h
  | ty n => cases h
  | raw a => cases h
  | set f e => cases h
  | @box n a e =>
    unfold biOf at h
    dsimp only at h
    split at h
    · rename_i ms hc
      cases h
      obtain ⟨a', e1, e2, vs, e3, _⟩ := r.cellAt hc (.box e)
      cases e1
      exact .base (.lst e3)
    · rename_i ms hc
      cases h
      obtain ⟨a', e1, e2, vs, e3, _⟩ := r.cellAt hc (.box e)
      cases e1
      exact .base (.dK e3)
    · cases h
/-- the type of a value, an own class or a built-in type -/
def tyAt (hp : List Cell) (m : M) : Option Tg := match m with
  | .box n => match hp[n]? with
    | some (.ins c _) => some (.own c)
    | _ => (biOf hp (.box n)).map .bi
  | m => (biOf hp m).map .bi
def tin (ts : List Tg) (t : Option Tg) : Bool := match t with
  | some t => ts.contains t
  | none => false
/-- x op y of own instances whose class has the def for it -/
def oDunC (c : Str) (F : Fn) (ts : List Tg) (o : M → M → MS → Res M) : M → M → MS → Res M := fun x y s => if isIns c x s = true then (if tin ts (tyAt s.hp y) = true then upF s.env (F [x, y] s.hp) else .stuck) else o x y s
def oDunN (c : Str) (F : Fn) (ts : List Tg) (o : M → M → MS → Res M) : M → M → MS → Res M := fun x y s => if isIns c x s = true then (if tin ts (tyAt s.hp y) = true then upP pNot (upF s.env (F [x, y] s.hp)) else .stuck) else o x y s
/-! ### x.f, a property -/
structure PrK (T : Tab) (c f : Str) (P : Program) (w : World) (mg : Str → Option Value) (base : Heap) (k : Nat) (F : Fn) : Prop where
  ex : ∀ A, T.ad c = some A → Cls T.K A ∧ ∃ p fa : Addr, PropOf T.K A f p fa ∧ FnP P w mg base T k fa F
/-- getAttr's ground -/
def AtG (C : MC) (f : Str) (o : M → MS → Res M) : Prop :=
  ∀ (pins : List (Addr × Obj)) (sh : Shared) (σ : L2.St) (H : Hp) (g : Gh) (s : MS) (m : M) (x : V) (v : Value) (Q : VK), Inv C.X pins σ H sh → C.rel g s σ H → RV C.T g H m x → RelV x v →
    Go C C.V1 σ (o m s) g H Q → wpAny (model C.X.prog C.X.w) C.X.A (getAttr v f true) (EP C.X pins σ Q) C.X.xe sh
theorem em_atG {o : M → MS → Res M} (ho : AtG C f o) (h : PMe C ex a) (hb : attributeBase ex f C.X.env (eval ex C.X.env) = eval ex C.X.env := by rfl) : PMe C (.Attribute ex f pos) (fun s => (a s).bind o) := by
  refine ⟨fun pins sh σ H Q I q => attr_of hb (thn (h.run pins sh σ H _ I (rdE_bind q)) fun u s1 hh => ?_)⟩
  obtain ⟨x, H1, I1, l1, m, s2, g1, r1, rv, q1⟩ := hh
  exact ho pins s1 σ H1 g1 s2 m x u Q I1 r1 rv l1 q1
def noErr (r : Res M) : Res M := match r with
  | .err _ _ => .stuck
  | r => r
theorem sp_upN {Q : VK} {args : List M} {vs : List V} (r : C.rel g s σ H) (rs : RVs C.T g H args vs) (h : Go C C.V1 σ (noErr (upF s.env (F args s.hp))) g H Q) : spP C.T F vs H Q fun _ _ _ => False := by
  refine ⟨g, s.hp, args, r.h.self, rs, ?_⟩
  cases hf : F args s.hp with
  | stuck => rw [hf] at h; exact h.elim
  | ok m hp => rw [hf] at h; exact fun g' H' v rl rv => h g' H' v rl.m0 (r.env rl.m0 (r.h.comp rl)) rv
  | err x hp => rw [hf] at h; exact h.elim
def oPrp (c : Str) (F : Fn) (o : M → MS → Res M) (x : M) (s : MS) : Res M := if isIns c x s = true then noErr (upF s.env (F [x] s.hp)) else o x s
theorem atG_none : AtG C f (fun _ _ => .stuck) := fun _ _ _ _ _ _ _ _ _ _ _ _ _ _ q => q.elim
theorem atG_prp {o : M → MS → Res M} (P1 : PrK C.T c f C.X.prog C.X.w C.X.mg C.X.base k F) (hr : RoomG (k + 1) C.X.A) (tk : Takes C.X C.W) (h : AtG C f o) : AtG C f (oPrp c F o) := by
  intro pins sh σ H g s m x v Q I r r1 l1 q
  unfold oPrp at q
  by_cases hi : isIns c m s = true
  · rw [if_pos hi] at q
    obtain ⟨n, fms, rfl, hc⟩ := isIns_of hi
    obtain ⟨a, A, dx, fvs, od, ox, rfl, ad, e, rf, hro, J⟩ := ins_at I r hc r1
    cases (show v = Value.ref a from l1)
    obtain ⟨cl, p, fa, hp, fp⟩ := P1.ex A ad
    obtain ⟨rest, hrec⟩ := hp.rec_
    have I1 := I.tok (sh.toks + 1)
    have hcl : (clsIn C.T.K A).isSome = true := by
      obtain ⟨cd, hc, _⟩ := any_some cl.hd
      rw [hc]; rfl
    have kin : C.T.K.In sh.heap := C.hK ▸ I.kIn
    refine get_bind kin J (plainGet_of (cl.get f)).1 (findObj_data hcl hp.at_ hp.get hp.tak) (plainGet_of (cl.get f)).2 (wpAny_call (prop_get (s := { sh with toks := sh.toks + 1 }) kin hrec ?_))
    have e0 : Env0 C.X.prog C.X.w C.T.K C.X.mg C.X.base C.X.A C.X.stack { sh with toks := sh.toks + 1 } H := C.hK ▸ I1.env0
    refine codeAny_mono (fp.run C.X.A.in1 C.X.stack _ H [.ref a] [.ref a] Q _ hr.in1 e0.in1 (.cons rfl .nil) (sp_upN r (.cons r1 .nil) q)) fun res s' hq => ?_
    cases res with
    | error er =>
      obtain ⟨_, _, _, _, _, _, _, _, _, _, _, _, z⟩ := hq
      exact z.elim
    | ok fl =>
      cases fl with
      | ret u =>
        obtain ⟨v, H', I3, rv, q3⟩ := I1.after hq
        show wpAny _ _ (handedOut u) _ _ _
        rw [handedOut_of (handed_of rv)]
        exact wpAny_pure ⟨v, H', I3, rv, q3⟩
      | next => exact hq.elim
      | brk => exact hq.elim
      | cont => exact hq.elim
  · rw [if_neg hi] at q
    exact h pins sh σ H g s m x v Q I r r1 l1 q
end
end Ma
/-! Ma43: own instances made; fields stored; x + y of own instances. -/
namespace Ma
open L2 PySem.W PySem.Spec PySem PyProof.Rows
structure KnT (P : Program) (w : World) (mg : Str → Option Value) (base : Heap) (T : Tab) (c : Str) (k : Nat) (F : Fn) : Prop where
  ex : ∃ A f : Addr, T.ad c = some A ∧ mg c = some (.ref A) ∧ Mk T.K A f ∧ FnP P w mg base T k f F
theorem RoomG.make {k : Nat} {A : Around} (r : RoomG (k + 1) A) (D : Addr) (us : List Value) : RoomG k (A.under (.builtin "type.__call__" ⟨.ref D :: us, []⟩)) := ⟨r.toRoom.make D us [], r.gs⟩
section
variable {C : MC} {g g1 : Gh} {H H1 : Hp} {s : MS} {σ : L2.St} {ea eb ex eo ei value : Expr} {es : List Expr} {a b : ME} {ma : MA} {pos p pos' : Pos} {x c name f : Str} {k : Nat} {F : Fn} {pins : List (Addr × Obj)} {sh : Shared} {T : Tab}
def mkM (c : Str) (F : Fn) (ms : List M) (s : MS) : Res M := match F (.box s.hp.length :: ms) (s.hp ++ [.ins c []]) with
  | .ok .non hp => .ok (.box s.hp.length) ⟨s.env, hp⟩
  | .ok _ _ => .stuck
  | .err x hp => .err x ⟨s.env, hp⟩
  | .stuck => .stuck
theorem run_mk {Q : VK} {A fa : Addr} {us : List Value} {args : List M} {vs : List V} (ad : C.T.ad c = some A) (M1 : Mk C.T.K A fa) (G : FnP C.X.prog C.X.w C.X.mg C.X.base C.T k fa F) (hr : RoomG (k + 1) C.X.A) (tk : Takes C.X C.W)
    (I : Inv C.X pins σ H sh) (r : C.rel g s σ H) (rs : RVs C.T g H args vs) (rv : Vals vs us) (h : Go C C.V1 σ (mkM c F args s) g H Q) :
    wpAny (model C.X.prog C.X.w) C.X.A (call (.ref A) us) (EP C.X pins σ Q) C.X.xe sh := by
  have hd : H sh.heap.objs.size = none := I.hok.fresh (Nat.le_refl _)
  have hp : H (sh.heap.objs.size + 1) = none := I.hok.fresh (Nat.le_succ _)
  have ne : sh.heap.objs.size + 1 ≠ sh.heap.objs.size := Nat.succ_ne_self _
  have I2 := Inv.made (C := A) I
  have r1 : C.rel g s σ (upd H sh.heap.objs.size (.own (sh.heap.objs.size + 1))) := r.laid hd
  have mo1 : Mono g H g (upd H sh.heap.objs.size (.own (sh.heap.objs.size + 1))) := mono_laid r.h hd
  obtain ⟨r2, mo2⟩ := Rel.box (o := .ins A sh.heap.objs.size []) (c := .ins c []) r1 (p := sh.heap.objs.size + 1) (by rw [upd_ne ne]; exact hp) fun g' mo => ⟨A, _, [], ad, upd_same, .nil⟩
  have mo := mo1.trans mo2
  have rb : RV C.T (g.box (sh.heap.objs.size + 1)) (upd (upd H sh.heap.objs.size (.own (sh.heap.objs.size + 1))) (sh.heap.objs.size + 1) (.ins A sh.heap.objs.size [])) (.box s.hp.length) (.ref (sh.heap.objs.size + 1)) :=
    .box (by show (g.ro ++ [sh.heap.objs.size + 1])[s.hp.length]? = some _; rw [← r.h.len, List.getElem?_concat_length])
  have sp : spP C.T F (.ref (sh.heap.objs.size + 1) :: vs) _ (fun v H' => v = .non ∧ Q (.ref (sh.heap.objs.size + 1)) H') (fun cls d H' => C.W cls d σ H') :=
    ⟨_, _, .box s.hp.length :: args, r2.h.self, .cons rb (rs.mono mo), by
      unfold mkM at h
      cases hf : F (.box s.hp.length :: args) (s.hp ++ [.ins c []]) with
      | stuck => rw [hf] at h; exact h.elim
      | err e hp' => rw [hf] at h; exact fun g' H' cls d rl xr => h g' H' cls d (mo.trans rl.m0) (r2.env rl.m0 (r2.h.comp rl)) xr
      | ok m hp' =>
        rw [hf] at h
        cases m <;> try exact h.elim
        intro g' H' v rl rv'
        cases rv'
        exact ⟨rfl, h g' H' _ (mo.trans rl.m0) (r2.env rl.m0 (r2.h.comp rl)) (rb.mono rl.m0)⟩⟩
  have e0 : Env0 C.X.prog C.X.w C.T.K C.X.mg C.X.base C.X.A C.X.stack _ _ := C.hK ▸ I2.env0
  refine wpAny_call (make_map (f := fa) (C.hK ▸ I.kIn) M1.makes M1.init (beq_iff_eq.mp M1.fn) (codeAny_mono (G.run _ C.X.stack _ _ (Value.ref (sh.heap.objs.size + 1) :: us) (V.ref (sh.heap.objs.size + 1) :: vs) _ _ (hr.make A us) (e0.make A us []) (.cons rfl rv) sp) fun res s' hq => ?_))
  cases res with
  | error e => exact tk e s' (XE.of_call I2 (fun _ _ _ z => z) hq)
  | ok fl =>
    cases fl with
    | ret u =>
      obtain ⟨v, H', I3, rv', ev, q3⟩ := I2.after hq
      subst ev
      exact ⟨rv', ⟨V.ref (sh.heap.objs.size + 1), H', I3, rfl, q3⟩⟩
    | next => exact hq.elim
    | brk => exact hq.elim
    | cont => exact hq.elim
def mMk (c : Str) (F : Fn) (ma : MA) : ME := fun s => (ma s).bind (mkM c F)
theorem em_mk (h : KnT C.X.prog C.X.w C.X.mg C.X.base C.T x k F) (hr : RoomG (k + 1) C.X.A) (tk : Takes C.X C.W) (ha : PMa C (ex :: es) ma)
    (hg : Gl C.X x := by rfl) (hdb : (x == ("__debug__" : Str)) = false := by decide) (he : starEach (ex :: es) C.X.env = (false, eval ex C.X.env) :: starEach es C.X.env := by rfl) (hpl : (backTo pos (starEach es C.X.env)).any (·.1) = false := by rfl) :
    PMe C (.Call (.Name x p) (ex :: es) [] pos) (mMk x F ma) := by
  obtain ⟨A, fa, ad, hm, M1, G⟩ := h.ex
  refine ⟨fun pins sh σ H Q I q => wpAny_Call_Name_kw (ld_glob I hg hm ?_ hdb)⟩
  refine callWith_K (h₀ := C.X.base) I.ok.mod.kin (C.hK ▸ M1.kp) (thn (ha.run pos pins sh σ H _ I (rdA_call q)) fun us s1 hh => ?_) he hpl
  obtain ⟨vs, H1, I1, rv, ms, s2, g1, r1, rs, q1⟩ := hh
  exact ⟨I1.kIn, run_mk ad M1 G hr tk I1 r1 rs rv q1⟩
theorem em_mk0 (h : KnT C.X.prog C.X.w C.X.mg C.X.base C.T x k F) (hr : RoomG (k + 1) C.X.A) (tk : Takes C.X C.W)
    (hg : Gl C.X x := by rfl) (hdb : (x == ("__debug__" : Str)) = false := by decide) : PMe C (.Call (.Name x p) [] [] pos) (mMk x F mNil) := by
  obtain ⟨A, fa, ad, hm, M1, G⟩ := h.ex
  refine ⟨fun pins sh σ H Q I q => wpAny_Call_Name_kw (ld_glob I hg hm ?_ hdb)⟩
  obtain ⟨g, s, r, q⟩ := q
  exact callWith_K0 I.kIn (C.hK ▸ M1.kp) (run_mk (us := []) ad M1 G hr tk I r .nil .nil q)
/-- the items of a list, a tuple, to be spread -/
def sprM (hp : List Cell) : M → Option (List M)
  | .tup ms => some ms
  | m => seqL hp m
theorem sprM_at {m : M} {ms : List M} {v : V} (r : C.rel g s σ H) (h : sprM s.hp m = some ms) (rv : RV C.T g H m v) : ∃ q vs, v = .ref q ∧ (SqT C.X.K H q vs ∨ SqL C.X.K H q vs) ∧ RVs C.T g H ms vs := by
  unfold sprM at h
  split at h
  · cases h
    cases rv with
    | tup e rs => exact ⟨_, _, rfl, .inl (.inl (.inl e)), rs⟩
  · obtain ⟨q, vs, e, hq, rs⟩ := seqL_at r h rv
    exact ⟨q, vs, e, .inr hq, rs⟩
/-- C(*e) -/
def mMkS (c : Str) (F : Fn) (a : ME) : ME := fun s => (a s).bind fun m s1 => match sprM s1.hp m with
  | some ms => mkM c F ms s1
  | none => .stuck
theorem em_mkS {sp : Pos} (h : KnT C.X.prog C.X.w C.X.mg C.X.base C.T x k F) (hr : RoomG (k + 1) C.X.A) (tk : Takes C.X C.W) (ha : PMe C ex a)
    (hg : Gl C.X x := by rfl) (hdb : (x == ("__debug__" : Str)) = false := by decide) (hst : starEach [.Starred ex sp] C.X.env = [(true, eval ex C.X.env)] := by rfl) :
    PMe C (.Call (.Name x p) [.Starred ex sp] [] pos) (mMkS x F a) := by
  obtain ⟨A, fa, ad, hm, M1, G⟩ := h.ex
  refine ⟨fun pins sh σ H Q I q => wpAny_Call_Name_kw (ld_glob I hg hm ?_ hdb)⟩
  refine callWith_S (h₀ := C.X.base) I.ok.mod.kin (C.hK ▸ M1.kp) (thn (ha.run pins sh σ H _ I (rdE_bind q)) fun u s1 hh => ?_) hst
  obtain ⟨y, H1, I1, l1, m, s2, g1, r1, rm, q1⟩ := hh
  split at q1
  · rename_i ms hms
    obtain ⟨qq, vs, rfl, hs, rs⟩ := sprM_at r1 hms rm
    obtain rfl : u = Value.ref qq := l1
    exact StX.star_any I1 hs fun us s3 I3 rv => ⟨I3.kIn, run_mk ad M1 G hr tk I3 r1 rs rv q1⟩
  · exact q1.elim
/-! ### e.f = value -/
structure FldC (T : Tab) (c f : Str) : Prop where
  ex : ∀ A, T.ad c = some A → Cls T.K A ∧ NoAttr T.K A f
def putFM (f : Str) (y : M) : List (Str × M) → List (Str × M)
  | [] => [(f, y)]
  | (j, v) :: r => if j = f then (j, y) :: r else (j, v) :: putFM f y r
theorem RFs.putF {fs : List (Str × M)} {vs : List (Str × V)} {m : M} {v : V} (r : RFs T g H fs vs) (rv : RV T g H m v) : RFs T g H (putFM f m fs) (putF f v vs) := by
  induction r with
  | nil => exact .cons rv .nil
  | @cons j m' v' fs vs q t ih =>
    unfold putFM L2.putF
    by_cases e : j = f
    · rw [if_pos e, if_pos e]; exact .cons rv t
    · rw [if_neg e, if_neg e]; exact .cons q ih
def fPut (c f : Str) (x y : M) (s : MS) : Res Fl := match x with
  | .box n => match s.hp[n]? with
    | some (.ins c' fms) => if c' = c ∧ fms.length < 900 then .ok .nx ⟨s.env, s.hp.set n (.ins c (putFM f y fms))⟩ else .stuck
    | _ => .stuck
  | _ => .stuck
def sPut (c f : Str) (a b : ME) : MStm := fun s => (b s).bind fun y s1 => (a s1).bind fun x s2 => fPut c f x y s2
theorem sm_put (fc : FldC C.T c f) (ha : PMe C eo a) (hb : PMe C value b) (hs : swapsWith value (some (.Attribute eo f pos')) pos.line C.X.env = pure false := by rfl) : PMs C (.Assign [.Attribute eo f pos'] value pos) (sPut c f a b) := by
  refine ⟨fun pins sh σ H D I ⟨g, s, r, q⟩ => ?_⟩
  unfold sPut at q
  have q1 : Go C C.V1 σ (b s) g H fun y H1 => ∃ m s1 g1, Mono g H g1 H1 ∧ C.rel g1 s1 σ H1 ∧ RV C.T g1 H1 m y ∧ GoS C ((a s1).bind fun x s2 => fPut c f x m s2) g H D := by
    cases h : b s with
    | stuck => rw [h] at q; exact q.elim
    | err e s1 => rw [h] at q; exact fun g' H' cls d mo rl xr => q g' H' σ cls d mo rl xr
    | ok m s1 => rw [h] at q; exact fun g' H' v mo rl rv => ⟨m, s1, g', mo, rl, rv, q⟩
  refine plainObj_wpAny_Assign_Attribute (thn (hb.run pins sh σ H _ I ⟨g, s, r, q1⟩) fun u s1 ⟨y, H1, I1, ry, m, ms1, g1, mo1, r1, rm, q2⟩ => ?_) hs
  have q3 : Go C C.V1 σ (a ms1) g1 H1 fun x H2 => ∃ k s2 g2, Mono g1 H1 g2 H2 ∧ C.rel g2 s2 σ H2 ∧ RV C.T g2 H2 k x ∧ GoS C (fPut c f k m s2) g H D := by
    cases h : a ms1 with
    | stuck => rw [h] at q2; exact q2.elim
    | err e s2 => rw [h] at q2; exact fun g' H' cls d mo rl xr => q2 g' H' σ cls d (mo1.trans mo) rl xr
    | ok k s2 => rw [h] at q2; exact fun g' H' v mo rl rv => ⟨k, s2, g', mo, rl, rv, q2⟩
  refine thn (ha.run pins s1 σ H1 _ I1 ⟨g1, ms1, r1, q3⟩) fun ov s2 ⟨x, H2, I2, rx, k, ms2, g2, mo2, r2, rk, q4⟩ => ?_
  unfold fPut at q4
  split at q4
  · rename_i n
    split at q4
    · rename_i c' fms hc
      split at q4
      · rename_i hcl
        obtain ⟨rfl, hlen⟩ := hcl
        obtain ⟨a', A, dx, fvs, od, ox, rfl, ad, e, rf, hro, J⟩ := ins_at I2 r2 hc rk
        obtain rfl : ov = Value.ref a' := rx
        obtain ⟨cl, na⟩ := fc.ex A ad
        obtain ⟨r3, mo3⟩ := Rel.poke (c' := .ins c' (putFM f m fms)) (o := .ins A dx (putF f y fvs)) r2 hc hro trivial (fun ws z => by rw [e] at z; cases z) fun g' mo => ⟨A, dx, _, ad, upd_same, (rf.putF (rm.mono mo2)).mono mo⟩
        exact setattr_ok I2 e (C.hK ▸ cl) (C.hK ▸ na) (by rw [← rf.length]; omega) ry fun s3 I3 => ⟨σ, _, I3, q4 g2 _ σ ((mo1.trans mo2).trans mo3) r3⟩
      · exact q4.elim
    · exact q4.elim
  · exact q4.elim
end
end Ma
/-! Ma44: x + y, x an own instance, y of a built-in type; anything that is never reached. -/
namespace Ma
open L2 PySem.W PySem.Spec PySem PyProof.Rows
section
variable {prog : Program} {w : World} {A : Around} {E : Value → Shared → Prop} {s : Shared} {K : Frag} {x D f : Addr} {ox : Obj} {od : Option Obj} {y : Value} {n : String}
theorem bin_own {op : Operator} {lo ro rc : Option Value} {Q : Value → Shared → Prop} (X : K.In s.heap) (J : InstAt s.heap x ox D od) (ty : ∀ M, Looks M s.heap (typeOf y) (.type n)) (first : selfFirst K D = true)
    (hs : findIn K (.ref D) (PySem.dunder op.info.2) = some (some (.ref f))) (hf : isFn K (.ref f) = true) (hr : findIn K (.ref D) (dunderR op.info.2) = some rc) (hp : rc = none ∨ ∃ q : Addr, rc = some (.ref q))
    (l1 : findIn K (.type n) (PySem.dunder op.info.2) = some lo) (l2 : findIn K (.type n) (dunderR op.info.2) = some ro) (sub : subIn K (.type n) (.ref D) = some false)
    (h : wpAny (model prog w) A (call (.ref f) [.ref x, y]) (PySem.W.CmpBack Q) E s) : wpAny (model prog w) A (binaryOp op (.ref x) y) Q E s := by
  obtain ⟨cd, rest, hcd, hm⟩ := ksp_first first
  rcases hi : op.info with ⟨sym, nm⟩
  rw [hi] at hs hr l1 l2
  dsimp only at hs hr l1 l2
  have one := ksp_try X J hs hf h
  obtain ⟨hh, gs, dr, tk, os⟩ := s
  have K1 : Looks (model prog w) hh (typeOf (.ref x)) (.ref D) := J.type
  have K2 : Looks (model prog w) hh (typeOf y) (.type n) := ty _
  have K3 : Looks (model prog w) hh (fillsNumberSlot (.ref D) nm) true := fills_K X hcd hm hs
  have K4 : Looks (model prog w) hh (fillsNumberSlot (.type n) nm) ((lo.isSome && !isSeqSlot lo) || (ro.isSome && !isSeqSlot ro)) := ksp_fillsT X l1 l2
  have K5 : Looks (model prog w) hh (isSubtype (.type n) (.ref D)) false := looks_subIn X sub
  have K6 : Looks (model prog w) hh (numberSlotInPython (.ref D) nm) true := ksp_inPy X hs hr hp
  have K7 : Looks (model prog w) hh (numberSlotInPython (.type n) nm) false := Looks.of_pure rfl
  have K8 : Looks (model prog w) hh (typeLookup (.type n) (dunderR nm)) ro := looks_findIn X l2
  generalize ((lo.isSome && !isSeqSlot lo) || (ro.isSome && !isSeqSlot ro)) = right at K4
  have ne : (Value.ref D == Value.type n) = false := Bool.eq_false_iff.mpr fun q => nomatch beq_iff_eq.mp q
  simp only [binaryOp, hi]
  refine wpAny_holding (wpAny_bind ?_)
  unfold binaryOp1
  refine wpAny_bind (K1.at (wpAny_bind (K2.at (wpAny_bind (K3.at ?_)))))
  simp only [ne, Bool.false_eq_true, if_false]
  have fin : ∀ (r : Option Value) (s' : Shared), (∃ v, r = some v ∧ Q v s') → ∃ v, r = some v ∧ Q v s' := fun _ _ z => z
  cases right with
  | false =>
    ksp_lk
    exact wpAny_mono one (fun r s' z => by
      obtain ⟨v, rfl, hq⟩ := fin r s' z
      ksp_lk
      exact hq) fun _ _ e => e
  | true =>
    ksp_lk
    exact wpAny_mono one (fun r s' z => by
      obtain ⟨v, rfl, hq⟩ := fin r s' z
      ksp_lk
      exact hq) fun _ _ e => e
end
/-- what x op y asks of x's class and of the type named n -/
structure BinK (T : Tab) (c : Str) (op : Operator) (n : String) : Prop where
  ex : ∀ A, T.ad c = some A → selfFirst T.K A = true ∧ (∃ rc : Option Value, findIn T.K (.ref A) (dunderR op.info.2) = some rc ∧ (rc = none ∨ ∃ q : Addr, rc = some (.ref q))) ∧
    (∃ lo ro : Option Value, findIn T.K (.type n) (PySem.dunder op.info.2) = some lo ∧ findIn T.K (.type n) (dunderR op.info.2) = some ro) ∧ subIn T.K (.type n) (.ref A) = some false
section
variable {C : MC} {g g1 : Gh} {H H1 : Hp} {s : MS} {σ : L2.St} {c : Str} {k : Nat} {F : Fn} {pins : List (Addr × Obj)} {sh : Shared}
def oDunB (c : Str) (F : Fn) (n : String) (o : M → M → MS → Res M) : M → M → MS → Res M := fun x y s => if isIns c x s = true then (if biOf s.hp y == some n then upF s.env (F [x, y] s.hp) else if isIns c y s = true then upF s.env (F [x, y] s.hp) else .stuck) else o x y s
theorem op_dunBin {op : Operator} {n : String} {o : M → M → MS → Res M} (M1 : KnM C.X.prog C.X.w C.X.mg C.X.base C.T c (PySem.dunder op.info.2) k F) (bk : BinK C.T c op n) (hr : RoomG k C.X.A) (tk : Takes C.X C.W) (h : Op2Ok C (binaryOp op) o) : Op2Ok C (binaryOp op) (oDunB c F n o) := by
  intro pins sh σ H g ms m1 m2 x y v u Q I r r1 r2 l1 l2 q
  unfold oDunB at q
  by_cases hi : isIns c m1 ms = true
  · rw [if_pos hi] at q
    obtain ⟨i, fms, rfl, hc⟩ := isIns_of hi
    obtain ⟨a, A, dx, fvs, od, ox, rfl, ad, e, rf, hro, J⟩ := ins_at I r hc r1
    cases (show v = Value.ref a from l1)
    obtain ⟨f, fp, hs, hf, hfn⟩ := M1.ex A ad
    obtain ⟨b1, ⟨rc, b2, b3⟩, ⟨lo, ro, b4, b5⟩, b6⟩ := bk.ex A ad
    have kin : C.T.K.In sh.heap := C.hK ▸ I.kIn
    by_cases hb : (biOf ms.hp m2 == some n) = true
    · rw [if_pos hb] at q
      obtain ⟨P, kx, hP, _⟩ := kit_of I l2 (biOf_ty r (beq_iff_eq.mp hb) r2)
      exact bin_own kin J (fun M => kx.ty _ _ I.kIn hP) b1 hs hf b2 b3 b4 b5 b6 (thn (run_p fp hr tk I r (.cons r1 (.cons r2 .nil)) (.cons rfl (.cons l2 .nil)) q) fun z s2 ⟨vz, H2, I2, rz, qz⟩ => SlX.cmpback rz ⟨vz, H2, I2, rz, qz⟩)
    · rw [if_neg hb] at q
      by_cases hj : isIns c m2 ms = true
      · rw [if_pos hj] at q
        obtain ⟨j, fms2, rfl, hc2⟩ := isIns_of hj
        obtain ⟨a2, A2, dx2, fvs2, od2, ox2, rfl, ad2, e2, rf2, hro2, J2⟩ := ins_at I r hc2 r2
        cases (show u = Value.ref a2 from l2)
        rw [ad] at ad2
        cases ad2
        obtain ⟨m, hF⟩ := I.fr
        exact binop_K hF (C.hK ▸ I.ok.mod.kin) J J2.type b1 hs hf (thn (run_p fp hr tk I r (.cons r1 (.cons r2 .nil)) (.cons rfl (.cons rfl .nil)) q) fun z s2 ⟨vz, H2, I2, rz, qz⟩ => SlX.cmpback rz ⟨vz, H2, I2, rz, qz⟩)
      · rw [if_neg hj] at q; exact q.elim
  · rw [if_neg hi] at q
    exact h pins sh σ H g ms m1 m2 x y v u Q I r r1 r2 l1 l2 q
/-! ### what is never reached -/
end
end Ma
/-! Ma45: tuple(d.items()). -/
namespace Ma
open L2 PySem.W PySem.Spec PySem PyProof.Rows
theorem mt_tupItems {P : Program} {w0 : World} {κ : Type} [DecidableEq κ] (knd : KeyKind P w0 κ) (kvs : List (κ × Value)) (v d : Addr) (ep : Nat) (hn : kvs.length ≤ sizeLine) {A : Around} {R : Result → Shared → Prop} {s : Shared} (hh : A.handled = none)
    (hv : s.heap.IsItemsView v d) (hm : s.heap.DictAt knd d kvs ep) (hty : s.TypeIs (.ref v) "dict_items")
    (h : ∀ (h' : Heap) (tk : Nat) (as : List Addr), (∀ b o, s.heap.get? b = some o → h'.get? b = some o) → as.length = kvs.length → KdxG knd kvs s.heap.objs.size h' as →
      R (.ok (.ret (.ref h'.objs.size))) { s with heap := h'.push { cls := .type "tuple", data := .seq (as.map Value.ref).toArray }, toks := tk }) :
    wpAny (model P w0) A.in1 (Builtin.«tuple.__new__» ⟨[.type "tuple", .ref v], []⟩) (fun fin s' => match fin with
      | .done f => R (.ok f) s'
      | .again c' => c'.quiet = true ∧ codeAny (model P w0) A c' R s') (fun e s' => R (.error e) s') s := by
  obtain ⟨ov, ho, hc, hd⟩ := hv
  have hv : s.heap.IsItemsView v d := ⟨ov, ho, hc, hd⟩
  have hsub := PySem.sub_tuple_self
  have hinit := PySem.init_tuple_lookup
  have hmh := PySem.madeHere_tuple
  have col := fun (Q : List Value → Shared → Prop) (E : Value → Shared → Prop) h => kdx_collect (A := A.in1) (E := E) (R := Q) hh hv hm hn h
  obtain ⟨hp, g, dr, tk, os⟩ := s
  wp_walk using wpAny_loadPart' ho, wpAny_typeOf hty, col
  intro h' tk' as hk hl hG
  show wpAny _ _ (Builtin.Tuple.tupleExact (as.map Value.ref).toArray >>= fun v => PySem.ret v) _ _ _
  unfold Builtin.Tuple.tupleExact
  refine wpAny_bind (wpAny_newObj_type ?_ (by show (as.map Value.ref).toArray.size ≤ sizeLine; simp only [List.size_toArray, List.length_map]; omega))
  exact wpAny_pure (h h' tk' as hk hl hG)
section
variable {P : Program} {w0 : World} {A : Around} {E : Value → Shared → Prop} {s : Shared}
theorem code_tupItems {κ : Type} [DecidableEq κ] (knd : KeyKind P w0 κ) (kvs : List (κ × Value)) (v d : Addr) (ep : Nat) (hn : kvs.length ≤ sizeLine) {Q : Value → Shared → Prop} (hh : A.handled = none)
    (hv : s.heap.IsItemsView v d) (hm : s.heap.DictAt knd d kvs ep) (hty : s.TypeIs (.ref v) "dict_items")
    (h : ∀ (h' : Heap) (tk : Nat) (as : List Addr), (∀ b o, s.heap.get? b = some o → h'.get? b = some o) → as.length = kvs.length → KdxG knd kvs s.heap.objs.size h' as →
      Q (.ref h'.objs.size) { s with heap := h'.push { cls := .type "tuple", data := .seq (as.map Value.ref).toArray }, toks := tk }) :
    wpAny (model P w0) A (call (.type "tuple") [.ref v]) Q E s := by
  refine callType_codes (Q₁ := fun obj s₁ => s₁.TypeIs obj "tuple" ∧ Q obj s₁) F.called_tuple (F.typeCall_tuple_1 _) F.entry_object_init
    (codeAny_call_builtin F.plain_tuple_new F.entry_tuple_new (wpAny_of_eq (F.newCall_tuple_1 _) (mt_tupItems knd kvs v d ep hn (A := A.in1) (R := wants (fun obj s₁ => s₁.TypeIs obj "tuple" ∧ Q obj s₁) E) hh hv hm hty fun h' tk as a b c => ⟨⟨_, Heap.get?_push_size _ rfl, rfl⟩, h h' tk as a b c⟩))) fun obj s₁ h₁ => ?_
  exact ⟨h₁.1, F.args_object_init_2 obj _, object_init_meets F.called_tuple.init.lookup F.called_tuple.made (by decide) P w0 A.in1 _ s₁ ⟨h₁.1, rfl, h₁.2⟩⟩
end
section
variable {X : Cx} {pins : List (Addr × Obj)} {σ : L2.St} {H : Hp} {s : Shared}
/-- the pairs' tuples, all new -/
theorem tup_laid {h' : Heap} {tk : Nat} {kvs : List (Key × V)} {vs : List (Key × Value)} {as : List Addr} (I : Inv X pins σ H s) (hz : kvs.length ≤ sizeLine) (kv : KV kvs vs) (hk : ∀ b o, s.heap.get? b = some o → h'.get? b = some o)
    (hl : as.length = vs.length) (G : KdxG (mixKind X.prog X.w) vs s.heap.objs.size h' as) :
    as.Nodup ∧ (∀ t ∈ as, H t = none) ∧ Paired (fun (t : Addr) (q : Key × V) => LiI.putT H as kvs t = some (.tup [kV q.1, q.2])) as kvs ∧ Inv X pins σ (LiI.putT H as kvs) { s with heap := h', toks := tk } := by
  have lk : kvs.length = vs.length := Paired.length kv
  have nd : as.Nodup := List.Pairwise.imp (fun {a b} (h : a < b) => Nat.ne_of_lt h) G.rise
  have new : ∀ t ∈ as, H t = none := fun t ht => I.hok.fresh (Nat.le_of_lt (G.above t ht))
  have pr := LiI.putT_at as kvs H (by omega) nd
  have out : ∀ b, b ∉ as → LiI.putT H as kvs b = H b := fun b h1 => LiI.putT_off as kvs H h1
  have low : ∀ b o, s.heap.get? b = some o → b ∉ as := fun b o e z => absurd (Heap.lt_size e) (Nat.not_lt.mpr (Nat.le_of_lt (G.above b z)))
  have kp : ∀ b u, H b = some u → LiI.putT H as kvs b = some u := fun b u e => by
    rw [out b fun z => by rw [new b z] at e; cases e]
    exact e
  have un : Un (frs X.stack) [] H (LiI.putT H as kvs) s.heap h' := ⟨fun b o q _ _ _ => hk b o q, fun b o q _ _ _ => ⟨o.slots, hk b o q⟩, fun b o q n _ => by rw [out b (low b o q)]; exact n, fun b o q _ => ⟨o, hk b o q⟩, fun b xs q => kp b _ q, fun b o u q => kp b _ q, fun b ps q => ⟨#[], by rw [kp b _ q]; simp⟩⟩
  refine ⟨nd, new, pr, I.call' (ch := []) rfl un (fun b u q => ?_) I.bare fun b z => by simp at z⟩
  by_cases hb : b ∈ as
  · obtain ⟨j, pk, e1, e2, e3⟩ := LiI.paired_ix pr hb
    rw [e3] at q
    cases q
    obtain ⟨key, ky, x, f1, f2, f3⟩ := G.pairs j b e1
    obtain ⟨qv, g1, g2, g3⟩ := LiI.paired_get kv e2
    rw [f1] at g1
    cases g1
    have rk : RelV (kV pk.1) key := by rw [g2]; exact relV_key (show keyIs ky key = true from f2)
    exact ⟨by show 2 ≤ sizeLine; decide, [key, x], .cons rk (.cons g3 .nil), ⟨_, f3, rfl, _, rfl⟩⟩
  · rw [out b hb] at q
    exact (I.hok b u q).stay (fun d v _ y => hk d v y) (fun d y => kp d _ y) fun d xs y => kp d _ y
end
theorem paired_imp {α β : Type} {F G : α → β → Prop} (h : ∀ x y, F x y → G x y) : ∀ {xs : List α} {ys : List β}, Paired F xs ys → Paired G xs ys
  | _, _, .nil => .nil
  | _, _, .cons q t => .cons (h _ _ q) (paired_imp h t)
section
variable {C : MC} {g g1 : Gh} {H H1 : Hp} {s : MS} {σ : L2.St} {ea eb ex eo ei : Expr} {es : List Expr} {a b : ME} {ma : MA} {pos p apos cpos : Pos} {x c name f : Str} {k : Nat} {F : Fn} {pins : List (Addr × Obj)} {sh : Shared} {T : Tab}
theorem rel_putT : ∀ {as : List Addr} {kvs : List (Key × V)} {H : Hp}, as.Nodup → (∀ t ∈ as, H t = none) → C.rel g s σ H → C.rel g s σ (LiI.putT H as kvs) ∧ Mono g H g (LiI.putT H as kvs)
  | [], kvs, H, _, _, r => by cases kvs <;> exact ⟨r, Mono.refl _ _⟩
  | a :: as, [], H, _, _, r => ⟨r, Mono.refl _ _⟩
  | a :: as, q :: kvs, H, nd, new, r => by
    have hn := new a (List.mem_cons_self ..)
    obtain ⟨n1, n2⟩ := List.nodup_cons.mp nd
    obtain ⟨r1, m1⟩ := rel_putT (as := as) (kvs := kvs) (H := upd H a (.tup [kV q.1, q.2])) n2 (fun t ht => by rw [upd_ne (fun z => n1 (by subst z; exact ht))]; exact new t (List.mem_cons_of_mem _ ht)) (r.laid hn)
    exact ⟨r1, (mono_laid r.h hn).trans m1⟩
def kM : Key → M
  | .inl i => .int i
  | .inr z => .str z
theorem kM_rv {k : Key} : RV T g H (kM k) (kV k) := by
  cases k
  · exact .int _
  · exact .str _
def itemsM (kms : List (Key × M)) : List M := kms.map fun kv => .tup [kM kv.1, kv.2]
theorem itemsM_rv : ∀ {kms : List (Key × M)} {kvs : List (Key × V)} {as : List Addr}, RFs T g H kms kvs → Paired (fun (t : Addr) (q : Key × V) => H t = some (.tup [kV q.1, q.2])) as kvs → RVs T g H (itemsM kms) (as.map V.ref)
  | _, _, _, .nil, .nil => .nil
  | _, _, _, .cons r rs, .cons e t => .cons (.tup e (.cons kM_rv (.cons r .nil))) (itemsM_rv rs t)
/-- tuple(d.items()) -/
def oItems (m : M) (s : MS) : Res M := match dictL s.hp m with
  | some kms => if kms.length ≤ big then .ok (.tup (itemsM kms)) s else .stuck
  | none => .stuck
theorem em_tupItems (hc : C.X.calm = true) (he : PMe C ex a) (hm : C.X.mg "tuple" = none) (hg : Gl C.X "tuple" := by rfl) (hv : bootBuiltins "tuple" = some (.type "tuple") := by first | rfl | decide +kernel) (hbase : attributeBase ex "items" C.X.env (eval ex C.X.env) = eval ex C.X.env := by rfl) (hline : (apos.endLine == cpos.line) = true := by rfl)
    (hs : starEach [.Call (.Attribute ex "items" apos) [] [] cpos] C.X.env = (false, eval (.Call (.Attribute ex "items" apos) [] [] cpos) C.X.env) :: starEach [] C.X.env := by rfl) :
    PMe C (.Call (.Name "tuple" p) [.Call (.Attribute ex "items" apos) [] [] cpos] [] pos) (fun s => (a s).bind oItems) := by
  refine ⟨fun pins sh σ H Q I hq => ?_⟩
  refine wpAny_Call_Name_kw (ld_blt I hg hm hv ?_)
  refine PyProof.Rows.callWith_type1 ?_ hs rfl
  rw [hs]
  show wpAny _ _ (spliced ((false, eval (.Call (.Attribute ex "items" apos) [] [] cpos) C.X.env) :: backTo pos (starEach [] C.X.env))) _ _ sh
  refine Calls.spliced_cons ?_
  refine wpAny_Call_method (T := "dict") (id := "dict.items") hbase rfl hline F.plainAttrs_dict F.slot_dict_items F.type_dict_items (thn (he.run pins sh σ H _ I (rdE_bind hq)) fun u s1 hh => ?_)
  obtain ⟨y, H1, I1, l1, m, s2, g1, r1, rm, q1⟩ := hh
  unfold oItems at q1
  split at q1
  · rename_i kms hd
    by_cases hl : kms.length ≤ big
    · rw [if_pos hl] at q1
      obtain ⟨n, d, kvs, rfl, hcl, rfl, hro, e, rf⟩ := dictL_at r1 hd rm
      obtain rfl : u = Value.ref d := l1
      obtain ⟨hz, hs0, vs, kv, hdo⟩ := I1.hok d _ e
      obtain ⟨ep, hat⟩ := hdo.dictAt
      have lk : kvs.length = vs.length := Paired.length kv
      have I2 : Inv C.X pins σ H1 { s1 with heap := s1.heap.push { cls := .type "dict_items", data := .fields #[.ref d] } } := I1.kept (t' := s1.toks) fun b ob q => Heap.get?_push_of_some _ q
      refine ⟨hdo.typeIs, hdo.mapOf.noDict, ?_⟩
      show wpAny _ _ (callWith cpos (.builtin "dict.items") [.ref d] [] []) _ C.X.xe s1
      refine method_meetsIn F.slot_dict_items F.entry_dict_items rfl (PySem.evalArgs_none ⟨rfl, hdo.typeIs, F.args_dict_items_1 _, _, meets_dict_items (mixKind C.X.prog C.X.w) d hs0, ⟨vs, hdo⟩, ?_⟩)
      refine Calls.spliced_nil ?_
      have gv : (s1.heap.push { cls := .type "dict_items", data := .fields #[.ref d] }).get? s1.heap.objs.size = some { cls := .type "dict_items", data := .fields #[.ref d] } := Heap.get?_push_size _ rfl
      refine code_tupItems (mixKind C.X.prog C.X.w) vs _ d ep (by omega) (I1.ok.hd hc) ⟨_, gv, rfl, rfl⟩ (hat.push _) ⟨_, gv, rfl⟩ fun h' tk as hk hla hG => ?_
      obtain ⟨nd, new, pr, J⟩ := tup_laid (tk := tk) I2 hz kv hk hla hG
      have lt : as.length = kvs.length := by omega
      have J2 : Inv C.X pins σ (upd (LiI.putT H1 as kvs) h'.objs.size (.tup (as.map V.ref))) { s1 with heap := h'.push { cls := .type "tuple", data := .seq (as.map Value.ref).toArray }, toks := tk } :=
        J.laid (t' := tk) (fun b o e => Heap.get?_push_of_some _ e) (Nat.le_refl _) (show ObjOk C.X.prog C.X.w _ _ _ (.tup (as.map V.ref)) from ⟨by rw [List.length_map]; omega, as.map Value.ref, LiI.vals_refs as, IsTup.new _ _⟩)
      have hn : LiI.putT H1 as kvs h'.objs.size = none := J.hok.fresh (Nat.le_refl _)
      obtain ⟨r2, mo2⟩ := rel_putT (kvs := kvs) nd new r1
      have r3 := r2.laid (o := .tup (as.map V.ref)) hn
      have mo3 := mo2.trans (mono_laid (o := .tup (as.map V.ref)) r2.h hn)
      have pr2 : Paired (fun (t : Addr) (q : Key × V) => upd (LiI.putT H1 as kvs) h'.objs.size (.tup (as.map V.ref)) t = some (.tup [kV q.1, q.2])) as kvs := paired_imp (fun t q e => by
        rw [upd_ne (ne_of_none e hn)]; exact e) pr
      exact ⟨.ref h'.objs.size, _, J2, rfl, q1 g1 _ _ mo3 r3 (.tup upd_same (itemsM_rv (rf.mono mo3) pr2))⟩
    · rw [if_neg hl] at q1; exact q1.elim
  · exact q1.elim
end
end Ma
/-! Ma46: a dict is locked while a row runs. -/
namespace Ma
open L2 PySem.W PySem.Spec PySem PyProof.Rows
def unlk (n : Nat) (r : Res Fl) : Res Fl := match r with
  | .ok f s => match s.hp[n]? with
    | some (.dF kms) => .ok f ⟨s.env, s.hp.set n (.dK kms)⟩
    | _ => .stuck
  | .err x s => .err x s
  | .stuck => .stuck
def sLock (i : Nat) (b : MStm) : MStm := fun s => match s.env[i]? with
  | some (some (.box n)) => match s.hp[n]? with
    | some (.dK kms) => unlk n (b ⟨s.env, s.hp.set n (.dF kms)⟩)
    | some (.dF _) => b s
    | _ => .stuck
  | _ => .stuck
section
variable {C : MC} {g g1 : Gh} {H H1 : Hp} {s : MS} {σ : L2.St} {st : Stmt} {b : MStm} {T : Tab}
theorem Rel.unlock (r : C.rel g s σ H) {n : Nat} {p : Addr} {od : Obj} {kvs : List (Key × V)} {kms : List (Key × M)} (hc : s.hp[n]? = some (.dF kms)) (hp : g.ro[n]? = some p) (e : H p = some (.frz od (.dK kvs))) (en : ∀ o u, C.e.H p ≠ some (.frz o u)) :
    C.rel g ⟨s.env, s.hp.set n (.dK kms)⟩ σ (upd H p (.dK kvs)) ∧ MonoB g H g (upd H p (.dK kvs)) := by
  have pf : ¬ g.fz p := r.h.thaw n _ p hc hp trivial
  have mo : MonoB g H g (upd H p (.dK kvs)) := ⟨List.prefix_refl _, fun _ h => h, fun a f => upd_ne (fun z => pf (z ▸ f)), fun a vs h => by
    have ne : a ≠ p := fun z => by subst z; rw [e] at h; cases h
    rw [upd_ne ne]; exact h⟩
  have inj : ∀ {m : Nat} {q : Addr}, g.ro[m]? = some q → q = p → m = n := fun {m q} h1 h2 => by
    subst h2
    exact nd_ix r.h.nd h1 hp
  have rf : RFs C.T g H kms kvs := by
    obtain ⟨o, kvs', e1, rf⟩ := r.h.cell n _ p hc hp
    rw [e] at e1
    cases e1
    exact rf
  have m0 : Mono C.e.g C.e.H g (upd H p (.dK kvs)) := ⟨⟨r.h.m0.ro.trans mo.ro, fun x h => mo.fz x (r.h.m0.fz x h), fun x h => (mo.fh x (r.h.m0.fz x h)).trans (r.h.m0.fh x h), fun x vs h => mo.tup x vs (r.h.m0.tup x vs h)⟩, fun a o u h => by
    have ne : a ≠ p := fun z => by subst z; exact en o u h
    rw [upd_ne ne]; exact r.h.m0.fr a o u h⟩
  have old : ∀ {q : Addr} {o : HO}, H q = some o → ∃ o', upd H p (.dK kvs) q = some o' := fun {q o} h => by
    by_cases z : q = p
    · subst z; exact ⟨_, upd_same⟩
    · exact ⟨o, by rw [upd_ne z]; exact h⟩
  refine ⟨r.envB mo ⟨by simp [r.h.len], r.h.nd, fun m d q h1 h2 => ?_, fun m d q h1 h2 ld => ?_, fun q f => ?_, fun q hq => ?_, fun q u h1 h2 => ?_, r.h.nfz, r.h.nro, m0, r.h.tb.upd (fun u z => by rw [e] at z; cases z; exact plain_frz) plain_dK.tbl (fun _ => plain_dK), r.h.tbe⟩, mo⟩
  · by_cases hmn : m = n
    · subst hmn
      rw [List.getElem?_set_self (List.getElem?_eq_some_iff.mp hc).1] at h1
      cases h1
      rw [hp] at h2
      cases h2
      exact ⟨kvs, upd_same, rf.monoB mo⟩
    · rw [List.getElem?_set_ne (Ne.symm hmn)] at h1
      exact (r.h.cell m d q h1 h2).monoB mo (upd_ne fun z => hmn (inj h2 z))
  · by_cases hmn : m = n
    · subst hmn
      rw [hp] at h2
      cases h2
      exact pf
    · rw [List.getElem?_set_ne (Ne.symm hmn)] at h1
      exact r.h.thaw m d q h1 h2 ld
  · obtain ⟨u, x⟩ := r.h.fzt q f; exact old x
  · obtain ⟨u, x⟩ := r.h.rot q hq; exact old x
  · have x := r.h.frm q u h1 h2
    have ne : q ≠ p := fun z => by
      subst z
      rcases r.h.nro q (List.mem_of_getElem? hp) with y | y
      · exact h2 y
      · rw [h1] at y; cases y
    rw [upd_ne ne]; exact x
theorem sm_lock {i : Nat} (h : PMs C st b) : PMs C st (sLock i b) := by
  refine ⟨fun pins sh σ H D I ⟨g, s, r, q⟩ => ?_⟩
  unfold sLock at q
  split at q
  · rename_i n hi
    split at q
    · rename_i kms hc
      obtain ⟨v, hv, rv⟩ := r.get hi
      obtain ⟨p, rfl, hp, kvs, e, rf⟩ := r.cellAt hc rv
      refine (ps_lock h).run pins sh σ H D I ⟨p, .dK kvs, e, trivial, fun od => ?_⟩
      obtain ⟨r1, m1⟩ := Rel.poke (c' := .dF kms) (o := .frz od (.dK kvs)) r hc hp trivial (fun ws z => by rw [e] at z; cases z) fun g' mo => ⟨od, kvs, upd_same, rf.mono mo⟩
      have en : ∀ o u, C.e.H p ≠ some (.frz o u) := fun o u z => by
        have y := r.h.m0.fr p o u z
        rw [e] at y
        cases y
      have pf : ¬ g.fz p := r.h.thaw n _ p hc hp trivial
      have back : ∀ {g' : Gh} {H' : Hp}, Mono g (upd H p (.frz od (.dK kvs))) g' H' → Mono g H g' (upd H' p (.dK kvs)) := fun {g' H'} mo => by
        have nz : ∀ {a : Addr} {u : HO}, H a = some u → (∀ w, u ≠ .dK w) → a ≠ p := fun {a u} h hn z => by subst z; rw [e] at h; cases h; exact hn _ rfl
        refine ⟨⟨mo.ro, mo.fz, fun a f => ?_, fun a vs h => ?_⟩, fun a o u h => ?_⟩
        · have ne : a ≠ p := fun z => pf (z ▸ f)
          rw [upd_ne ne, mo.fh a f, upd_ne ne]
        · have ne := nz h (fun w z => by cases z)
          rw [upd_ne ne]
          exact mo.tup a vs (by rw [upd_ne ne]; exact h)
        · have ne := nz h (fun w z => by cases z)
          rw [upd_ne ne]
          exact mo.fr a o u (by rw [upd_ne ne]; exact h)
      have at_ : ∀ {g' : Gh} {H' : Hp}, Mono g (upd H p (.frz od (.dK kvs))) g' H' → H' p = some (.frz od (.dK kvs)) := fun {g' H'} mo => mo.fr p od _ upd_same
      refine ⟨g, ⟨s.env, s.hp.set n (.dF kms)⟩, r1, ?_⟩
      cases hb : b ⟨s.env, s.hp.set n (.dF kms)⟩ with
      | stuck => rw [hb] at q; exact q.elim
      | err x s2 => rw [hb] at q; exact fun g' H' σ' cls d mo rl xr => q g' H' σ' cls d (m1.trans mo) rl xr
      | ok f s2 =>
        rw [hb] at q
        unfold unlk at q
        dsimp only at q
        split at q
        · rename_i kms' hc2
          have step : ∀ {g' : Gh} {H' : Hp} {σ' : L2.St}, Mono g (upd H p (.frz od (.dK kvs))) g' H' → C.rel g' s2 σ' H' → C.rel g' ⟨s2.env, s2.hp.set n (.dK kms')⟩ σ' (upd H' p (.dK kvs)) ∧ MonoB g' H' g' (upd H' p (.dK kvs)) := fun {g' H' σ'} mo rl =>
            Rel.unlock rl hc2 (mo.at hp) (at_ mo) en
          cases f with
          | nx => exact fun g' H' σ' mo rl => ⟨at_ mo, q g' _ σ' (back mo) (step mo rl).1⟩
          | bk => exact fun g' H' σ' mo rl => ⟨at_ mo, q g' _ σ' (back mo) (step mo rl).1⟩
          | ct => exact fun g' H' σ' mo rl => ⟨at_ mo, q g' _ σ' (back mo) (step mo rl).1⟩
          | rt m => exact fun g' H' σ' v mo rl rv => ⟨at_ mo, q g' _ σ' v (back mo) (step mo rl).1 (rv.monoB (step mo rl).2)⟩
        · exact q.elim
    · exact h.run pins sh σ H D I ⟨g, s, r, q⟩
    · exact q.elim
  · exact q.elim
end
end Ma
/-! Ma47: walks over a locked dict's keys; dicts laid. -/
namespace Ma
open L2 PySem.W PySem.Spec PySem PyProof.Rows
section
variable {C : MC} {g g1 : Gh} {H H1 : Hp} {s : MS} {σ : L2.St} {tg ex : Expr} {a : ME} {pos p : Pos}
def keysM (kms : List (Key × M)) : List M := (kms.map (·.1)).map fun | .inl i => M.int i | .inr x => M.str x
def iKey (a : ME) : MI := fun s => (a s).bind fun m s1 => match m with
  | .box n => match s1.hp[n]? with
    | some (.dF kms) => .ok (keysM kms) s1
    | _ => .stuck
  | _ => .stuck
theorem im_key (ha : PMe C ex a) : PMi C tg ex (iKey a) := by
  refine ⟨fun pins s σ H R I h => ?_⟩
  refine thn (ha.run pins s σ H _ I (rdE_bindI h)) fun u s1 ⟨x, H1, I1, rx, m, ms1, g1, r1, rv, q⟩ => ?_
  split at q
  · rename_i n
    split at q
    · rename_i kms hc
      obtain ⟨d, rfl, hp, o, kvs, e, rf⟩ := r1.cellAt hc rv
      obtain rfl : u = Value.ref d := rx
      obtain ⟨hs, hgd, hx, es, ep, vs', hdt, hsz, kv, hm⟩ := I1.frzK e
      have hl : (keysM kms).length = kvs.length := by simp [keysM, rf.length]
      refine iter_keys hs hgd hx hdt (pi_one (tk := s1.toks) I1 _ (turn_keys (d := d) (kvs := kvs) _ hdt) ⟨_, Heap.get?_push_size _ rfl, rfl, ?_⟩ (q g1 H1 _ (Mono.refl _ _) r1 ?_))
      · rw [hsz] <;> rfl
      · refine wk_of (vs := (kms.map (·.1)).map kV) (G := fun H => H d = some (.frz o (.dK kvs))) ?_ (fun g2 H2 mo2 => mo2.fr d o _ e) (rv_keys _)
        rw [hl]
        refine walk_keys.mono (fun _ h => h) fun i H x H' hi hg ⟨e1, k, v, e2, e3⟩ => ⟨e1, ?_⟩
        have e4 : (kms.map (·.1))[i]? = some k := by
          rw [rf.keys, List.getElem?_map, e2]; rfl
        rw [List.getElem?_map, e4, e3]
        rfl
    · exact q.elim
  · exact q.elim
/-- {} -/
def mDnew : ME := fun s => .ok (.box s.hp.length) ⟨s.env, s.hp ++ [.dK []]⟩
theorem boxAt {g : Gh} {H : Hp} {hp : List Cell} {p : Addr} {T : Tab} {e : En} (r : RelH T e g hp H) {H' : Hp} : RV T (g.box p) H' (.box hp.length) (.ref p) :=
  .box (by show (g.ro ++ [p])[hp.length]? = some p; rw [← r.len, List.getElem?_concat_length])
theorem em_dnew : PMe C (.Dict [] [] pos) mDnew := wkE pe_dnewK fun σ H Q ⟨g, s, r, q⟩ p hn => by
  obtain ⟨r2, mo⟩ := r.box (o := .dK []) (c := .dK []) hn fun g' mo => ⟨[], upd_same, .nil⟩
  exact q (g.box p) _ _ mo r2 (boxAt r.h)
/-- dict(pairs) -/
def pairM : M → Option (Key × M)
  | .tup [k, v] => (keyM k).map fun k => (k, v)
  | _ => none
def pairsM : List M → Option (List (Key × M))
  | [] => some []
  | m :: ms => match pairM m, pairsM ms with
    | some p, some ps => some (p :: ps)
    | _, _ => none
def mergeM (kms more : List (Key × M)) : List (Key × M) := more.foldl (fun acc kv => putG acc kv.1 kv.2) kms
theorem RFs.merge {T : Tab} : ∀ {more : List (Key × M)} {mv : List (Key × V)}, RFs T g H more mv → ∀ {kms : List (Key × M)} {kvs : List (Key × V)}, RFs T g H kms kvs → RFs T g H (mergeM kms more) (mergeK kvs mv) := by
  intro more mv r
  induction r with
  | nil => intro kms kvs r; exact r
  | @cons k m v fs vs q t ih => intro kms kvs r; exact ih (r.put k q)
theorem pairsM_at {T : Tab} : ∀ {ms : List M} {xs : List V} {ps : List (Key × M)}, RVs T g H ms xs → pairsM ms = some ps → ∃ (as : List Addr) (kvs : List (Key × V)), xs = as.map V.ref ∧ Paired (fun p kv => H p = some (.tup [kV kv.1, kv.2])) as kvs ∧ RFs T g H ps kvs
  | _, _, _, .nil, h => by cases h; exact ⟨[], [], rfl, .nil, .nil⟩
  | m :: ms, x :: xs, ps, .cons r rs, h => by
    unfold pairsM at h
    split at h
    · rename_i p ps' h1 h2
      cases h
      obtain ⟨as, kvs, rfl, pr, rf⟩ := pairsM_at rs h2
      unfold pairM at h1
      split at h1
      · rename_i k v
        cases hk : keyM k with
        | none => rw [hk] at h1; cases h1
        | some ky =>
          rw [hk] at h1
          cases h1
          cases r with
          | tup e rt =>
            cases rt with
            | cons ra rb =>
              cases rb with
              | cons rc rd =>
                cases rd
                have ey := keyM_at hk ra
                subst ey
                exact ⟨_ :: as, (ky, _) :: kvs, rfl, .cons e pr, .cons rc rf⟩
      · cases h1
    · cases h
def cDict (ms : List M) (s : MS) : Res M := match ms with
  | [x] => match seqL s.hp x with
    | some xs => match pairsM xs with
      | some ps => .ok (.box s.hp.length) ⟨s.env, s.hp ++ [.dK (mergeM [] ps)]⟩
      | none => .stuck
    | none => .stuck
  | _ => .stuck
theorem ok_dict : CallOk C (fun xs H Q => ∃ (a : Addr) (ps : List Addr) (kvs : List (Key × V)), xs = [.ref a] ∧ SqL C.X.K H a (ps.map V.ref) ∧ Paired (fun p kv => SqT C.X.K H p [kV kv.1, kv.2]) ps kvs ∧ ∀ p, H p = none → Q (.ref p) (upd H p (.dK (mergeK [] kvs)))) cDict := fun σ H g s ms xs Q r rs h => by
  unfold cDict at h
  split at h
  · rename_i x
    cases rs with
    | cons r1 r2 =>
      cases r2
      split at h
      · rename_i ys hy
        split at h
        · rename_i ps hp
          obtain ⟨q, vs, rfl, hq, rv⟩ := seqL_at r hy r1
          obtain ⟨as, kvs, rfl, pr, rf⟩ := pairsM_at rv hp
          refine ⟨q, as, kvs, rfl, hq, paired_imp (fun p kv e => .inl (.inl e)) pr, fun p hn => ?_⟩
          obtain ⟨r2, mo⟩ := r.box (o := .dK (mergeK [] kvs)) (c := .dK (mergeM [] ps)) hn fun g' mo => ⟨_, upd_same, (rf.mono mo).merge .nil⟩
          exact h (g.box p) _ _ mo r2 (boxAt r.h)
        · exact h.elim
      · exact h.elim
  · exact h.elim
end
end Ma
/-! Ma48: {k: v for target in iter if ..}; dicts compared. -/
namespace Ma
open L2 PySem.W PySem.Spec PySem PyProof.Rows
section
variable {J : It} {n : Nat} {G : Hp → Prop} {Y : Nat → Hp → V → Hp → Prop}
theorem dk_it (w : Walk J n G Y) {g : TG} {tt : TT} {tk tv : TE} {vs : List Nat} {σ : L2.St} {H1 : Hp} {D : Addr} {Qd : Hp → Prop} (Pv : Nat → Hp → Prop) (h0 : Pv 0 (upd H1 D (.dK []))) (hG : ∀ i H, i ≤ n → Pv i H → G H)
    (hs : ∀ i x H H', i < n → Pv i H → Y i H x H' → g x (wipe σ vs) H' fun σ2 H2 => wipe σ2 vs = wipe σ vs ∧ tt σ2 H2 fun b H3 =>
      if b = true then tk σ2 H3 fun y H4 => tv σ2 H4 fun z H5 => ∃ kvs k, y = kV k ∧ H5 D = some (.dK kvs) ∧ kvs.length < sizeLine ∧ Pv (i + 1) (upd H5 D (.dK (putK kvs k z))) else Pv (i + 1) H3) (hd : ∀ H, Pv n H → Qd H) :
    ∃ W : Nat → Nat → Hp → Prop, (∃ m, W 0 m (upd H1 D (.dK []))) ∧ ∀ i m H, W i m H →
      (J.stop i H ∧ Qd H) ∨ (J.go i H ∧ ∃ Nx : Hp → Prop, (∀ H', Nx H' → ∃ m', m' < m ∧ W (i + 1) m' H') ∧ ∀ x H', J.yld i H x H' → g x (wipe σ vs) H' fun σ2 H2 => wipe σ2 vs = wipe σ vs ∧ tt σ2 H2 fun b H3 =>
        if b = true then tk σ2 H3 fun y H4 => tv σ2 H4 fun z H5 => ∃ kvs k, y = kV k ∧ H5 D = some (.dK kvs) ∧ kvs.length < sizeLine ∧ Nx (upd H5 D (.dK (putK kvs k z))) else Nx H3) := by
  refine ⟨fun i m H => m = n - i ∧ (i ≤ n ∧ Pv i H), ⟨n, by simp, Nat.zero_le _, h0⟩, fun i m H hW => ?_⟩
  obtain ⟨rfl, hi, p⟩ := hW
  have gg := hG i H hi p
  rcases Nat.lt_or_ge i n with hlt | hge
  · exact .inr ⟨w.goes i H hlt gg, Pv (i + 1), fun H' p' => ⟨n - (i + 1), by omega, rfl, hlt, p'⟩, fun x H' y => hs i x H H' hlt p (w.yields i H x H' hlt gg y)⟩
  · obtain rfl : i = n := by omega
    exact .inl ⟨w.stops H gg, hd H p⟩
end
section
variable {C : MC} {g g1 : Gh} {H H1 : Hp} {s : MS} {σ : L2.St}
def dcLoop (vs : List Nat) (tg : MG) (tt : MT) (kx el : ME) : List M → List (Key × M) → MS → Res (List (Key × M))
  | [], acc, s => .ok acc s
  | x :: xs, acc, s => match tg x ⟨wipeM s.env vs, s.hp⟩ with
    | .ok _ s1 => match tt s1 with
      | .ok true s2 => match kx s2 with
        | .ok y s3 => match keyM y with
          | some k => match el s3 with
            | .ok z s4 => if acc.length < big then dcLoop vs tg tt kx el xs (putG acc k z) ⟨s.env, s4.hp⟩ else .stuck
            | _ => .stuck
          | none => .stuck
        | _ => .stuck
      | .ok false s2 => dcLoop vs tg tt kx el xs acc ⟨s.env, s2.hp⟩
      | _ => .stuck
    | _ => .stuck
def mDc (vs : List Nat) (it : MI) (tg : MG) (tt : MT) (kx el : ME) : ME := fun s => (it s).bind fun xs s1 => (dcLoop vs tg tt kx el xs [] s1).bind fun ms s2 => .ok (.box s2.hp.length) ⟨s2.env, s2.hp ++ [.dK ms]⟩
/-- the new dict, beside all that the machine knows -/
structure SideK (e : En) (g : Gh) (H : Hp) (D : Addr) (vs : List (Key × V)) : Prop where
  at_ : H D = some (.dK vs)
  nf : ¬ g.fz D
  nr : D ∉ g.ro
  ne : e.H D = none
theorem RelH.sideK {T : Tab} {e : En} {hp : List Cell} {D : Addr} {vs ws : List (Key × V)} (r : RelH T e g hp H) (d : SideK e g H D vs) : RelH T e g hp (upd H D (.dK ws)) ∧ Mono g H g (upd H D (.dK ws)) ∧ SideK e g (upd H D (.dK ws)) D ws := by
  have off : ∀ {a : Addr} {u : HO}, H a = some u → (∀ w, u ≠ .dK w) → a ≠ D := fun {a u} h n z => by subst z; rw [d.at_] at h; cases h; exact n _ rfl
  have mo : Mono g H g (upd H D (.dK ws)) := ⟨⟨List.prefix_refl _, fun _ h => h, fun a f => upd_ne fun z => d.nf (z ▸ f), fun a us h => by rw [upd_ne (off h fun w z => by cases z)]; exact h⟩, fun a o u h => by rw [upd_ne (off h fun w z => by cases z)]; exact h⟩
  have nr : ∀ {n : Nat} {a : Addr}, g.ro[n]? = some a → a ≠ D := fun h z => d.nr (z ▸ List.mem_of_getElem? h)
  refine ⟨⟨r.len, r.nd, fun n c a h1 h2 => (r.cell n c a h1 h2).mono mo (upd_ne (nr h2)), r.thaw, fun a f => ?_, fun a h => ?_, fun a o h1 h2 => ?_, r.nfz, r.nro, r.m0.trans mo, r.tb.upd (fun u z => by rw [d.at_] at z; cases z; exact plain_dK) plain_dK.tbl (fun _ => plain_dK), r.tbe⟩, mo, ⟨upd_same, d.nf, d.nr, d.ne⟩⟩
  · obtain ⟨o, q⟩ := r.fzt a f
    exact ⟨o, (upd_ne fun (z : a = D) => d.nf (z ▸ f)).trans q⟩
  · obtain ⟨o, q⟩ := r.rot a h
    exact ⟨o, (upd_ne fun (z : a = D) => d.nr (z ▸ h)).trans q⟩
  · have q := r.frm a o h1 h2
    have z : a ≠ D := fun z => by subst z; rw [d.ne] at h1; cases h1
    exact (upd_ne z).trans q
theorem SideK.later {T : Tab} {e : En} {hp hp' : List Cell} {D : Addr} {vs : List (Key × V)} (d : SideK e g H D vs) (q : RelH T ⟨g, H⟩ g1 hp' H1) : SideK e g1 H1 D vs := by
  have no : ¬ H D = none := fun z => by rw [d.at_] at z; cases z
  refine ⟨q.frm D _ d.at_ d.nr, fun f => ?_, fun h => ?_, d.ne⟩
  · exact (q.nfz D f).elim d.nf fun z => z.elim no d.nr
  · exact (q.nro D h).elim d.nr no
/-- it becomes a box -/
theorem Rel.adopt (r : C.rel g s σ H) {p : Addr} {kvs : List (Key × V)} {kms : List (Key × M)} (d : SideK C.e g H p kvs) (rf : RFs C.T g H kms kvs) : C.rel (g.box p) ⟨s.env, s.hp ++ [.dK kms]⟩ σ H ∧ Mono g H (g.box p) H := by
  have mo : Mono g H (g.box p) H := ⟨⟨List.prefix_append _ _, fun _ h => h, fun _ _ => rfl, fun _ _ h => h⟩, fun _ _ _ h => h⟩
  have look : ∀ {n : Nat} {c' : Cell} {a : Addr}, (s.hp ++ [.dK kms])[n]? = some c' → (g.ro ++ [p])[n]? = some a → (s.hp[n]? = some c' ∧ g.ro[n]? = some a) ∨ (c' = .dK kms ∧ a = p) := fun {n c' a} h1 h2 => by
    rcases Nat.lt_or_ge n s.hp.length with hl | hl
    · rw [List.getElem?_append_left hl] at h1
      rw [List.getElem?_append_left (by rw [r.h.len]; exact hl)] at h2
      exact .inl ⟨h1, h2⟩
    · rw [List.getElem?_append_right hl] at h1
      rw [List.getElem?_append_right (by rw [r.h.len]; exact hl), r.h.len] at h2
      cases hk : n - s.hp.length with
      | zero => rw [hk] at h1 h2; cases h1; cases h2; exact .inr ⟨rfl, rfl⟩
      | succ k => rw [hk] at h1; cases h1
  have mem : ∀ {a : Addr}, a ∈ g.ro ++ [p] → a ∈ g.ro ∨ a = p := fun {a} h => by simpa using h
  refine ⟨r.env mo ⟨by simp [Gh.box, r.h.len], ?_, fun n c' a h1 h2 => ?_, fun n c' a h1 h2 lv f => ?_, r.h.fzt, fun a h => ?_, r.h.frm, r.h.nfz, fun a h => ?_, r.h.m0.trans mo, r.h.tb.box (fun u z => by rw [d.at_] at z; cases z; exact plain_dK), r.h.tbe⟩, mo⟩
  · show (g.ro ++ [p]).Nodup
    rw [List.nodup_append]
    exact ⟨r.h.nd, by simp, fun x hx y hy => by simp at hy; subst hy; exact fun z => d.nr (z ▸ hx)⟩
  · rcases look h1 h2 with ⟨e1, e2⟩ | ⟨rfl, rfl⟩
    · exact (r.h.cell n c' a e1 e2).mono mo rfl
    · exact ⟨kvs, d.at_, rf.mono mo⟩
  · rcases look h1 h2 with ⟨e1, e2⟩ | ⟨rfl, rfl⟩
    · exact r.h.thaw n c' a e1 e2 lv f
    · exact d.nf f
  · rcases mem h with h | rfl
    · exact r.h.rot a h
    · exact ⟨_, d.at_⟩
  · rcases mem h with h | rfl
    · exact r.h.nro a h
    · exact .inr d.ne
def GoK (C : MC) (σ : L2.St) (D : Addr) (r : Res (List (Key × M))) (g : Gh) (H : Hp) (Q : Hp → Prop) : Prop := match r with
  | .ok ms s => ∀ (g' : Gh) (H' : Hp) (vs : List (Key × V)), Mono g H g' H' → C.rel g' s σ H' → SideK C.e g' H' D vs → RFs C.T g' H' ms vs → Q H'
  | _ => False
theorem GoK.later {D : Addr} {r : Res (List (Key × M))} {Q : Hp → Prop} (m : Mono g H g1 H1) (h : GoK C σ D r g H Q) : GoK C σ D r g1 H1 Q := by
  cases r with
  | ok a s => exact fun g' H' v q => h g' H' v (m.trans q)
  | err x s => exact h
  | stuck => exact h
theorem wipe_two (us : List Nat) (τ : L2.St) : wipe (wipe τ us) us = wipe τ us := by
  have key : ∀ (us : List Nat) (τ : L2.St) (j : Nat), (wipe τ us)[j]? = if j ∈ us then (if j < τ.length then some none else none) else τ[j]? := by
    intro us
    induction us with
    | nil => intro τ j; simp [wipe]
    | cons k us ih =>
      intro τ j
      unfold wipe
      rw [List.getElem?_set, ih, wipe_length]
      by_cases hk : k = j
      · subst hk; simp
      · simp [hk, Ne.symm hk]
  apply List.ext_getElem?
  intro j
  rw [key, key, wipe_length]
  split <;> rfl
theorem dcLoop_ne {vs : List Nat} {mg : MG} {mt : MT} {mk me : ME} {x : Exc} {s2 : MS} : ∀ (xs : List M) (acc : List (Key × M)) (s : MS), dcLoop vs mg mt mk me xs acc s ≠ .err x s2
  | [], acc, s, z => by cases z
  | y :: ys, acc, s, z => by
    unfold dcLoop at z
    split at z
    · split at z
      · split at z
        · split at z
          · split at z
            · split at z
              · exact dcLoop_ne ys _ _ z
              · cases z
            · cases z
          · cases z
        · cases z
      · exact dcLoop_ne ys _ _ z
      · cases z
    · cases z
theorem dc_rd {mi : MI} {mg : MG} {mt : MT} {mk me : ME} {vs : List Nat} {g' : TG} {tt : TT} {tk te : TE} (hg : ∀ e v σ H Q, rdGc ⟨C.X, C.T, e, fun _ _ _ _ => False, C.hK⟩ vs mg v σ H Q → g' v σ H Q)
    (ht : ∀ e σ H Q, rdT ⟨C.X, C.T, e, fun _ _ _ _ => False, C.hK⟩ mt σ H Q → tt σ H Q) (hk : ∀ e σ H Q, rdE ⟨C.X, C.T, e, fun _ _ _ _ => False, C.hK⟩ mk σ H Q → tk σ H Q) (he : ∀ e σ H Q, rdE ⟨C.X, C.T, e, fun _ _ _ _ => False, C.hK⟩ me σ H Q → te σ H Q) {σ : L2.St} {H : Hp} {Q : VK}
    (h : rdE C (mDc vs mi mg mt mk me) σ H Q) : tDc (rdI C mi) g' tt tk te vs σ H Q := by
  obtain ⟨g, s, r, q⟩ := h
  refine ⟨g, s, r, ?_⟩
  unfold mDc at q
  unfold GoI
  cases hm : mi s with
  | stuck => rw [hm] at q; exact q.elim
  | err x s1 => rw [hm] at q; exact q
  | ok items s1 =>
    rw [hm] at q
    dsimp only [Res.bind] at q
    intro g0 H0 J mo0 r0 wk D hD
    have q := Go.later mo0 q
    have fin0 : GoK C σ D (dcLoop vs mg mt mk me items [] s1) g0 H0 (fun H' => Q (.ref D) H') := by
      unfold GoK
      cases hl : dcLoop vs mg mt mk me items [] s1 with
      | stuck => rw [hl] at q; exact q.elim
      | err x s2 => exact absurd hl (dcLoop_ne _ _ _)
      | ok ms s2 =>
        rw [hl] at q
        intro g' H' ws mo r' d rs
        obtain ⟨r2, mo2⟩ := r'.adopt d rs
        exact q (g'.box D) H' (.ref D) (mo.trans mo2) r2 (boxAt r'.h)
    have hDr : D ∉ g0.ro := fun z => by obtain ⟨o, e⟩ := r0.h.rot D z; rw [hD] at e; cases e
    have hDf : ¬ g0.fz D := fun z => by obtain ⟨o, e⟩ := r0.h.fzt D z; rw [hD] at e; cases e
    have hDe : C.e.H D = none := (r0.h.lost hD).elim (fun z => z) fun z => absurd (r0.h.m0.ro.subset z) hDr
    have mo1 := mono_laid (o := .dK []) r0.h hD
    have r1 := r0.laid (o := .dK []) hD
    obtain ⟨G, Y, w, hG, hY⟩ := wk
    refine dk_it w (fun i H => ∃ g hp acc ws, Mono g0 H0 g H ∧ C.rel g ⟨s1.env, hp⟩ σ H ∧ SideK C.e g H D ws ∧ RFs C.T g H acc ws ∧ GoK C σ D (dcLoop vs mg mt mk me (items.drop i) acc ⟨s1.env, hp⟩) g H (fun H' => Q (.ref D) H'))
      ⟨g0, s1.hp, [], [], mo1, r1, ⟨upd_same, hDf, hDr, hDe⟩, .nil, fin0.later mo1⟩ (fun i H _ ⟨g, _, _, _, mo, _⟩ => hG g H mo) ?_ ?_
    · rintro i x H1 H2 hi ⟨g1, hp1, acc, ws, mo1, r1, d1, rs1, q1⟩ y
      obtain ⟨m, hm, mo2, r2, rv, same⟩ := hY i g1 H1 ⟨s1.env, hp1⟩ σ x H2 hi mo1 r1 y
      have d2 : SideK C.e g1 H2 D ws := ⟨same _ _ d1.at_, d1.nf, d1.nr, d1.ne⟩
      have q1 := q1.later mo2
      have rs2 := rs1.mono mo2
      rw [drop_of hm] at q1
      unfold dcLoop at q1
      have rt : Rel C.T ⟨g1, H2⟩ g1 ⟨wipeM s1.env vs, hp1⟩ (wipe σ vs) H2 := by
        have z := Rel.wipe (vs := vs) r2
        exact ⟨z.h.self, z.len, z.sl⟩
      refine hg ⟨g1, H2⟩ _ _ _ _ ⟨g1, ⟨wipeM s1.env vs, hp1⟩, m, rt, rv, ?_⟩
      dsimp only at q1
      cases ht1 : mg m ⟨wipeM s1.env vs, hp1⟩ with
      | stuck => rw [ht1] at q1; exact q1.elim
      | err e s2 => rw [ht1] at q1; exact q1.elim
      | ok u s2 =>
        rw [ht1] at q1
        intro σ2 r3 hw
        refine ⟨by rw [hw]; exact wipe_two vs σ, ht ⟨g1, H2⟩ _ _ _ ⟨g1, s2, r3, ?_⟩⟩
        dsimp only at q1
        cases ht2 : mt s2 with
        | stuck => rw [ht2] at q1; exact q1.elim
        | err e s3 => rw [ht2] at q1; exact q1.elim
        | ok k s3 =>
          rw [ht2] at q1
          intro g3 H3 b mo3 r3' eb
          cases eb
          cases k with
          | false =>
            rw [if_neg Bool.false_ne_true]
            have mo3' := r3'.h.m0
            exact ⟨g3, s3.hp, acc, ws, (mo1.trans mo2).trans mo3', r2.env mo3' (r2.h.comp r3'.h), d2.later (hp := hp1) r3'.h, rs2.mono mo3', q1.later mo3'⟩
          | true =>
            rw [if_pos rfl]
            refine hk ⟨g1, H2⟩ _ _ _ ⟨g3, s3, r3', ?_⟩
            dsimp only at q1
            cases ht3 : mk s3 with
            | stuck => rw [ht3] at q1; exact q1.elim
            | err e s4 => rw [ht3] at q1; exact q1.elim
            | ok y s4 =>
              rw [ht3] at q1
              intro g4 H4 yv mo4 r4 ry
              dsimp only at q1
              cases hky : keyM y with
              | none => rw [hky] at q1; exact q1.elim
              | some ky =>
                rw [hky] at q1
                dsimp only at q1
                have ey := keyM_at hky ry
                refine he ⟨g1, H2⟩ _ _ _ ⟨g4, s4, r4, ?_⟩
                cases ht4 : me s4 with
                | stuck => rw [ht4] at q1; exact q1.elim
                | err e s5 => rw [ht4] at q1; exact q1.elim
                | ok z s5 =>
                  rw [ht4] at q1
                  intro g5 H5 zv mo5 r5 rz
                  dsimp only at q1
                  by_cases hb : acc.length < big
                  · rw [if_pos hb] at q1
                    have mo5' := r5.h.m0
                    have rc : RelH C.T C.e g5 s5.hp H5 := r2.h.comp r5.h
                    have d5 := d2.later (hp := hp1) r5.h
                    have rs5 := rs2.mono mo5'
                    obtain ⟨rh6, mo6, d6⟩ := rc.sideK (ws := putK ws ky zv) d5
                    exact ⟨ws, ky, ey, d5.at_, by rw [← rs5.length, sizeLine_eq]; exact hb, g5, s5.hp, putG acc ky z, putK ws ky zv, ((mo1.trans mo2).trans mo5').trans mo6, (r2.env mo5' rc).env mo6 rh6, d6, (rs5.put ky rz).mono mo6, q1.later (mo5'.trans mo6)⟩
                  · rw [if_neg hb] at q1; exact q1.elim
    · rintro H1 ⟨g1, hp1, acc, ws, mo1, r1, d1, rs1, q1⟩
      rw [List.drop_length] at q1
      exact q1 g1 H1 ws (Mono.refl _ _) r1 d1 rs1
variable {tg iter elt kxe : Expr} {ifs : List Expr} {scope : Scope} {own : List (Str × Nat)} {pos spos : Pos} {mi : MI} {mg : MG} {mt : MT} {mk me : ME}
theorem em_dc (hc : C.X.calm = true) (hN : C.X.N.Nodup) (hi : PMi C tg iter mi) (ok : BlkOk C.X.N C.X.env.scope scope own)
    (hg : ∀ (s : Shared) (H : Hp) (D : Addr) (cl : List (Str × Addr)) (fp : List Addr) (e : En), PMc (C.inBlk s H scope D cl fp e) (own.map (·.2)) tg mg)
    (ht : ∀ (s : Shared) (H : Hp) (D : Addr) (cl : List (Str × Addr)) (fp : List Addr) (e : En), PMts (C.inBlk s H scope D cl fp e) ifs mt)
    (hk : ∀ (s : Shared) (H : Hp) (D : Addr) (cl : List (Str × Addr)) (fp : List Addr) (e : En), PMe (C.inBlk s H scope D cl fp e) kxe mk)
    (he : ∀ (s : Shared) (H : Hp) (D : Addr) (cl : List (Str × Addr)) (fp : List Addr) (e : En), PMe (C.inBlk s H scope D cl fp e) elt me)
    (hs : ∀ x, foldedSetIterable iter C.X.env x = pure x := by intro _; rfl) : PMe C (.DictComp kxe elt [⟨tg, iter, ifs, 0⟩] scope pos) (mDc (own.map (·.2)) mi mg mt mk me) :=
  wkE (pe_dc (g := fun v σ H Q => ∃ e, rdGc ⟨C.X, C.T, e, fun _ _ _ _ => False, C.hK⟩ (own.map fun (p : Str × Nat) => p.2) mg v σ H Q) (tt := fun σ H Q => ∃ e, rdT ⟨C.X, C.T, e, fun _ _ _ _ => False, C.hK⟩ mt σ H Q)
    (tk := fun σ H Q => ∃ e, rdE ⟨C.X, C.T, e, fun _ _ _ _ => False, C.hK⟩ mk σ H Q) (tv := fun σ H Q => ∃ e, rdE ⟨C.X, C.T, e, fun _ _ _ _ => False, C.hK⟩ me σ H Q) hc hN hi ok
    (fun s H D cl fp => ⟨fun pins s1 σ H1 v u Q I r ⟨e, q⟩ => (hg s H D cl fp e).run pins s1 σ H1 v u Q I r q⟩)
    (fun s H D cl fp => ⟨fun pins s1 σ H1 Q I ⟨e, q⟩ => (ht s H D cl fp e).run pins s1 σ H1 Q I q⟩)
    (fun s H D cl fp => ⟨fun pins s1 σ H1 Q I ⟨e, q⟩ => (hk s H D cl fp e).run pins s1 σ H1 Q I q⟩)
    (fun s H D cl fp => ⟨fun pins s1 σ H1 Q I ⟨e, q⟩ => (he s H D cl fp e).run pins s1 σ H1 Q I q⟩) hs)
    fun σ H Q h => dc_rd (fun e v σ H Q z => ⟨e, z⟩) (fun e σ H Q z => ⟨e, z⟩) (fun e σ H Q z => ⟨e, z⟩) (fun e σ H Q z => ⟨e, z⟩) h
end
/-! ### d == e, the values ints -/
section
variable {C : MC} {g g1 : Gh} {H H1 : Hp} {s : MS} {σ : L2.St} {T : Tab}
/-- none: a value that is no int; else whether all are there -/
def eqD (lms : List (Key × M)) : List (Key × M) → Option Bool
  | [] => some true
  | (k, .int i) :: r => match valG lms k, eqD lms r with
    | none, some _ => some false
    | some (.int j), some b => some ((i == j) && b)
    | _, _ => none
  | _ => none
theorem eqD_hits {A : Around} {sh : Shared} {lms : List (Key × M)} {lvs : List (Key × V)} {vb : List (Key × Value)} (r2 : RFs T g H lms lvs) (k2 : KV lvs vb) : ∀ {kms : List (Key × M)} {kvs : List (Key × V)} {va : List (Key × Value)} {b : Bool},
    RFs T g H kms kvs → KV kvs va → eqD lms kms = some b → KeqHits A sh vb va b
  | [], _, _, b, .nil, .nil, h => by cases h; exact .nil
  | (k, m) :: kms, (_, v) :: kvs, (k', u) :: va, b, .cons rv rs, .cons hd tl, h => by
    obtain ⟨e1, ru⟩ := hd
    have e1 : k = k' := e1
    subst e1
    have ru : RelV v u := ru
    cases m <;> first | cases h | skip
    rename_i i
    unfold eqD at h
    cases rv
    obtain ⟨t, rfl⟩ := (show ∃ t, u = Value.int i t from ru)
    split at h
    · rename_i b' h1 h2
      cases h
      rcases r2.valG k with ⟨m', vv, f1, f2, f3⟩ | ⟨f1, f2⟩
      · rw [f1] at h1; cases h1
      · have z := k2.val k
        rw [f2] at z
        cases q : valueAt vb k with
        | none => exact .miss q
        | some w => rw [q] at z; exact z.elim
    · rename_i j b' h1 h2
      cases h
      rcases r2.valG k with ⟨m', vv, f1, f2, f3⟩ | ⟨f1, f2⟩
      · rw [f1] at h1
        cases h1
        cases f3
        have z := k2.val k
        rw [f2] at z
        cases q : valueAt vb k with
        | none => rw [q] at z; exact z.elim
        | some w =>
          rw [q] at z
          obtain ⟨t', rfl⟩ := (show ∃ t, w = Value.int j t from z)
          exact .hit q (SeqAt.EqAt.int_int i t j t') (eqD_hits r2 k2 rs tl h2)
      · rw [f1] at h1; cases h1
    · cases h
def oEqK (neg : Bool) (o : M → M → MS → Res M) (x y : M) (s : MS) : Res M := match dictOf s.hp x, dictOf s.hp y with
  | some ks, some ls => match eqD ls ks with
    | some b => .ok (.bl (if neg then !(ks.length == ls.length && b) else (ks.length == ls.length && b))) s
    | none => .stuck
  | none, none => o x y s
  | _, _ => .stuck
theorem op_eqK {o : M → M → MS → Res M} (hu : C.X.A.units < cLine) (h : Op2Ok C (compareOp .Eq) o) : Op2Ok C (compareOp .Eq) (oEqK false o) := by
  intro pins sh σ H g ms m1 m2 x y v u Q I r r1 r2 l1 l2 q
  unfold oEqK at q
  split at q
  · rename_i ks ls h1 h2
    split at q
    · rename_i b hb
      obtain ⟨n, a, kvs, rfl, rfl, hro, e, rf⟩ := dictOf_at r h1 r1
      obtain ⟨n2, a2, kvs2, rfl, rfl, hro2, e2, rf2⟩ := dictOf_at r h2 r2
      cases (show v = Value.ref a from l1)
      cases (show u = Value.ref a2 from l2)
      obtain ⟨_, ya, va, ra, da⟩ := dk_rd I.hok e
      obtain ⟨_, yb, vb, rb, db⟩ := dk_rd I.hok e2
      refine keq_eq (knd := mixKind C.X.prog C.X.w) (r := b) ya yb da db hu (fun _ => eqD_hits rf2 rb rf ra hb) (fin_bl I (q.ret r (.bl _)) ?_)
      rw [rf.length, rf2.length, ra.length, rb.length]
      rfl
    · exact q.elim
  · exact h pins sh σ H g ms m1 m2 x y v u Q I r r1 r2 l1 l2 q
  · exact q.elim
end
end Ma
/-! Ma49: sorted(..) of pairs of ints, of ints; of lists and tuples. -/
namespace Ma
open L2 PySem.W PySem.Spec PySem PyProof.Rows
/-! ### the one sorted list -/
abbrev IP := Int × Int
def insP (p : IP) : List IP → List IP
  | [] => [p]
  | q :: r => if SrtO.lexB q p = true then q :: insP p r else p :: q :: r
def srtP : List IP → List IP
  | [] => []
  | p :: r => insP p (srtP r)
theorem insP_perm (p : IP) : ∀ l : List IP, (insP p l).Perm (p :: l)
  | [] => List.Perm.refl _
  | q :: r => by
    unfold insP
    split
    · exact ((insP_perm p r).cons q).trans (List.Perm.swap p q r)
    · exact List.Perm.refl _
theorem srtP_perm : ∀ l : List IP, (srtP l).Perm l
  | [] => List.Perm.refl _
  | p :: r => (insP_perm p (srtP r)).trans ((srtP_perm r).cons p)
/-- none behind comes before -/
abbrev leP (p q : IP) : Prop := SrtO.lexB q p = false
theorem leP_iff {p q : IP} : leP p q ↔ p.1 < q.1 ∨ (p.1 = q.1 ∧ p.2 ≤ q.2) := by
  unfold leP
  rw [SrtO.lexB_no]
  omega
theorem insP_sorted {p : IP} : ∀ {l : List IP}, l.Pairwise leP → (insP p l).Pairwise leP
  | [], _ => by simp [insP]
  | q :: r, h => by
    obtain ⟨h1, h2⟩ := List.pairwise_cons.mp h
    unfold insP
    split
    · rename_i hl
      refine List.pairwise_cons.mpr ⟨fun x hx => ?_, insP_sorted h2⟩
      rcases List.mem_cons.mp ((insP_perm p r).mem_iff.mp hx) with rfl | hx
      · have := SrtO.lexB_iff.mp hl
        exact leP_iff.mpr (by omega)
      · exact h1 x hx
    · rename_i hl
      have hpq : leP p q := by
        cases e : SrtO.lexB q p with
        | true => exact absurd e hl
        | false => exact e
      refine List.pairwise_cons.mpr ⟨fun x hx => ?_, h⟩
      rcases List.mem_cons.mp hx with rfl | hx
      · exact hpq
      · have a := leP_iff.mp hpq
        have b := leP_iff.mp (h1 x hx)
        exact leP_iff.mpr (by omega)
theorem srtP_sorted : ∀ l : List IP, (srtP l).Pairwise leP
  | [] => by simp [srtP]
  | p :: r => insP_sorted (srtP_sorted r)
theorem sorted_one : ∀ {l m : List IP}, l.Pairwise leP → m.Pairwise leP → l.Perm m → l = m
  | [], m, _, _, h => (List.Perm.eq_nil h.symm).symm
  | x :: l, [], _, _, h => absurd h.length_eq (by simp)
  | x :: l, y :: m, hl, hm, h => by
    obtain ⟨a1, a2⟩ := List.pairwise_cons.mp hl
    obtain ⟨b1, b2⟩ := List.pairwise_cons.mp hm
    have e : x = y := by
      rcases List.mem_cons.mp (h.mem_iff.mp (List.mem_cons_self (a := x) (l := l))) with e | hx
      · exact e
      · rcases List.mem_cons.mp (h.mem_iff.mpr (List.mem_cons_self (a := y) (l := m))) with e | hy
        · exact e.symm
        · have p := leP_iff.mp (a1 y hy)
          have q := leP_iff.mp (b1 x hx)
          exact Prod.ext (by omega) (by omega)
    subst e
    rw [sorted_one a2 b2 h.cons_inv]
/-! ### sorted(t), t a tuple -/
section
variable {prog : Program} {w : World} {A : Around} {E : Value → Shared → Prop} {s : Shared}
theorem sortT {t : Addr} {o : Obj} {vs : List Value} {n : Nat} {ltv : Value → Value → Bool} {Q : Value → Shared → Prop} (O : SrtO.Swo ltv) (ho : s.heap.get? t = some o) (hc : o.cls = .type "tuple") (hd : o.data = .seq vs.toArray n) (hz : vs.length ≤ sizeLine)
    (hS : 2 ≤ vs.length → ∀ (h₁ : Heap) (a : Addr), h₁.get? a = some (seqObj "list" vs.toArray 0) → (∀ b o, s.heap.get? b = some o → b ≠ a ∧ h₁.get? b = some o) → SrtO.SortableO prog w A.in1.in1 { s with heap := h₁ } a vs ltv)
    (h : ∀ (h1 h' : Heap) (out : List Value), SrtO.Srtd ltv out → SrtO.Stb ltv out vs → (∀ b o, s.heap.get? b = some o → h1.get? b = some o) → (∀ b o, h1.get? b = some o → h'.get? b = some o) → (∃ n, h'.get? h1.objs.size = some (seqObj "list" out.toArray n)) → Q (.ref h1.objs.size) { s with heap := h' }) :
    wpAny (model prog w) A (call (.builtin "sorted") [.ref t]) Q E s := by
  refine Calls.call_function_entry kind_sorted plain_sorted entry_sorted (args_sorted1 _) ?_
  unfold Builtin.«sorted»
  refine wpAny_bind (m := checkCount "sorted" 1 1 _) (wpAny_pure ?_)
  refine wpAny_bind (wpAny_collect_seq t (.inr rfl) ho hc hd (fun h1 hk => ?_) (by rw [List.size_toArray]; exact hz))
  have e : vs.toArray.toList = vs := by simp
  rw [e]
  refine wpAny_bind (wpAny_newList ?_ hz)
  have big : ∀ b o, h1.get? b = some o → b ≠ h1.objs.size := fun b o q => Nat.ne_of_lt (Heap.lt_size q)
  have here : (h1.push (seqObj "list" vs.toArray 0)).get? h1.objs.size = some (seqObj "list" vs.toArray 0) := Heap.get?_push_size _ rfl
  have keep : ∀ b o, s.heap.get? b = some o → b ≠ h1.objs.size ∧ (h1.push (seqObj "list" vs.toArray 0)).get? b = some o := fun b o q => ⟨big b o (hk b o q), Heap.get?_push_of_some _ (hk b o q)⟩
  show wpAny _ _ _ _ _ { s with heap := h1.push (seqObj "list" vs.toArray 0) }
  refine wpAny_bind (wpAny_holding (wpAny_call_entry slot_list_sort ⟨_, here, rfl⟩ entry_list_sort (SrtO.list_sort_ord O here hz (fun h2 => hS h2 _ _ here keep) fun out hs hb => ⟨_, rfl, ?_⟩) (args_list_sort _)))
  refine wpAny_pure ⟨_, rfl, h h1 _ out hs hb hk (fun b o q => ?_) (sortedHeap_at here)⟩
  have lt := Heap.lt_size q
  rw [sortedHeap_old (big b o q) (by rw [size_push']; exact Nat.lt_succ_of_lt lt)]
  exact Heap.get?_push_of_some _ q
end
section
variable {X : Cx}
theorem cr_sortedT : CallR X (.builtin "sorted") (fun vs H Q => ∃ (a : Addr) (xs : List V) (k : V → Int × Int), vs = [V.ref a] ∧ SqT X.K H a xs ∧ (∀ x ∈ xs, ∃ t, x = V.ref t ∧ H t = some (.tup [.int (k x).1, .int (k x).2])) ∧
    ∀ ys p, SrtO.Srtd (ltP k) ys → SrtO.Stb (ltP k) ys xs → H p = none → Q (.ref p) (upd H p (.lst ys))) := by
  intro pins s σ H vs us Q I r h
  obtain ⟨a, xs, k, rfl, hs, hx, q⟩ := h
  obtain ⟨its, rv, ht, hz⟩ := I.tuple hs
  obtain ⟨u, rfl, ru⟩ := vals1 r
  obtain rfl : u = Value.ref a := ru
  obtain ⟨e1, e2⟩ := refs_back rv fun x m => by
    obtain ⟨t, e, _⟩ := hx x m
    exact ⟨t, e⟩
  obtain ⟨o, ho, hc, n, hd⟩ := ht
  have hp : ∀ v ∈ its, Srt.IsPair s.heap v (k (backV v)).1 (k (backV v)).2 := fun v hv => by
    obtain ⟨t, rfl⟩ := e2 v hv
    have hm : V.ref t ∈ xs := by rw [e1]; exact List.mem_map.mpr ⟨_, hv, rfl⟩
    obtain ⟨t', e, ht⟩ := hx _ hm
    cases e
    obtain ⟨_, its2, r2, o, ho, hc, n, hd⟩ := I.hok _ _ ht
    obtain ⟨u1, u2, rfl, ri, rj⟩ := vals2 r2
    obtain ⟨t1, rfl⟩ := ri
    obtain ⟨t2, rfl⟩ := rj
    exact ⟨t, o, t1, t2, n, rfl, ho, hc, hd⟩
  refine sortT (SrtO.swo_lex fun u => k (backV u)) ho hc hd (by rw [← rv.length]; exact hz) (fun h2 h₁ a ha kk => ?_) fun h1 h' out s1 s2 k1 k2 hn => ?_
  · refine SrtO.pairs_sortableO (s := { s with heap := h₁ }) (by omega) (fun v hm => (hp v hm).keeps fun b o e _ => (kk b o e).2) fun o e => ?_
    have e' := e.symm.trans ha
    cases e'
    intro c
    exact absurd (Value.type.inj c) (by decide)
  · have h3 : ∀ u ∈ out, ∃ a, u = Value.ref a := fun u hu => e2 u (s2.perm.mem_iff.mp hu)
    obtain ⟨n, hn⟩ := hn
    have hb : SrtO.Stb (ltP k) (out.map backV) xs := by
      rw [e1]
      exact SrtO.Stb.map (ltP_swo k) backV s2
    have I1 : Inv X pins σ H { s with heap := h1 } := I.kept (t' := s.toks) k1
    refine ⟨.ref h1.objs.size, upd H h1.objs.size (.lst (out.map backV)), I1.laid (t' := s.toks) k2 (Nat.le_refl _) ⟨?_, out, n, vals_back h3, hn⟩, rfl, q _ _ (SrtO.srtd_map s1) hb (I1.hok.fresh (Nat.le_refl _))⟩
    rw [hb.perm.length_eq]
    exact hz
end
section
variable {C : MC} {g g1 : Gh} {H H1 : Hp} {s : MS} {σ : L2.St} {T : Tab}
def pairOf : M → Option IP
  | .tup [.int i, .int j] => some (i, j)
  | _ => none
def pairsOf : List M → Option (List IP)
  | [] => some []
  | m :: ms => match pairOf m, pairsOf ms with
    | some p, some ps => some (p :: ps)
    | _, _ => none
def pM (p : IP) : M := .tup [.int p.1, .int p.2]
/-- the two ints of a pair on the heap -/
def kOf (H : Hp) (x : V) : IP := match x with
  | .ref t => match H t with
    | some (.tup [.int i, .int j]) => (i, j)
    | _ => (0, 0)
  | _ => (0, 0)
theorem pairsOf_at : ∀ {ms : List M} {xs : List V} {ps : List IP}, RVs T g H ms xs → pairsOf ms = some ps → (∀ x ∈ xs, ∃ t, x = V.ref t ∧ H t = some (.tup [.int (kOf H x).1, .int (kOf H x).2])) ∧ xs.map (kOf H) = ps
  | [], _, _, .nil, h => by cases h; exact ⟨fun x hx => (nomatch hx), rfl⟩
  | m :: ms, x :: xs, _, .cons r rs, h => by
    unfold pairsOf at h
    split at h
    · rename_i p ps h1 h2
      cases h
      obtain ⟨a1, a2⟩ := pairsOf_at rs h2
      unfold pairOf at h1
      split at h1
      · rename_i i j
        cases h1
        cases r with
        | @tup a _ vs e rt =>
          cases rt with
          | cons ra rb =>
            cases rb with
            | cons rc rd =>
              cases rd; cases ra; cases rc
              have k : kOf H (.ref a) = (i, j) := by unfold kOf; dsimp only; rw [e]
              refine ⟨fun y hy => ?_, by rw [List.map_cons, a2, k]⟩
              rcases List.mem_cons.mp hy with rfl | hy
              · exact ⟨a, rfl, by rw [k]; exact e⟩
              · exact a1 y hy
      · cases h1
    · cases h
theorem pairs_rv : ∀ {ys : List V}, (∀ y ∈ ys, ∃ t, y = V.ref t ∧ H t = some (.tup [.int (kOf H y).1, .int (kOf H y).2])) → RVs T g H ((ys.map (kOf H)).map pM) ys
  | [], _ => .nil
  | y :: ys, h => by
    obtain ⟨t, e, ht⟩ := h y (List.mem_cons_self ..)
    refine .cons ?_ (pairs_rv fun z hz => h z (List.mem_cons_of_mem _ hz))
    generalize kOf H y = k at ht ⊢
    subst e
    exact .tup ht (.cons (.int _) (.cons (.int _) .nil))
def cSort (ms : List M) (s : MS) : Res M := match seqA s ms with
  | some xs => match pairsOf xs with
    | some ps => .ok (.lst ((srtP ps).map pM)) s
    | none => .stuck
  | none => .stuck
abbrev rSortA (K : PySem.W.Frag) : RC := fun vs H Q => (∃ (a : Addr) (xs : List V) (k : V → Int × Int), vs = [V.ref a] ∧ SqT K H a xs ∧ (∀ x ∈ xs, ∃ t, x = V.ref t ∧ H t = some (.tup [.int (k x).1, .int (k x).2])) ∧
    ∀ ys p, SrtO.Srtd (ltP k) ys → SrtO.Stb (ltP k) ys xs → H p = none → Q (.ref p) (upd H p (.lst ys))) ∨ rSortedPO K vs H Q
theorem cr_sortA {X : Cx} : CallR X (.builtin "sorted") (rSortA X.K) := CallR.alt cr_sortedT cr_sortedPO
theorem ok_sort : CallOk C (rSortA C.X.K) cSort := fun σ H g s ms xs Q r rs h => by
  unfold cSort at h
  split at h
  · rename_i ys hy
    split at h
    · rename_i ps hp
      obtain ⟨q, vs, rfl, hq, rv⟩ := seqA_at r rs hy
      obtain ⟨a1, a2⟩ := pairsOf_at rv hp
      have fin : ∀ zs p, SrtO.Srtd (ltP (kOf H)) zs → SrtO.Stb (ltP (kOf H)) zs vs → H p = none → Q (.ref p) (upd H p (.lst zs)) := fun zs p s1 s2 hn => by
        have e : zs.map (kOf H) = srtP ps := by
          refine sorted_one (List.pairwise_map.mpr s1) (srtP_sorted ps) (((s2.perm.map _).trans ?_).trans (srtP_perm ps).symm)
          rw [a2]
        have rz : RVs C.T g H ((srtP ps).map pM) zs := by
          rw [← e]
          exact pairs_rv fun y hy => a1 y (s2.perm.mem_iff.mp hy)
        exact h.newL r rz hn
      rcases hq with hq | hq
      · exact .inr ⟨q, vs, kOf H, rfl, hq, a1, fin⟩
      · exact .inl ⟨q, vs, kOf H, rfl, hq, a1, fin⟩
    · exact h.elim
  · exact h.elim
end
end Ma
/-! Ma50: str(i), join, texts with values in them, enumerate, zip. -/
namespace Ma
open L2 PySem.W PySem.Spec PySem PyProof.Rows
section
variable {C : MC} {g g1 : Gh} {H H1 : Hp} {s : MS} {σ : L2.St} {ex eo ea eb : Expr} {es : List Expr} {a b : ME} {ma : MA} {pos p apos tpos : Pos} {x : Str} {T : Tab}
/-! ### texts with values in them -/
/-! ### enumerate, zip -/
def enumM (ms : List M) : List M := ms.zipIdx.map fun p => .tup [.int (p.2 : Nat), p.1]
def iEnum (a : MA) : MI := fun s => (a s).bind fun ms s1 => match ms with
  | [.lst xs] => .ok (enumM xs) s1
  | _ => .stuck
theorem rdA_it {ma : MA} {f : List M → MS → Res (List M)} {R : It → Hp → Prop} (h : rdI C (fun s => (ma s).bind f) σ H R) : rdA C ma σ H fun xs H1 => ∃ ms s1 g1, C.rel g1 s1 σ H1 ∧ RVs C.T g1 H1 ms xs ∧ GoI C σ (f ms s1) g1 H1 R := by
  obtain ⟨g, s, r, q⟩ := h
  refine ⟨g, s, r, ?_⟩
  dsimp only at q
  cases hm : ma s with
  | stuck => rw [hm] at q; exact q.elim
  | err x s1 => rw [hm] at q; exact q
  | ok ms s1 => rw [hm] at q; exact fun g' H' v mo r' rv => ⟨ms, s1, g', r', rv, GoI.later mo q⟩
theorem wk_pair {items : List M} {J : It} {G : Hp → Prop} {f1 f2 : Nat → Option V} (w : Walk J items.length G (YPair f1 f2)) (hG : ∀ g1 H1, Mono g H g1 H1 → G H1)
    (hi : ∀ i x y, i < items.length → f1 i = some x → f2 i = some y → ∃ m1 m2, items[i]? = some (.tup [m1, m2]) ∧ RV C.T g H m1 x ∧ RV C.T g H m2 y) : Wk C g H items J := by
  refine ⟨G, _, w, hG, @fun ee i g1 H1 s σ x H2 hlt mo rel y => ?_⟩
  obtain ⟨t, v1, v2, rfl, hn, rfl, e1, e2⟩ := y
  obtain ⟨m1, m2, e, r1, r2⟩ := hi i v1 v2 hlt e1 e2
  have ml := mono_laid (o := .tup [v1, v2]) rel.h hn
  have m := mo.trans ml
  exact ⟨_, e, ml, Rel.laid (C := ⟨C.X, C.T, ee, C.W, C.hK⟩) (o := .tup [v1, v2]) rel hn, .tup upd_same (.cons (r1.mono m) (.cons (r2.mono m) .nil)), fun a o h => by rw [upd_ne (ne_of_none h hn)]; exact h⟩
theorem im_enum {elts : List Expr} {kk : Nat} (ha : PMa C [ex] ma) (hm : C.X.mg "enumerate" = none) (hg : Gl C.X "enumerate" := by rfl) (hs : starEach [ex] C.X.env = [(false, eval ex C.X.env)] := by rfl) :
    PMi C (.Tuple elts kk tpos) (.Call (.Name "enumerate" p) [ex] [] pos) (iEnum ma) := by
  refine ⟨fun pins sh σ H R I h => (pi_enum hg hm ha hs).run pins sh σ H R I ?_⟩
  obtain ⟨g, s, r, q⟩ := rdA_it h
  refine ⟨g, s, r, q.imp ?_⟩
  rintro xs H1 ⟨ms, s1, g1, r1, rs, q1⟩
  split at q1
  · rename_i ys
    cases rs with
    | cons ra rb =>
      cases rb
      cases ra with
      | @lst a _ vs f e rs =>
        refine ⟨a, vs, rfl, .inl (.inl e), q1 g1 H1 _ (Mono.refl _ _) r1 ?_⟩
        have hl : (enumM ys).length = vs.length := by simp [enumM, rs.length]
        refine wk_pair (G := fun H => SqL C.X.K H a vs) (hl ▸ walk_enum) (fun g2 H2 mo2 => .inl (.inl ((mo2.fh _ f).trans e))) fun i x y hi e1 e2 => ?_
        cases e1
        have hj : i < ys.length := by rw [hl] at hi; rw [rs.length]; exact hi
        obtain ⟨v, hv, rv⟩ := rs.get (List.getElem?_eq_getElem hj)
        rw [hv] at e2
        cases e2
        exact ⟨_, _, by simp [enumM, hj], .int _, rv⟩
  · exact q1.elim
end
end Ma
/-! Ma51: small things that a text's readings name. -/
namespace Ma
open L2 PySem.W PySem.Spec PySem PyProof.Rows
theorem room1 {u : Nat} (h : u + 64 < cLine) : u + 1 < cLine := by omega
theorem room0 {u : Nat} (h : u + 64 < cLine) : u < cLine := by omega
structure NoS (T : Tab) (c : Str) : Prop where
  ex : ∀ A, T.ad c = some A → noSeq T.K A = true
section
variable {C : MC} {g g1 : Gh} {H H1 : Hp} {s : MS} {σ : L2.St} {ex : Expr} {a : ME} {pos : Pos} {T : Tab}
abbrev mAt (a : ME) (o : M → MS → Res M) : ME := fun s => (a s).bind o
abbrev mItems (a : ME) : ME := fun s => (a s).bind oItems
theorem op_neK {o : M → M → MS → Res M} (hu : C.X.A.units < cLine) (h : Op2Ok C (compareOp .NotEq) o) : Op2Ok C (compareOp .NotEq) (oEqK true o) := by
  intro pins sh σ H g ms m1 m2 x y v u Q I r r1 r2 l1 l2 q
  unfold oEqK at q
  split at q
  · rename_i ks ls h1 h2
    split at q
    · rename_i b hb
      obtain ⟨n, a, kvs, rfl, rfl, hro, e, rf⟩ := dictOf_at r h1 r1
      obtain ⟨n2, a2, kvs2, rfl, rfl, hro2, e2, rf2⟩ := dictOf_at r h2 r2
      cases (show v = Value.ref a from l1)
      cases (show u = Value.ref a2 from l2)
      obtain ⟨_, ya, va, ra, da⟩ := dk_rd I.hok e
      obtain ⟨_, yb, vb, rb, db⟩ := dk_rd I.hok e2
      refine keq_ne (knd := mixKind C.X.prog C.X.w) (r := b) ya yb da db hu (fun _ => eqD_hits rf2 rb rf ra hb) (fin_bl I (q.ret r (.bl _)) ?_)
      rw [rf.length, rf2.length, ra.length, rb.length]
      rfl
    · exact q.elim
  · exact h pins sh σ H g ms m1 m2 x y v u Q I r r1 r2 l1 l2 q
  · exact q.elim
end
end Ma
/-! Ma52: list(range(n)), bool(x) by an own `__len__`. -/
namespace Ma
open L2 PySem.W PySem.Spec PySem PyProof.Rows
section
variable {C : MC} {g g1 : Gh} {H H1 : Hp} {s : MS} {σ : L2.St} {ea eb ex : Expr} {es : List Expr} {a b : ME} {ma : MA} {pos p p2 pos2 : Pos} {x c name f : Str} {k : Nat} {F : Fn} {pins : List (Addr × Obj)} {sh : Shared} {T : Tab}
def pTru : M → Option M
  | .int i => if 0 ≤ i ∧ i < 9223372036854775808 then some (.bl (i != 0)) else none
  | _ => none
theorem RVs.upTo (n : Nat) : RVs T g H (Ma.upTo 0 n) ((List.range n).map fun i => V.int (0 + (i : Nat))) := by
  unfold Ma.upTo
  induction (List.range n) with
  | nil => exact .nil
  | cons i r ih => exact .cons (.int _) ih
def mListRange (a : ME) : ME := fun s => (a s).bind fun x s1 => match x with
  | .int n => if 0 ≤ n ∧ n ≤ 1048576 then .ok (.lst (upTo 0 n.toNat)) s1 else .stuck
  | _ => .stuck
theorem em_listRange (hc : C.X.calm = true) (hm : C.X.mg "list" = none) (hm2 : C.X.mg "range" = none) (ha : PMe C ex a) (hg : Gl C.X "list" := by rfl) (hg2 : Gl C.X "range" := by rfl)
    (na : starEach [ex] C.X.env = (false, eval ex C.X.env) :: starEach [] C.X.env := by rfl)
    (nb : starEach [.Call (.Name "range" p2) [ex] [] pos2] C.X.env = (false, eval (.Call (.Name "range" p2) [ex] [] pos2) C.X.env) :: starEach [] C.X.env := by rfl) :
    PMe C (.Call (.Name "list" p) [.Call (.Name "range" p2) [ex] [] pos2] [] pos) (mListRange a) :=
  wkE (pe_listRg hc hg hm (prg_1 hg2 hm2 ha na) nb) fun σ H Q h => by
    obtain ⟨g, s, r, q⟩ := rdE_bind h
    refine ⟨g, s, r, q.imp ?_⟩
    rintro x H1 ⟨m, s1, g1, r1, rv, q1⟩
    split at q1
    · rename_i n
      by_cases hn : 0 ≤ n ∧ n ≤ 1048576
      · rw [if_pos hn] at q1
        cases rv
        obtain ⟨h0, h1⟩ := hn
        refine ⟨n, rfl, ⟨by omega, by omega, by omega, by omega, by omega⟩, fun l hl => ?_⟩
        have e : (n - 0).toNat = n.toNat := by rw [Int.sub_zero]
        refine q1.newL r1 ?_ hl
        unfold rgV
        rw [e]
        exact RVs.upTo _
      · rw [if_neg hn] at q1; exact q1.elim
    · exact q1.elim
end
end Ma
/-! Ma53: dict displays. -/
namespace Ma
open L2 PySem.W PySem.Spec PySem PyProof.Rows
section
variable {C : MC} {g g1 : Gh} {H H1 : Hp} {s : MS} {σ : L2.St} {ea eb ex : Expr} {es : List Expr} {a b : ME} {pos p : Pos} {T : Tab} {ps : List (ME × ME)} {keys : List (Option Expr)} {values : List Expr}
abbrev rdPs (C : MC) (ps : List (ME × ME)) : List (TE × TE) := ps.map fun q => (rdE C q.1, rdE C q.2)
structure PMp (C : MC) (pos : Pos) (keys : List (Option Expr)) (values : List Expr) (ps : List (ME × ME)) : Prop where
  run : PPs C.X pos keys values (rdPs C ps)
theorem PMp.nil : PMp C pos [] [] [] := ⟨pps_nil⟩
theorem PMp.cons (ha : PMe C ea a) (hb : PMe C eb b) (h : PMp C pos keys values ps) : PMp C pos (some ea :: keys) (eb :: values) ((a, b) :: ps) := ⟨pps_cons ha hb h.run⟩
end
end Ma
/-! Ma54: a built-in value compared with an own instance: the own `__eq__` is asked; in of lists by it. -/
namespace Ma
open L2 PySem.W PySem.Spec PySem PyProof.Rows
end Ma
/-! Ma55: (a, b, ..) = a tuple or a list. -/
namespace Ma
open L2 PySem.W PySem.Spec PySem PyProof.Rows
section
variable {C : MC} {g g1 : Gh} {H H1 : Hp} {s : MS} {σ : L2.St} {pos p : Pos} {x c name f : Str}
def gUnpN (is : List Nat) : MG := fun w s => match w with
  | .lst ms => match setM is ms s.env with
    | some env' => .ok () ⟨env', s.hp⟩
    | none => .stuck
  | w => gTupN is w s
theorem setM_len : ∀ {is : List Nat} {ms : List M} {env env' : List (Option M)}, setM is ms env = some env' → ms.length = is.length
  | [], [], _, _, _ => rfl
  | [], _ :: _, _, _, z => by cases z
  | _ :: _, [], _, _, z => by cases z
  | _ :: is, _ :: ms, _, _, z => congrArg Nat.succ (setM_len (is := is) (ms := ms) z)
theorem gm_unpN {es : List Expr} {k : Nat} {is : List Nat} {n : Nat} (hc : C.X.calm = true) (h : PGs C.X es (gNs is)) (hl : is.length = n := by rfl)
    (hn : (assignEach es C.X.env).length = n := by rfl) (hst : (assignEach es C.X.env).findIdx? (·.1) = none := by rfl) : PMg C (.Tuple es k pos) (gUnpN is) := by
  refine ⟨fun pins sh σ H v u Q I l q => ?_⟩
  obtain ⟨g, s, w, r, rv, q1⟩ := q
  by_cases hw : ∃ ms, w = .lst ms
  · obtain ⟨ms, rfl⟩ := hw
    unfold gUnpN at q1
    dsimp only at q1
    cases he : setM is ms s.env with
    | none => rw [he] at q1; exact q1.elim
    | some env' =>
      rw [he] at q1
      cases rv with
      | @lst pa _ vs fz e rs =>
        exact (pg_unl (n := n) hc h hn hst).run pins sh σ H _ u Q I l ⟨pa, vs, rfl, .inl (.inl e), by rw [← rs.length, setM_len he, hl], ns_of (env := s.env) (hp := s.hp) r rs he fun σ' r' _ => q1 g H σ' (Mono.refl _ _) r'⟩
  · have e : gUnpN is w s = gTupN is w s := by
      cases w <;> first | rfl | exact absurd ⟨_, rfl⟩ hw
    rw [e] at q1
    exact (gm_tupN hc h hl hn hst).run pins sh σ H v u Q I l ⟨g, s, w, r, rv, q1⟩
end
end Ma
/-! Ma56: what a law's head tells of own classes: methods, properties, making, fields. -/
namespace Ma
open L2 PySem.W PySem.Spec PySem PyProof.Rows
/-- the head's hook, defs at any address -/
def obsP (fa : List He.Fa) (fn : List He5.DefA) (ni : List IniD) (ex : Frag → Bool) (K : Frag) : AlM :=
  ((fa.all fun f => f.ok K) && ((fn.all fun d => d.ok K) && ex K), fn.map fun d => He5.fnA K (d.at_ K), ni.map fun d => iniW K d.cls)
def valP (fn : List He5.DefA) (ni : List IniD) : AlM := (true, fn.map He5.DefA.val, ni.map IniD.val)
def SaysP (fa : List He.Fa) (fn : List He5.DefA) (ni : List IniD) (ex : Frag → Bool) (K : Frag) : Prop := obsP fa fn ni ex K = valP fn ni
section
variable {fa : List He.Fa} {fn : List He5.DefA} {ni : List IniD} {ex : Frag → Bool} {K : Frag}
theorem SaysP.d (c : SaysP fa fn ni ex K) : He5.SaysA fa fn K := by
  have h1 : ((fa.all fun f => f.ok K) && ((fn.all fun d => d.ok K) && ex K)) = true := congrArg (fun z : AlM => z.1) c
  have h2 : (fn.map fun d => He5.fnA K (d.at_ K)) = fn.map He5.DefA.val := congrArg (fun z : AlM => z.2.1) c
  obtain ⟨a, b⟩ := Bool.and_eq_true_iff.mp h1
  obtain ⟨b, _⟩ := Bool.and_eq_true_iff.mp b
  show (((fa.all fun f => f.ok K) && fn.all fun d => d.ok K), fn.map fun d => He5.fnA K (d.at_ K)) = (true, fn.map He5.DefA.val)
  rw [h2, a, b]; rfl
theorem SaysP.more (c : SaysP fa fn ni ex K) : ex K = true := by
  have h1 : ((fa.all fun f => f.ok K) && ((fn.all fun d => d.ok K) && ex K)) = true := congrArg (fun z : AlM => z.1) c
  exact (Bool.and_eq_true_iff.mp (Bool.and_eq_true_iff.mp h1).2).2
theorem SaysP.ini (c : SaysP fa fn ni ex K) {d : IniD} (h : d ∈ ni) : iniW K d.cls = d.val := by
  have h2 : (ni.map fun d => iniW K d.cls) = ni.map IniD.val := congrArg (fun z : AlM => z.2.2) c
  obtain ⟨i, hi, e⟩ := List.mem_iff_getElem.mp h
  have h3 : (ni.map fun d => iniW K d.cls)[i]? = (ni.map IniD.val)[i]? := by rw [h2]
  rw [List.getElem?_map, List.getElem?_map, List.getElem?_eq_getElem hi, e] at h3
  exact Option.some.inj h3
end
/-! ### a class's facts as Bools -/
section
variable {K : Frag} {C : Addr}
def clsB (K : Frag) (C : Addr) : Bool := plainGet K C Str.empty && (hasDictIn K C && (plainOver K C && eqb (findIn K (.ref C) "__setattr__") (some (some (.builtin "object.__setattr__")))))
theorem clsB_ok (h : clsB K C = true) : Cls K C := by
  obtain ⟨h1, h⟩ := Bool.and_eq_true_iff.mp h
  obtain ⟨h2, h⟩ := Bool.and_eq_true_iff.mp h
  obtain ⟨h3, h4⟩ := Bool.and_eq_true_iff.mp h
  exact ⟨h1, h2, h3, eqb_ok h4⟩
def insB (K : Frag) (C : Addr) : Bool := clsB K C && (eqb (findIn K (.ref C) "__class__") (some (some (.builtin "object.__class__"))) && (eqb (specialIn K (.builtin "object.__class__") "__get__") (some (some (.builtin "getset_descriptor.__get__"))) && (decide (takesIn K (.builtin "object.__class__") = some true) && decide (mroIn K C (.type "object") = some true))))
theorem insB_ok (h : insB K C = true) : InsK K C := by
  obtain ⟨h1, h⟩ := Bool.and_eq_true_iff.mp h
  obtain ⟨h2, h⟩ := Bool.and_eq_true_iff.mp h
  obtain ⟨h3, h⟩ := Bool.and_eq_true_iff.mp h
  obtain ⟨h4, h5⟩ := Bool.and_eq_true_iff.mp h
  exact ⟨clsB_ok h1, eqb_ok h2, eqb_ok h3, of_decide_eq_true h4, of_decide_eq_true h5⟩
def methB (K : Frag) (C : Addr) (m : Str) : Bool := eqb (findIn K (.ref C) m) (some (some (.ref (He.ma K C m)))) && (isFn K (.ref (He.ma K C m)) && fnIn K (He.ma K C m))
def mkB (K : Frag) (C : Addr) : Bool := makesIn K C && (eqb (findIn K (.ref C) "__init__") (some (some (.ref (He.ma K C "__init__")))) && (isFn K (.ref (He.ma K C "__init__")) && keepIn K (.ref C)))
theorem mkB_ok (h : mkB K C = true) : Mk K C (He.ma K C "__init__") := by
  obtain ⟨h1, h⟩ := Bool.and_eq_true_iff.mp h
  obtain ⟨h2, h⟩ := Bool.and_eq_true_iff.mp h
  obtain ⟨h3, h4⟩ := Bool.and_eq_true_iff.mp h
  exact ⟨h1, eqb_ok h2, h3, h4⟩
def propB (K : Frag) (C : Addr) (f : Str) : Bool := eqb (findIn K (.ref C) f) (some (some (.ref (He.ma K C f)))) && (eqb (specialIn K (.ref (He.ma K C f)) "__get__") (some (some (.builtin "property.__get__"))) &&
  (decide (takesIn K (.ref (He.ma K C f)) = some true) && (match recIn K (He.ma K C f) "property" with
    | some (.ref _ :: _) => true
    | _ => false)))
theorem propB_ok {f : Str} (h : propB K C f = true) : PropOf K C f (He.ma K C f) (He5.wf K C "property" f) := by
  obtain ⟨h1, h⟩ := Bool.and_eq_true_iff.mp h
  obtain ⟨h2, h⟩ := Bool.and_eq_true_iff.mp h
  obtain ⟨h3, h4⟩ := Bool.and_eq_true_iff.mp h
  refine ⟨eqb_ok h1, eqb_ok h2, of_decide_eq_true h3, ?_⟩
  unfold He5.wf
  split at h4
  · rename_i g rest e
    rw [e]
    exact ⟨rest, rfl⟩
  · cases h4
def noB (K : Frag) (C : Addr) (f : Str) : Bool := eqb (findIn K (.ref C) f) (some none)
theorem noB_ok {f : Str} (h : noB K C f = true) : NoAttr K C f := eqb_ok h
def dropB (o : Option (Option Value)) : Bool := match o with
  | some none => true
  | some (some (.ref _)) => true
  | _ => false
def binB (K : Frag) (C : Addr) (op : Operator) (n : String) : Bool := selfFirst K C && (dropB (findIn K (.ref C) (dunderR op.info.2)) && ((findIn K (.type n) (PySem.dunder op.info.2)).isSome && ((findIn K (.type n) (dunderR op.info.2)).isSome && decide (subIn K (.type n) (.ref C) = some false))))
end
section
variable {tb : List (Addr × Str)} {K : Frag} {cs : List Str} {c : Str} {P : Program} {w : World} {mg : Str → Option Value} {base : Heap} {k : Nat} {F : Fn}
theorem knM_of {m : Str} (h : methB K (He.ga K c) m = true) (fp : FnP P w mg base ⟨K, adOf K cs, tb⟩ k (He.ma K (He.ga K c) m) F) : KnM P w mg base ⟨K, adOf K cs, tb⟩ c m k F := ⟨fun A e => by
  rw [adOf_at (show adOf K cs c = some A from e)]
  obtain ⟨h1, h⟩ := Bool.and_eq_true_iff.mp h
  obtain ⟨h2, h3⟩ := Bool.and_eq_true_iff.mp h
  exact ⟨_, fp, eqb_ok h1, h2, h3⟩⟩
theorem knT_of (hc : cs.contains c = true) (hg : mg c = some (.ref (He.ga K c))) (h : mkB K (He.ga K c) = true) (fp : FnP P w mg base ⟨K, adOf K cs, tb⟩ k (He.ma K (He.ga K c) "__init__") F) : KnT P w mg base ⟨K, adOf K cs, tb⟩ c k F :=
  ⟨_, _, adOf_mem hc, hg, mkB_ok h, fp⟩
theorem prK_of {f : Str} (h0 : clsB K (He.ga K c) = true) (h : propB K (He.ga K c) f = true) (fp : FnP P w mg base ⟨K, adOf K cs, tb⟩ k (He5.wf K (He.ga K c) "property" f) F) : PrK ⟨K, adOf K cs, tb⟩ c f P w mg base k F := ⟨fun A e => by
  rw [adOf_at (show adOf K cs c = some A from e)]
  exact ⟨clsB_ok h0, _, _, propB_ok h, fp⟩⟩
theorem fldC_of {f : Str} (h0 : clsB K (He.ga K c) = true) (h : noB K (He.ga K c) f = true) : FldC ⟨K, adOf K cs, tb⟩ c f := ⟨fun A e => by
  rw [adOf_at (show adOf K cs c = some A from e)]
  exact ⟨clsB_ok h0, noB_ok h⟩⟩
theorem noS_of (h : noSeq K (He.ga K c) = true) : NoS ⟨K, adOf K cs, tb⟩ c := ⟨fun A e => by
  rw [adOf_at (show adOf K cs c = some A from e)]
  exact h⟩
theorem binK_of {op : Operator} {n : String} (h : binB K (He.ga K c) op n = true) : BinK ⟨K, adOf K cs, tb⟩ c op n := ⟨fun A e => by
  rw [adOf_at (show adOf K cs c = some A from e)]
  obtain ⟨h1, h⟩ := Bool.and_eq_true_iff.mp h
  obtain ⟨h2, h⟩ := Bool.and_eq_true_iff.mp h
  obtain ⟨h3, h⟩ := Bool.and_eq_true_iff.mp h
  obtain ⟨h4, h5⟩ := Bool.and_eq_true_iff.mp h
  refine ⟨h1, ?_, ?_, of_decide_eq_true h5⟩
  · unfold dropB at h2
    split at h2
    · rename_i e; exact ⟨none, e, .inl rfl⟩
    · rename_i q e; exact ⟨_, e, .inr ⟨q, rfl⟩⟩
    · cases h2
  · obtain ⟨lo, e1⟩ := Option.isSome_iff_exists.mp h3
    obtain ⟨ro, e2⟩ := Option.isSome_iff_exists.mp h4
    exact ⟨lo, ro, e1, e2⟩⟩
end
end Ma
/-! Ma57: data that can be shown and compared, with sizes. -/
namespace Ma
open L2 PySem.W PySem.Spec PySem PyProof.Rows
/-- plain signs alone -/
def lowS (x : Str) : Prop := ∀ c ∈ x.cps.toList, c < 128
theorem cps_append (a b : Str) : (a ++ b).cps.toList = a.cps.toList ++ b.cps.toList := by
  show (a.cps ++ b.cps).toList = _
  simp
theorem lowS_append {a b : Str} (ha : lowS a) (hb : lowS b) : lowS (a ++ b) := fun c h => by
  rw [cps_append, List.mem_append] at h
  exact h.elim (ha c) (hb c)
theorem lowS_int (i : Int) : lowS (Str.ofString (toString i)) := fun c h => by
  have e := signs_ofString (toString i)
  rw [e] at h
  obtain ⟨ch, hm, rfl⟩ := List.mem_map.mp h
  rcases int_sign i ch hm with h1 | rfl
  · have := digit_range h1; omega
  · decide
def lowB (x : Str) : Bool := x.cps.toList.all fun c => decide (c < 128)
theorem lowS_of {x : Str} (h : lowB x = true) : lowS x := fun c hc => of_decide_eq_true (List.all_eq_true.mp h c hc)
theorem lowS_empty : lowS Str.empty := fun c h => by
  have e : (Str.empty).cps.toList = [] := rfl
  rw [e] at h; cases h
theorem lowS_join {sep : Str} (hs : lowS sep) : ∀ {ts : List Str}, (∀ t ∈ ts, lowS t) → lowS (Str.join sep ts)
  | [], _ => by rw [join_nil]; exact lowS_empty
  | [x], h => by rw [join_one]; exact h x (by simp)
  | x :: y :: r, h => by
    rw [join_cons_cons]
    exact lowS_append (lowS_append (h x (by simp)) hs) (lowS_join hs fun t ht => h t (by simp [ht]))
theorem lowS_from : ∀ {ts : List Str} {k : Nat} {acc : Str}, lowS acc → (∀ t ∈ ts, lowS t) → lowS (textFrom k acc ts)
  | [], k, acc, ha, _ => ha
  | t :: ts, k, acc, ha, h => by
    refine lowS_from (k := k + 1) (lowS_append (lowS_append ha ?_) (h t (by simp))) fun u hu => h u (by simp [hu])
    split
    · exact lowS_of (by decide +kernel)
    · exact lowS_of (by decide +kernel)
theorem lowS_list {ts : List Str} (h : ∀ t ∈ ts, lowS t) : lowS (listText ts) := lowS_append (lowS_from (lowS_of (by decide +kernel)) h) (lowS_of (by decide +kernel))
theorem lowS_tuple {ts : List Str} (h : ∀ t ∈ ts, lowS t) : lowS (tupleText ts) := by
  unfold tupleText
  refine lowS_append (lowS_append (lowS_of (by decide +kernel)) (lowS_join (lowS_of (by decide +kernel)) h)) ?_
  split
  · exact lowS_of (by decide +kernel)
  · exact lowS_of (by decide +kernel)
theorem reprChar_low : ∀ c : Fin 128, (∀ x ∈ Builtin.Str.reprChar 34 c.val, x < 128) ∧ ∀ x ∈ Builtin.Str.reprChar 39 c.val, x < 128 := by decide +kernel
theorem lowS_repr {x : Str} (h : lowS x) : lowS (reprText x) := by
  have q : reprQuote x = 34 ∨ reprQuote x = 39 := by unfold reprQuote; split <;> simp
  have go : ∀ (l : List Nat) (acc : Array Nat), (∀ c ∈ acc.toList, c < 128) → (∀ c ∈ l, c < 128) → ∀ c ∈ (l.foldl (fun out c => out ++ (Builtin.Str.reprChar (reprQuote x) c).toArray) acc).toList, c < 128 := by
    intro l
    induction l with
    | nil => intro acc ha _; exact ha
    | cons p l ih =>
      intro acc ha hl
      refine ih _ (fun c hc => ?_) fun t ht => hl t (by simp [ht])
      rw [Array.toList_append, List.mem_append] at hc
      rcases hc with hc | hc
      · exact ha c hc
      · have hp := hl p (by simp)
        have e := reprChar_low ⟨p, hp⟩
        have hc : c ∈ Builtin.Str.reprChar (reprQuote x) p := by simpa using hc
        rcases q with q | q
        · rw [q] at hc; exact e.1 c hc
        · rw [q] at hc; exact e.2 c hc
  intro c hc
  unfold reprText at hc
  have hc : c ∈ ((x.cps.foldl (fun out c => out ++ (Builtin.Str.reprChar (reprQuote x) c).toArray) #[reprQuote x]).push (reprQuote x)).toList := hc
  have ql : reprQuote x < 128 := by rcases q with q | q <;> rw [q] <;> decide
  rw [Array.toList_push, List.mem_append, ← Array.foldl_toList] at hc
  rcases hc with hc | hc
  · exact go x.cps.toList _ (fun c hc => by simp at hc; rw [hc]; exact ql) h c hc
  · simp at hc; rw [hc]; exact ql
/-- data of depth at most k and weight at most w, all of it plain -/
structure Okd (d : PyData) (k w : Nat) : Prop where
  sh : d.showable = true
  nd : d.hasDict = false
  dep : d.depth ≤ k
  lay : d.canLay0 = true
  leaf : d.leavesShort 64 = true
  wt : d.weight ≤ w
  low : lowS d.shown
theorem Okd.le {d : PyData} {k w k' w' : Nat} (h : Okd d k w) (hk : k ≤ k') (hw : w ≤ w') : Okd d k' w' := ⟨h.sh, h.nd, Nat.le_trans h.dep hk, h.lay, h.leaf, Nat.le_trans h.wt hw, h.low⟩
theorem log2_small {i : Int} (h : i.natAbs < 10 ^ 40) : i.natAbs.log2 < 1920 := by
  by_cases h0 : i.natAbs = 0
  · rw [h0]; decide
  · have h2 : i.natAbs < 2 ^ 1920 := Nat.lt_of_lt_of_le h (by decide +kernel)
    exact (Nat.log2_lt h0).mpr h2
theorem Okd.int {i : Int} (h : i.natAbs < 10 ^ 40) : Okd (.int i) 0 140 := by
  refine ⟨decide_eq_true (log2_small h), rfl, Nat.le_refl _, rfl, decide_eq_true ?_, ?_, lowS_int i⟩
  rotate_left
  · simp only [PyData.weight]
    split
    · omega
    · rename_i h0
      have h2 : i.natAbs < 2 ^ 139 := Nat.lt_of_lt_of_le h (by decide +kernel)
      have h3 := (Nat.log2_lt (n := i.natAbs) (k := 139) (by simpa using h0)).mpr h2
      omega
  have e := int_text_length_le10 (a := i) (k := 40) (by decide) h
  show (Str.ofString (toString i)).length ≤ 64
  rw [PySem.ofString_length]; omega
theorem Okd.bl (b : Bool) : Okd (.bool b) 0 0 := ⟨rfl, rfl, Nat.le_refl _, rfl, rfl, Nat.le_refl _, by cases b <;> exact lowS_of (by decide +kernel)⟩
theorem Okd.non : Okd .none 0 0 := ⟨rfl, rfl, Nat.le_refl _, rfl, rfl, Nat.le_refl _, lowS_of (by decide +kernel)⟩
theorem strOk_low {x : Str} (h : lowS x) : PyData.strOk x = true := by
  unfold PyData.strOk
  rw [← Array.all_toList]
  exact List.all_eq_true.mpr fun c hc => decide_eq_true (by have := h c hc; omega)
theorem Okd.str {x : Str} (h : lowS x) : Okd (.str x) 0 x.length :=
  ⟨rfl, rfl, Nat.le_refl _, strOk_low h, List.all_eq_true.mpr fun c hc => decide_eq_true (by have := h c hc; omega), Nat.le_refl _, lowS_repr h⟩
structure Oks (ds : List PyData) (k w : Nat) : Prop where
  sh : PyData.showableAll ds = true
  nd : PyData.hasDictAll ds = false
  dep : PyData.depthAll ds ≤ k
  lay : PyData.canLayAll0 ds = true
  leaf : PyData.leavesShortAll 64 ds = true
  wt : PyData.weightAll ds ≤ w
  low : ∀ t ∈ PyData.shownAll ds, lowS t
theorem Oks.nil {k w : Nat} : Oks [] k w := ⟨rfl, rfl, Nat.zero_le _, rfl, rfl, Nat.zero_le _, fun t h => by simp [PyData.shownAll] at h⟩
theorem Oks.cons {d : PyData} {ds : List PyData} {k w v : Nat} (h : Okd d k w) (r : Oks ds k v) : Oks (d :: ds) k (w + 1 + v) := by
  refine ⟨?_, ?_, ?_, ?_, ?_, ?_, ?_⟩
  · simp [PyData.showableAll, h.sh, r.sh]
  · simp [PyData.hasDictAll, h.nd, r.nd]
  · have h1 := h.dep; have h2 := r.dep
    simp only [PyData.depthAll]
    omega
  · simp [PyData.canLayAll0, h.lay, r.lay]
  · simp [PyData.leavesShortAll, h.leaf, r.leaf]
  · have h1 := h.wt; have h2 := r.wt
    simp only [PyData.weightAll]
    omega
  · intro t ht
    simp only [PyData.shownAll, List.mem_cons] at ht
    rcases ht with rfl | ht
    · exact h.low
    · exact r.low t ht
theorem Oks.le {ds : List PyData} {k w k' w' : Nat} (h : Oks ds k w) (hk : k ≤ k') (hw : w ≤ w') : Oks ds k' w' := ⟨h.sh, h.nd, Nat.le_trans h.dep hk, h.lay, h.leaf, Nat.le_trans h.wt hw, h.low⟩
theorem Oks.all {k w : Nat} : ∀ {ds : List PyData}, (∀ d ∈ ds, Okd d k w) → Oks ds k (ds.length * (w + 1))
  | [], _ => Oks.nil
  | d :: ds, h => by
    have e : (d :: ds).length * (w + 1) = w + 1 + ds.length * (w + 1) := by rw [List.length_cons, Nat.succ_mul]; omega
    rw [e]
    exact Oks.cons (h d (by simp)) (Oks.all fun x hx => h x (by simp [hx]))
theorem Okd.list {ds : List PyData} {k w : Nat} (h : Oks ds k w) : Okd (.list ds) (k + 1) w := ⟨h.sh, h.nd, Nat.succ_le_succ h.dep, h.lay, h.leaf, h.wt, lowS_list h.low⟩
theorem Okd.tuple {ds : List PyData} {k w : Nat} (h : Oks ds k w) : Okd (.tuple ds) (k + 1) w := ⟨h.sh, h.nd, Nat.succ_le_succ h.dep, h.lay, h.leaf, h.wt, lowS_tuple h.low⟩
theorem Okd.len {d : PyData} {k w : Nat} (h : Okd d k w) : d.shown.length ≤ 66 * w + 64 := by
  have e := PyData.shown_le 64 (by decide) d h.leaf
  have := h.wt
  have e2 : 66 * d.weight ≤ 66 * w := Nat.mul_le_mul_left _ this
  omega
theorem cRepr_seq {m : M} {s : MS} {d : PyData} {k w : Nat} (hd : datT s.hp m = some d) (hs : isSeqD d = true) (h : Okd d k w) (hk : k ≤ 64) (hw : w ≤ 200000) : cRepr [m] s = .ok (.str d.shown) s := by
  have e : (isSeqD d && d.showable && !d.hasDict && decide (d.depth ≤ 64) && decide (d.shown.length ≤ sizeLine)) = true := by
    have l := h.len
    have h1 : d.depth ≤ 64 := Nat.le_trans h.dep hk
    have h2 : d.shown.length ≤ sizeLine := by rw [sizeLine_eq]; omega
    rw [hs, h.sh, h.nd, decide_eq_true h1, decide_eq_true h2]; rfl
  cases m with
  | int i =>
    have hd : some (PyData.int i) = some d := hd
    cases hd
    cases hs
  | _ =>
    unfold cRepr
    dsimp only
    rw [hd]
    dsimp only
    rw [if_pos e]
theorem oEqD_str {x y : Str} {neg : Bool} {s : MS} (hx : lowS x) (hy : lowS y) : oEqD neg (.str x) (.str y) s = .ok (.bl (if neg then !(x == y) else (x == y))) s := by
  have e : ∀ z : Str, lowS z → SeqAt.shaped (.str z) = true := fun z hz => by
    unfold SeqAt.shaped
    rw [show PyData.canLay0 (.str z) = true from strOk_low hz]; rfl
  unfold oEqD
  simp only [datT, dat]
  rw [e x hx, e y hy]
  simp [PyData.eqv]
end Ma
/-! Ma58: pairs of ints as rows, as dicts, sorted. -/
namespace Ma
open L2 PySem.W PySem.Spec PySem PyProof.Rows
/-- a dict of ints -/
abbrev dm (ps : List IP) : List (Key × M) := ps.map fun p => (.inl p.1, .int p.2)
abbrev rm (ps : List IP) : List M := ps.map pM
def dP (p : IP) : PyData := .tuple [.int p.1, .int p.2]
abbrev keysP (ps : List IP) : List Int := ps.map (·.1)
def getP (ps : List IP) (k : Int) : Option Int := (ps.find? fun p => p.1 == k).map (·.2)
def updP (ps : List IP) (k v : Int) : List IP := ps.map fun p => if p.1 = k then (p.1, v) else p
theorem datL_rm : ∀ ps : List IP, datL (rm ps) = some (ps.map dP)
  | [] => rfl
  | p :: ps => by
    have e : dat (pM p) = some (dP p) := rfl
    show (match dat (pM p), datL (rm ps) with | some d, some ds => some (d :: ds) | _, _ => none) = _
    rw [e, datL_rm ps]; rfl
theorem pairsOf_rm : ∀ ps : List IP, pairsOf (rm ps) = some ps
  | [] => rfl
  | p :: ps => by
    show (match pairOf (pM p), pairsOf (rm ps) with | some p, some ps => some (p :: ps) | _, _ => none) = _
    rw [pairsOf_rm ps]; rfl
theorem pairsM_rm : ∀ ps : List IP, pairsM (rm ps) = some (dm ps)
  | [] => rfl
  | p :: ps => by
    show (match pairM (pM p), pairsM (rm ps) with | some p, some ps => some (p :: ps) | _, _ => none) = _
    rw [pairsM_rm ps]; rfl
theorem valG_dm (k : Int) : ∀ ps : List IP, valG (dm ps) (.inl k) = (getP ps k).map M.int
  | [] => rfl
  | p :: ps => by
    have ih := valG_dm k ps
    by_cases h : p.1 = k
    · simp [valG, getP, dm, List.find?_cons, h]
    · have e1 : valG (dm (p :: ps)) (.inl k) = valG (dm ps) (.inl k) := by simp [valG, dm, List.find?_cons, h]
      have e2 : getP (p :: ps) k = getP ps k := by simp [getP, List.find?_cons, h]
      rw [e1, e2, ih]
theorem getP_mem {k v : Int} : ∀ {ps : List IP}, getP ps k = some v → (k, v) ∈ ps
  | [], h => by simp [getP] at h
  | p :: ps, h => by
    by_cases hk : p.1 = k
    · simp [getP, List.find?_cons, hk] at h
      subst hk h; simp
    · have e : getP (p :: ps) k = getP ps k := by simp [getP, List.find?_cons, hk]
      rw [e] at h
      exact List.mem_cons_of_mem _ (getP_mem h)
theorem getP_of {k v : Int} : ∀ {ps : List IP}, (keysP ps).Nodup → (k, v) ∈ ps → getP ps k = some v
  | [], _, h => by simp at h
  | p :: ps, hn, h => by
    rw [keysP, List.map_cons, List.nodup_cons] at hn
    rcases List.mem_cons.mp h with rfl | h
    · simp [getP, List.find?_cons]
    · have hk : p.1 ≠ k := fun e => hn.1 (e ▸ List.mem_map.mpr ⟨(k, v), h, rfl⟩)
      have e : getP (p :: ps) k = getP ps k := by simp [getP, List.find?_cons, hk]
      rw [e]
      exact getP_of hn.2 h
theorem getP_none {k : Int} {ps : List IP} : getP ps k = none ↔ k ∉ keysP ps := by
  constructor
  · intro h hm
    obtain ⟨p, hp, rfl⟩ := List.mem_map.mp hm
    simp only [getP, Option.map_eq_none_iff, List.find?_eq_none] at h
    exact h p hp (by simp)
  · intro h
    cases e : getP ps k with
    | none => rfl
    | some v => exact absurd (List.mem_map.mpr ⟨(k, v), getP_mem e, rfl⟩) h
theorem getP_perm {ps qs : List IP} (h : ps.Perm qs) (hn : (keysP ps).Nodup) (k : Int) : getP ps k = getP qs k := by
  have hq : (keysP qs).Nodup := (h.map _).nodup_iff.mp hn
  cases e : getP qs k with
  | some v => exact getP_of hn (h.mem_iff.mpr (getP_mem e))
  | none =>
    rw [getP_none] at e ⊢
    exact fun hm => e ((h.map _).mem_iff.mp hm)
theorem keys_upd (ps : List IP) (k v : Int) : keysP (updP ps k v) = keysP ps := by
  unfold keysP updP
  rw [List.map_map]
  refine List.map_congr_left fun p _ => ?_
  show (if p.1 = k then (p.1, v) else p).1 = p.1
  split <;> rfl
theorem any_dm (k : Int) (ps : List IP) : ((dm ps).any fun kv => decide (kv.1 = (.inl k : Key))) = decide (k ∈ keysP ps) := by
  rw [Bool.eq_iff_iff, List.any_eq_true, decide_eq_true_iff, List.mem_map]
  constructor
  · rintro ⟨kv, hm, e⟩
    obtain ⟨p, hp, rfl⟩ := List.mem_map.mp hm
    exact ⟨p, hp, Sum.inl.inj (of_decide_eq_true e)⟩
  · rintro ⟨p, hp, rfl⟩
    exact ⟨_, List.mem_map.mpr ⟨p, hp, rfl⟩, decide_eq_true rfl⟩
theorem putG_upd {ps : List IP} {k v : Int} (h : k ∈ keysP ps) : putG (dm ps) (.inl k) (.int v) = dm (updP ps k v) := by
  unfold putG
  rw [any_dm, if_pos (decide_eq_true h)]
  unfold dm updP
  rw [List.map_map, List.map_map]
  refine List.map_congr_left fun p _ => ?_
  show (if (.inl p.1 : Key) = .inl k then ((.inl p.1 : Key), M.int v) else (.inl p.1, .int p.2)) = ((.inl (if p.1 = k then (p.1, v) else p).1 : Key), M.int (if p.1 = k then (p.1, v) else p).2)
  by_cases e : p.1 = k
  · rw [if_pos (by rw [e]), if_pos e]
  · rw [if_neg (fun z => e (Sum.inl.inj z)), if_neg e]
theorem putG_new {ps : List IP} {k v : Int} (h : k ∉ keysP ps) : putG (dm ps) (.inl k) (.int v) = dm (ps ++ [(k, v)]) := by
  unfold putG
  rw [any_dm, if_neg (by simpa using h)]
  simp [dm]
theorem mergeM_dm : ∀ {qs ps : List IP}, (keysP (ps ++ qs)).Nodup → mergeM (dm ps) (dm qs) = dm (ps ++ qs)
  | [], ps, _ => by simp [mergeM]
  | q :: qs, ps, h => by
    have hq : q.1 ∉ keysP ps := by
      intro hm
      rw [keysP, List.map_append, List.nodup_append] at h
      exact h.2.2 q.1 hm q.1 (by simp) rfl
    show mergeM (putG (dm ps) (.inl q.1) (.int q.2)) (dm qs) = _
    rw [putG_new hq]
    have e : ps ++ q :: qs = (ps ++ [(q.1, q.2)]) ++ qs := by simp
    rw [e] at h ⊢
    exact mergeM_dm h
/-! ### sorted -/
def Srt (ps : List IP) : Prop := ps.Pairwise fun p q => p.1 < q.1
theorem Srt.nodup {ps : List IP} (h : Srt ps) : (keysP ps).Nodup := by
  unfold keysP List.Nodup
  rw [List.pairwise_map]
  exact h.imp fun {a b} q => by omega
theorem Srt.one : ∀ {ps qs : List IP}, Srt ps → Srt qs → ps.Perm qs → ps = qs
  | [], qs, _, _, h => (List.nil_perm.mp h).symm
  | p :: ps, [], _, _, h => (List.cons_ne_nil _ _ (List.perm_nil.mp h)).elim
  | p :: ps, q :: qs, h1, h2, h => by
    obtain ⟨a1, b1⟩ := List.pairwise_cons.mp h1
    obtain ⟨a2, b2⟩ := List.pairwise_cons.mp h2
    have e : p = q := by
      have m1 : p ∈ q :: qs := h.mem_iff.mp (by simp)
      have m2 : q ∈ p :: ps := h.mem_iff.mpr (by simp)
      rcases List.mem_cons.mp m1 with e | m1
      · exact e
      · rcases List.mem_cons.mp m2 with e | m2
        · exact e.symm
        · have := a1 q m2; have := a2 p m1; omega
    subst e
    rw [Srt.one b1 b2 ((List.perm_cons p).mp h)]
theorem Srt.upd {ps : List IP} (h : Srt ps) (k v : Int) : Srt (updP ps k v) := by
  unfold Srt updP
  rw [List.pairwise_map]
  refine h.imp fun {a b} q => ?_
  have e1 : (if a.1 = k then (a.1, v) else a).1 = a.1 := by split <;> rfl
  have e2 : (if b.1 = k then (b.1, v) else b).1 = b.1 := by split <;> rfl
  rw [e1, e2]; exact q
theorem srtP_pw : ∀ l : List IP, (srtP l).Pairwise leP
  | [] => List.Pairwise.nil
  | p :: r => insP_sorted (srtP_pw r)
theorem srtP_srt {ps : List IP} (hn : (keysP ps).Nodup) : Srt (srtP ps) := by
  have h1 := srtP_pw ps
  have h2 : (keysP (srtP ps)).Nodup := ((srtP_perm ps).map _).nodup_iff.mpr hn
  unfold keysP List.Nodup at h2
  rw [List.pairwise_map] at h2
  exact (h1.and h2).imp fun {a b} ⟨x, y⟩ => by
    rcases leP_iff.mp x with z | z
    · exact z
    · exact absurd z.1 y
theorem srtP_of {ps qs : List IP} (h : Srt qs) (hp : qs.Perm ps) : srtP ps = qs :=
  Srt.one (srtP_srt ((hp.map _).nodup_iff.mp h.nodup)) h ((srtP_perm ps).trans hp.symm)
end Ma
/-! Ma59: the machine's loops by invariants. -/
namespace Ma
open L2 PySem.W PySem.Spec PySem PyProof.Rows
theorem seq_nx {a b : MStm} {s s1 : MS} (h : a s = .ok .nx s1) : sSeq a b s = b s1 := by unfold sSeq; rw [h]; rfl
theorem seq_of {a b : MStm} {s s1 : MS} {r : Res Fl} (h : a s = .ok .nx s1) (h2 : b s1 = r) : sSeq a b s = r := (seq_nx h).trans h2
theorem set_of {i : Nat} {e : ME} {s s1 : MS} {m : M} (h : e s = .ok m s1) : sSet i e s = .ok .nx ⟨s1.env.set i (some m), s1.hp⟩ := by unfold sSet; rw [h]; rfl
theorem fn_of {ma : MA} {F : Fn} {s s1 : MS} {ms : List M} {m : M} {hp : List Cell} (h : ma s = .ok ms s1) (hf : F ms s1.hp = .ok m hp) : mFn ma F s = .ok m ⟨s1.env, hp⟩ := by unfold mFn; rw [h]; show upF _ _ = _; rw [hf]; rfl
theorem mcons_of {a : ME} {b : MA} {s s1 s2 : MS} {x : M} {xs : List M} (h : a s = .ok x s1) (h2 : b s1 = .ok xs s2) : mCons a b s = .ok (x :: xs) s2 := by unfold mCons; rw [h]; show (b s1).bind _ = _; rw [h2]; rfl
theorem if_of {t : MT} {a b : MStm} {s s1 : MS} {k : Bool} (h : t s = .ok k s1) : sIf t a b s = if k = true then a s1 else b s1 := by unfold sIf; rw [h]; rfl
theorem lc_map {vs : List Nat} {tg : MG} {tt : MT} {el : ME} {f : M → M} : ∀ {xs acc : List M} {s : MS}, acc.length + xs.length ≤ big →
    (∀ x ∈ xs, ∃ s1 s2 e3, tg x ⟨wipeM s.env vs, s.hp⟩ = .ok () s1 ∧ tt s1 = .ok true s2 ∧ el s2 = .ok (f x) ⟨e3, s.hp⟩) → lcLoop vs tg tt el xs acc s = .ok (acc ++ xs.map f) s
  | [], acc, s, _, _ => by rw [lcLoop, List.map_nil, List.append_nil]
  | x :: xs, acc, s, hl, h => by
    obtain ⟨s1, s2, e3, h1, h2, h3⟩ := h x (by simp)
    rw [List.length_cons] at hl
    have hb : acc.length < big := by omega
    rw [lcLoop, h1]
    dsimp only
    rw [h2]
    dsimp only
    rw [h3]
    dsimp only
    rw [if_pos hb]
    refine (lc_map (f := f) (by simp only [List.length_append, List.length_cons, List.length_nil]; omega) fun y hy => h y (by simp [hy])).trans ?_
    rw [List.map_cons, List.append_assoc]; rfl
theorem mlc_of {vs : List Nat} {it : MI} {tg : MG} {tt : MT} {el : ME} {f : M → M} {xs : List M} {s s1 : MS} (hi : it s = .ok xs s1) (hl : xs.length ≤ big)
    (h : ∀ x ∈ xs, ∃ s2 s3 e3, tg x ⟨wipeM s1.env vs, s1.hp⟩ = .ok () s2 ∧ tt s2 = .ok true s3 ∧ el s3 = .ok (f x) ⟨e3, s1.hp⟩) : mLc vs it tg tt el s = .ok (.lst (xs.map f)) s1 := by
  unfold mLc
  rw [hi]
  show Res.bind (lcLoop vs tg tt el xs [] s1) _ = _
  rw [lc_map (f := f) (by simpa using hl) h]
  rfl
theorem dc_rows {vs : List Nat} {tg : MG} {tt : MT} {kx el : ME} : ∀ {ps acc : List IP} {s : MS}, acc.length + ps.length ≤ big → (keysP (acc ++ ps)).Nodup →
    (∀ p ∈ ps, ∃ s1 s2 e3 e4, tg (pM p) ⟨wipeM s.env vs, s.hp⟩ = .ok () s1 ∧ tt s1 = .ok true s2 ∧ kx s2 = .ok (.int p.1) ⟨e3, s.hp⟩ ∧ el ⟨e3, s.hp⟩ = .ok (.int p.2) ⟨e4, s.hp⟩) →
    dcLoop vs tg tt kx el (rm ps) (dm acc) s = .ok (dm (acc ++ ps)) s
  | [], acc, s, _, _, _ => by show dcLoop vs tg tt kx el [] _ s = _; rw [dcLoop, List.append_nil]
  | p :: ps, acc, s, hl, hn, h => by
    obtain ⟨s1, s2, e3, e4, h1, h2, h3, h4⟩ := h p (by simp)
    rw [List.length_cons] at hl
    have hb : (dm acc).length < big := by rw [List.length_map]; omega
    show dcLoop vs tg tt kx el (pM p :: rm ps) (dm acc) s = _
    rw [dcLoop, h1]
    dsimp only
    rw [h2]
    dsimp only
    rw [h3]
    show (match el ⟨e3, s.hp⟩ with | .ok z s4 => if (dm acc).length < big then dcLoop vs tg tt kx el (rm ps) (putG (dm acc) (.inl p.1) z) ⟨s.env, s4.hp⟩ else .stuck | _ => .stuck) = _
    rw [h4]
    dsimp only
    rw [if_pos hb]
    have hq : p.1 ∉ keysP acc := by
      intro hm
      rw [keysP, List.map_append, List.nodup_append] at hn
      exact hn.2.2 p.1 hm p.1 (by simp) rfl
    rw [putG_new hq]
    have e : acc ++ p :: ps = (acc ++ [(p.1, p.2)]) ++ ps := by simp
    rw [e] at hn ⊢
    exact dc_rows (by simp only [List.length_append, List.length_cons, List.length_nil]; omega) hn fun y hy => h y (by simp [hy])
theorem wh_inv {t : MT} {b : MStm} (I : Nat → MS → Prop) (step : ∀ k s, I (k + 1) s → ∃ s1 s2, t s = .ok true s1 ∧ b s1 = .ok .nx s2 ∧ I k s2) (stop : ∀ s, I 0 s → t s = .ok false s) :
    ∀ {n fuel : Nat} {s : MS}, I n s → n < fuel → ∃ s', sWh t b fuel s = .ok .nx s' ∧ I 0 s'
  | _, 0, _, _, h => absurd h (Nat.not_lt_zero _)
  | 0, fuel + 1, s, h, _ => ⟨s, by rw [sWh]; dsimp only; rw [stop s h]; rfl, h⟩
  | n + 1, fuel + 1, s, h, hl => by
    obtain ⟨s1, s2, h1, h2, h3⟩ := step n s h
    obtain ⟨s', e, h4⟩ := wh_inv I step stop (fuel := fuel) h3 (by omega)
    refine ⟨s', ?_, h4⟩
    rw [sWh]; dsimp only; rw [h1]; show (b s1).bind _ = _; rw [h2]; exact e
theorem blsOf_map {α : Type} (f : α → Bool) : ∀ xs : List α, blsOf (xs.map fun x => M.bl (f x)) = some (xs.map f)
  | [] => rfl
  | x :: xs => by
    show (blsOf (xs.map fun x => M.bl (f x))).map (f x :: ·) = _
    rw [blsOf_map f xs]; rfl
theorem body_nx {n len : Nat} {b : MStm} {args : List M} {hp : List Cell} {s' : MS} (h : b ⟨args.map some ++ List.replicate (len - n) none, hp⟩ = .ok .nx s') : bodyF n len b args hp = .ok .non s'.hp := by unfold bodyF; rw [h]
theorem body_rt {n len : Nat} {b : MStm} {args : List M} {hp : List Cell} {s' : MS} {m : M} (h : b ⟨args.map some ++ List.replicate (len - n) none, hp⟩ = .ok (.rt m) s') : bodyF n len b args hp = .ok m s'.hp := by unfold bodyF; rw [h]
theorem ret_of {e : ME} {s s1 : MS} {m : M} (h : e s = .ok m s1) : sRet e s = .ok (.rt m) s1 := by unfold sRet; rw [h]; rfl
theorem call_of {ma : MA} {o : List M → MS → Res M} {s s1 : MS} {ms : List M} {r : Res M} (h : ma s = .ok ms s1) (ho : o ms s1 = r) : mCall ma o s = r := by unfold mCall; rw [h]; exact ho
theorem m2_of {o : M → M → MS → Res M} {a b : ME} {s s1 s2 : MS} {x y : M} {r : Res M} (h : a s = .ok x s1) (h2 : b s1 = .ok y s2) (ho : o x y s2 = r) : m2 o a b s = r := by unfold m2; rw [h]; show (b s1).bind _ = _; rw [h2]; exact ho
theorem b_of {a : ME} {s s1 : MS} {b : Bool} (h : a s = .ok (.bl b) s1) : mB a s = .ok b s1 := by unfold mB; rw [h]; rfl
theorem not_of {t : MT} {s s1 : MS} {b : Bool} (h : t s = .ok b s1) : mNot t s = .ok (!b) s1 := by unfold mNot; rw [h]; rfl
theorem mone {a : ME} {s s1 : MS} {x : M} (h : a s = .ok x s1) : mCons a mNil s = .ok [x] s1 := mcons_of h rfl
theorem for_of {it : MI} {tg : MG} {b : MStm} {s s1 : MS} {xs : List M} {r : Res Fl} (h : it s = .ok xs s1) (h2 : sFor tg b xs s1 = r) : sForI it tg b s = r := by unfold sForI; rw [h]; exact h2
theorem andv_t {a b : ME} {s s1 : MS} (h : a s = .ok (.bl true) s1) : mAndV a b s = b s1 := by unfold mAndV; rw [h]; rfl
theorem andv_f {a b : ME} {s s1 : MS} (h : a s = .ok (.bl false) s1) : mAndV a b s = .ok (.bl false) s1 := by unfold mAndV; rw [h]; rfl
theorem at_of {a : ME} {o : M → MS → Res M} {s s1 : MS} {x : M} (h : a s = .ok x s1) : mAt a o s = o x s1 := by unfold mAt; rw [h]; rfl
theorem or_f {t u : MT} {s s1 : MS} (h : t s = .ok false s1) : mOr t u s = u s1 := by unfold mOr; rw [h]; rfl
theorem and_t {t u : MT} {s s1 : MS} (h : t s = .ok true s1) : mAnd t u s = u s1 := by unfold mAnd; rw [h]; rfl
theorem and_f {t u : MT} {s s1 : MS} (h : t s = .ok false s1) : mAnd t u s = .ok false s1 := by unfold mAnd; rw [h]; rfl
theorem mv_of {i : Nat} {s : MS} {m : M} (h : s.env[i]? = some (some m)) : mv i s = .ok m s := by unfold mv; rw [h]
theorem par2_of {i j : Nat} {ma : MA} {s s1 : MS} {u v : M} (h : ma s = .ok [u, v] s1) : sPar2 i j ma s = .ok .nx ⟨(s1.env.set i (some u)).set j (some v), s1.hp⟩ := by unfold sPar2; rw [h]; rfl
theorem par3_of {i j l : Nat} {ma : MA} {s s1 : MS} {u v w : M} (h : ma s = .ok [u, v, w] s1) : sPar3 i j l ma s = .ok .nx ⟨((s1.env.set i (some u)).set j (some v)).set l (some w), s1.hp⟩ := by unfold sPar3; rw [h]; rfl
end Ma
/-! Ma60: raise X(..). -/
namespace Ma
open L2 PySem.W PySem.Spec PySem PyProof.Rows
section
variable {C : MC} {g g1 : Gh} {H H1 : Hp} {s : MS} {σ : L2.St} {ex : Expr} {es : List Expr} {ma : MA} {pos p pos' : Pos} {x n : Str} {A : Addr} {fs : List Str} {pt : List Pt}
/-- its instances may be raised -/
structure RaiK (K : Frag) (A : Addr) : Prop where
  sub : subIn K (.ref A) (.type "BaseException") = some true
  ty : typeIn K (.ref A) = some (.type "type")
theorem RaiK.raises {X : Cx} (k : RaiK X.K A) : Raises X (.ref A) := raises_own k.sub k.ty
/-- raise X(e, ..), X without an `__init__` -/
def sRai (n : Str) (ma : MA) : MStm := fun s => (ma s).bind fun ms s1 => if ms.length ≤ big then .err ⟨n, [], []⟩ s1 else .stuck
theorem pmk_exc (E : ExK C.T.K A) (R : RaiK C.T.K A) (hm : C.X.mg x = some (.ref A)) (ha : PMa C (ex :: es) ma)
    (hg : Gl C.X x := by rfl) (hdb : (x == ("__debug__" : Str)) = false := by decide) (he : starEach (ex :: es) C.X.env = (false, eval ex C.X.env) :: starEach es C.X.env := by rfl) (hpl : (backTo pos (starEach es C.X.env)).any (·.1) = false := by rfl) :
    PMk C.X (.Call (.Name x p) (ex :: es) [] pos) (fun σ H Q => rdA C ma σ H fun vs H1 => vs.length ≤ big ∧ Q (.ref A) none H1) := by
  intro pins sh σ H Q I h
  refine wpAny_Call_Name_kw (ld_glob I hg hm ?_ hdb)
  refine callWith_K (h₀ := C.X.base) I.ok.mod.kin (C.hK ▸ E.kp) (thn (ha.run pos pins sh σ H _ I h) fun us s1 hh => ?_) he hpl
  obtain ⟨vs, H1, I1, rv, hl, q⟩ := hh
  refine ⟨I1.kIn, ?_⟩
  have kin : C.T.K.In s1.heap := C.hK ▸ I1.kIn
  obtain ⟨nm, N, qn, bs, bm, hdct, sn, sub, ab, col, dd, k0, k1, k2, k3, k5, hc, hbm⟩ := excInit_of kin E.ex
  have hlen : us.length ≤ sizeLine := by
    have e2 : vs.length = us.length := rv.length
    have e3 : big ≤ sizeLine := by decide +kernel
    omega
  obtain ⟨hp, gs, d, t, os⟩ := s1
  show wpAny _ _ (call (.ref A) us) _ _ _
  refine call_B PySem.F.excBase_ValueError hbm hc (looks_findIn kin E.ini) hlen fun h' keep hex ht => ?_
  exact ⟨hp.objs.size + 1, _, _, ⟨hp, gs, d, t, os⟩, H1, .ref A, none, rfl, I1, keep, by simp [Heap.get?], hex, ⟨rfl, rfl⟩, rfl, rfl, I1.hok.fresh (Nat.le_succ _), rfl, I1.bare, RaiK.raises (X := C.X) (C.hK ▸ R), q⟩
theorem sm_rai (hc : C.X.calm = true) (tk : Takes C.X C.W) (E : ExK C.T.K A) (R : RaiK C.T.K A) (ad : C.T.ad n = some A) (hm : C.X.mg x = some (.ref A)) (ha : PMa C (ex :: es) ma)
    (hg : Gl C.X x := by rfl) (hdb : (x == ("__debug__" : Str)) = false := by decide) (he : starEach (ex :: es) C.X.env = (false, eval ex C.X.env) :: starEach es C.X.env := by rfl) (hpl : (backTo pos (starEach es C.X.env)).any (·.1) = false := by rfl) :
    PMs C (.Raise (some (.Call (.Name x p) (ex :: es) [] pos)) none pos') (sRai n ma) :=
  wkS (ps_raise hc tk (pmk_exc E R hm ha hg hdb he hpl)) fun D σ H h => by
    obtain ⟨g, s, r, q⟩ := rdA_bindS h
    refine ⟨g, s, r, q.imp ?_⟩
    rintro xs H1 ⟨ms, s1, g1, r1, rs, q1⟩
    by_cases hl : ms.length ≤ big
    · rw [if_pos hl] at q1
      exact ⟨by rw [← rs.length]; exact hl, q1 g1 H1 σ (.ref A) none (Mono.refl _ _) r1 ⟨A, ad, rfl, rfl, rfl⟩⟩
    · rw [if_neg hl] at q1; exact q1.elim
/-- raise X(e, ..), X with an `__init__` -/
def raiM (n : Str) (fs : List Str) (pt : List Pt) (ms : List M) (s : MS) : Res Fl := (exiM n fs pt ms s).bind fun _ s1 => .err ⟨n, fs, ms⟩ s1
def sRaiI (n : Str) (fs : List Str) (pt : List Pt) (ma : MA) : MStm := fun s => (ma s).bind (raiM n fs pt)
theorem pmk_exi (G : KnI C.X.prog C.X.w C.X.mg C.T n fs pt) (R : ∀ A, C.T.ad n = some A → RaiK C.T.K A) (hr : RoomG 2 C.X.A) (hx : C.X.ex = []) (h0 : C.X.H_0 = C.e.H) (ha : PMa C (ex :: es) ma)
    (hg : Gl C.X n := by rfl) (hdb : (n == ("__debug__" : Str)) = false := by decide) (he : starEach (ex :: es) C.X.env = (false, eval ex C.X.env) :: starEach es C.X.env := by rfl) (hpl : (backTo pos (starEach es C.X.env)).any (·.1) = false := by rfl) :
    PMk C.X (.Call (.Name n p) (ex :: es) [] pos) (fun σ H Q => rdA C ma σ H fun vs H1 => ∃ g s ms zs, C.rel g s σ H1 ∧ RVs C.T g H1 ms vs ∧ ms.length = fs.length ∧ textsM s.hp ms pt = some zs ∧ (zs.map (·.length)).sum ≤ sizeLine ∧
      ∀ (A dx : Addr), C.T.ad n = some A → H1 dx = none → Q (.ref A) (some dx) (upd H1 dx (.xd (fs.zip vs)))) := by
  obtain ⟨A, ad, hm, hk, hc⟩ := G.ex
  intro pins sh σ H Q I h
  refine wpAny_Call_Name_kw (ld_glob I hg hm ?_ hdb)
  refine callWith_K (h₀ := C.X.base) I.ok.mod.kin (C.hK ▸ hk) (thn (ha.run pos pins sh σ H _ I h) fun us s1 hh => ?_) he hpl
  obtain ⟨vs, H1, I1, rv, g1, ms1, ms, zs, r, rs, hl, ht, hz, q⟩ := hh
  refine ⟨I1.kIn, ?_⟩
  have e0 := I1.env0
  obtain ⟨mb, hb1, hb2⟩ := e0.mod.blt
  have kb : ∀ b o, C.X.base.get? b = some o → s1.heap.get? b = some o := fun b o z => (e0.bs b o z).1
  have hul : us.length = fs.length := by rw [← rv.length, ← rs.length]; exact hl
  show wpAny _ _ (call (.ref A) us) _ _ _
  refine wpAny_call (hc mb hb2 C.X.A s1 us zs _ hr (C.hK ▸ I1.kIn) (e0.mod.glob.keeps kb) (hb1.keeps kb) (e0.mod.nolimit.keeps kb) hul (texts_at I1 r rs rv ht) hz fun dx t s2 mA keep h1 h2 hm2 lt hgn ho => ?_)
  have hne : H1 (s1.heap.objs.size + 1) = none := I1.hok.fresh (Nat.le_succ _)
  have hnd1 : H1 dx = none := I1.hok.fresh (Nat.le_trans (Nat.le_succ _) (Nat.le_of_lt lt))
  have ne : dx ≠ s1.heap.objs.size + 1 := fun z => Nat.lt_irrefl _ (z ▸ lt)
  have I2 := two_laid (fs := fs.zip vs) (t' := s2.toks) I1 keep (Nat.le_succ _) lt h1 h2 fun f => by rw [hm2 f]; exact zip_rel rv f
  obtain ⟨hp2, gs2, d2, tk2, os2⟩ := s2
  dsimp only at hgn ho I2 keep h1 h2
  subst hgn; subst ho
  have I3 : Inv C.X pins σ (upd (upd H1 (s1.heap.objs.size + 1) (XO (.ref A) (some dx) (s1.heap.objs.size + 1))) dx (.xd (fs.zip vs))) ⟨hp2, s1.gens, d2, tk2, s1.os⟩ := ⟨I2.ok, I2.os, I2.bare, I2.base, I2.loc, I2.cell, I2.free, I2.freeC, I2.pin, I2.hok, I2.len⟩
  have fresh : Fr0 C.X.H_0 (s1.heap.objs.size + 1) := fun o e => by
    rw [h0] at e
    rcases r.h.lost hne with z | z
    · rw [e] at z; cases z
    · obtain ⟨u, y⟩ := r.h.rot _ (r.h.m0.ro.subset z)
      rw [hne] at y; cases y
  obtain ⟨G', gs', ga, J⟩ := I3.untrack (a := s1.heap.objs.size + 1) (by rw [upd_ne ne.symm]; exact upd_same) fresh hx
  have eH : delH (upd (upd H1 (s1.heap.objs.size + 1) (XO (.ref A) (some dx) (s1.heap.objs.size + 1))) dx (.xd (fs.zip vs))) (s1.heap.objs.size + 1) = upd H1 dx (.xd (fs.zip vs)) := by
    funext b
    by_cases hb : b = s1.heap.objs.size + 1
    · rw [hb, delH_same, upd_ne ne.symm, hne]
    · rw [delH_ne hb]
      by_cases hb2 : b = dx
      · rw [hb2, upd_same, upd_same]
      · rw [upd_ne hb2, upd_ne hb2, upd_ne hb]
  rw [eH] at J
  refine ⟨s1.heap.objs.size + 1, _, _, _, _, .ref A, some dx, rfl, J, gs', ga, h1, ⟨rfl, rfl⟩, rfl, rfl, ?_, rfl, J.bare, RaiK.raises (X := C.X) (C.hK ▸ R A ad), q A dx ad hnd1⟩
  rw [upd_ne ne.symm]; exact hne
theorem sm_raiI (hc : C.X.calm = true) (tk : Takes C.X C.W) (G : KnI C.X.prog C.X.w C.X.mg C.T n fs pt) (R : ∀ A, C.T.ad n = some A → RaiK C.T.K A) (hr : RoomG 2 C.X.A) (ha : PMa C (ex :: es) ma) (hx : C.X.ex = [] := by rfl) (h0 : C.X.H_0 = C.e.H := by rfl)
    (hg : Gl C.X n := by rfl) (hdb : (n == ("__debug__" : Str)) = false := by decide) (he : starEach (ex :: es) C.X.env = (false, eval ex C.X.env) :: starEach es C.X.env := by rfl) (hpl : (backTo pos (starEach es C.X.env)).any (·.1) = false := by rfl) :
    PMs C (.Raise (some (.Call (.Name n p) (ex :: es) [] pos)) none pos') (sRaiI n fs pt ma) :=
  wkS (ps_raise hc tk (pmk_exi G R hr hx h0 ha hg hdb he hpl)) fun D σ H h => by
    obtain ⟨g, s, r, q⟩ := rdA_bindS h
    refine ⟨g, s, r, q.imp ?_⟩
    rintro vs H1 ⟨ms, s1, g1, r1, rs, q1⟩
    unfold raiM exiM at q1
    by_cases hl : ms.length = fs.length
    · rw [if_pos hl] at q1
      cases ht : textsM s1.hp ms pt with
      | none => rw [ht] at q1; exact q1.elim
      | some zs =>
        rw [ht] at q1
        dsimp only at q1
        by_cases hz : (zs.map (·.length)).sum ≤ sizeLine
        · rw [if_pos hz] at q1
          refine ⟨g1, s1, ms, zs, r1, rs, hl, ht, hz, fun A dx ad hn => ?_⟩
          have mo := mono_laid (o := .xd (fs.zip vs)) r1.h hn
          exact q1 g1 _ σ (.ref A) (some dx) mo (r1.laid hn) ⟨A, ad, rfl, vs, by rw [← rs.length]; exact hl.symm, upd_same, rs.mono mo⟩
        · rw [if_neg hz] at q1; exact q1.elim
    · rw [if_neg hl] at q1; exact q1.elim
end
end Ma
/-! Ma61: a lambda made: its code object is kept in its maker's table. -/
namespace Ma
open L2 PySem.Spec PySem PyProof.Rows
end Ma
/-! Ma62: the lambda called by the def that got it. -/
namespace Ma
open L2 PySem.Spec PySem PyProof.Rows
end Ma
/-! Ma63: within an except suite: the exception at hand; defs called there that do not raise. -/
namespace Ma
open L2 PySem.Spec PySem PyProof.Rows
/-- the object at a is a pinned exception of the class c -/
structure PinX (C : MC) (a : Addr) (c : Str) : Prop where
  ex : ∃ (A : Addr) (d : Option Addr) (oe : Obj), C.T.ad c = some A ∧ L2.ExcC C.X.K A ∧ (a, oe) ∈ C.X.pn ∧ Zc (.ref A) d oe ∧ (∃ vs, oe.data = .fields vs) ∧
    ∀ g s σ H, C.rel g s σ H → match d with
      | none => True
      | some dx => ∃ fs, H dx = some (.xd fs)
/-! ### a field of the exception at hand -/
/-- the same, with its fields -/
structure PinF (C : MC) (a : Addr) (x : Exc) : Prop extends PinX C a x.c where
  fld : ∀ (A : Addr), C.T.ad x.c = some A → L2.XfC C.X.K A
  has : ∃ (A : Addr) (d : Option Addr) (oe : Obj), C.T.ad x.c = some A ∧ (a, oe) ∈ C.X.pn ∧ Zc (.ref A) d oe ∧ (∃ vs, oe.data = .fields vs) ∧
    match d with
      | none => x.ns = []
      | some dx => ∃ vs, x.ns.length = vs.length ∧ ∀ g s σ H, C.rel g s σ H → H dx = some (.xd (x.ns.zip vs)) ∧ RVs C.T g H x.ms vs
/-! ### defs that do not raise, called in an except suite -/
/-- where such a def's body stands -/
abbrev cAtH (P : Program) (w : World) (mg : Str → Option Value) (base : Heap) (T : Tab) (N : List Str) (qual : Str) (scope : Scope) (f : Addr) (cd : Value) (A : Around) (outer : List Env) (s : Shared) (H : Hp) (E : XK) (g : Gh) (p : Addr × Obj) : MC :=
  ⟨L2H.cxH (L2.CX P w) P w T.K mg base N qual scope f cd A outer s H E p, T, ⟨g, H⟩, fun _ _ _ _ => False, rfl⟩
/-- the exception handed over -/
structure Hand (T : Tab) (g : Gh) (H : Hp) (p : Addr × Obj) (c : Str) : Prop where
  ex : ∃ (A : Addr) (d : Option Addr), T.ad c = some A ∧ L2.ExcC T.K A ∧ Zc (.ref A) d p.2 ∧ (∃ vs, p.2.data = .fields vs) ∧ match d with
    | none => True
    | some dx => dx ∉ g.ro ∧ ∃ fs, H dx = some (.xd fs)
theorem Hand.pin {P : Program} {w : World} {mg : Str → Option Value} {base : Heap} {T : Tab} {N : List Str} {qual : Str} {scope : Scope} {f : Addr} {cd : Value} {A : Around} {outer : List Env} {s : Shared} {H : Hp} {E : XK} {g : Gh} {p : Addr × Obj} {c : Str} (h : Hand T g H p c) :
    PinX (cAtH P w mg base T N qual scope f cd A outer s H E g p) p.1 c := by
  obtain ⟨A, d, ad, E, hz, hd, hx⟩ := h.ex
  refine ⟨A, d, p.2, ad, E, List.mem_cons_self, hz, hd, fun g' s' σ' H' r => ?_⟩
  cases d with
  | none => trivial
  | some dx =>
    obtain ⟨nr, fs, e⟩ := hx
    exact ⟨fs, r.h.frm dx _ e nr⟩
/-- a def of one argument, the exception at hand -/
structure FnW (P : Program) (w : World) (mg : Str → Option Value) (base : Heap) (T : Tab) (k : Nat) (f : Addr) (F : Addr → Str → Fn) : Prop where
  run : ∀ (A : Around) (outer : List Env) (s : Shared) (H : Hp) (p : Addr × Obj) (c : Str) (g : Gh) (hp : List Cell) (Q : VK), L2H.RoomH k A → L2H.PinOk outer H s p → Env0 P w T.K mg base A outer s H → Hand T g H p c → RelH T ⟨g, H⟩ g hp H →
    GoF T g H (F p.1 c [.raw p.1] hp) Q (fun _ _ _ => False) → codeAny (model P w) A (.call (.ref f) ⟨[.ref p.1], []⟩) (CR (L2.CX P w) outer P w H s Q fun _ _ _ => False) s
end Ma
/-! Ma64: try: return e / except X as n: .., where the suite looks at the exception alone. -/
namespace Ma
open L2 PySem.Spec PySem PyProof.Rows
/-- the exception at hand, at the suite's start -/
structure Caught (T : Tab) (gc : Gh) (Hc : Hp) (x : Exc) (a : Addr) (oe : Obj) : Prop where
  ex : ∃ (A : Addr) (d : Option Addr), T.ad x.c = some A ∧ L2.ExcC T.K A ∧ L2.XfC T.K A ∧ Zc (.ref A) d oe ∧ (∃ vs, oe.data = .fields vs) ∧ match d with
    | none => x.ns = [] ∧ x.ms = []
    | some dx => dx ∉ gc.ro ∧ ∃ vs, x.ns.length = vs.length ∧ Hc dx = some (.xd (x.ns.zip vs)) ∧ RVs T gc Hc x.ms vs
/-- where the suite stands -/
abbrev cSu (C : MC) (a : Addr) (oe : Obj) (pn : List (Addr × Obj)) (gc : Gh) (Hc : Hp) : MC := ⟨C.X.suite a ((a, oe) :: pn), C.T, ⟨gc, Hc⟩, fun _ _ _ _ => False, C.hK⟩
section
variable {C : MC} {a : Addr} {oe : Obj} {pn : List (Addr × Obj)} {gc : Gh} {Hc : Hp} {x : Exc}
theorem Caught.pin (h : Caught C.T gc Hc x a oe) : PinF (cSu C a oe pn gc Hc) a x := by
  obtain ⟨A, d, ad, E, XF, hz, hd, hx⟩ := h.ex
  refine ⟨⟨A, d, oe, ad, C.hK ▸ E, List.mem_cons_self, hz, hd, fun g' s' σ' H' r => ?_⟩, fun A' ad' => ?_, A, d, oe, ad, List.mem_cons_self, hz, hd, ?_⟩
  · cases d with
    | none => trivial
    | some dx =>
      obtain ⟨nr, vs, _, e, _⟩ := hx
      exact ⟨_, r.h.frm dx _ e nr⟩
  · rw [show C.T.ad x.c = some A from ad] at ad'
    cases ad'
    exact C.hK ▸ XF
  · cases d with
    | none => exact hx.1
    | some dx =>
      obtain ⟨nr, vs, l, e, rs⟩ := hx
      exact ⟨vs, l, fun g' s' σ' H' r => ⟨r.h.frm dx _ e nr, rs.mono r.h.m0⟩⟩
end
end Ma
/-! Ma65: said(lambda: e): what e comes to, told by a def that calls it in a try. -/
namespace Ma
open L2 PySem.Spec PySem PyProof.Rows
end Ma
/-! Ma66: what a law's head tells of defs that make lambdas; raise of known classes; a list times an int. -/
namespace Ma
open L2 PySem.W PySem.Spec PySem PyProof.Rows
/-! ### the hook -/
def isTab (o : Obj) : Bool := match o with
  | ⟨.none, none, .fields vs, sl⟩ => vs.isEmpty && sl.isEmpty
  | _ => false
theorem isTab_ok {o : Obj} (h : isTab o = true) : o = tabObj #[] := by
  unfold isTab at h
  split at h
  · obtain ⟨h1, h2⟩ := Bool.and_eq_true_iff.mp h
    rw [Array.isEmpty_iff.mp h1, Array.isEmpty_iff.mp h2]
  · cases h
theorem isTab_tab : isTab (tabObj #[]) = true := rfl
def nodB : List Addr → Bool
  | [] => true
  | a :: r => !r.contains a && nodB r
theorem nodB_ok : ∀ {l : List Addr}, nodB l = true → l.Nodup
  | [], _ => List.nodup_nil
  | a :: r, h => by
    obtain ⟨h1, h2⟩ := Bool.and_eq_true_iff.mp h
    refine List.nodup_cons.mpr ⟨fun z => ?_, nodB_ok h2⟩
    rw [List.contains_iff_mem.mpr z] at h1
    cases h1
/-- the heap's part, without the empty tables -/
def frT (g : Addr → Option Obj) (as : List Addr) : Frag := (He.frG g as).filter fun p => !isTab p.2
theorem frG_mem {g : Addr → Option Obj} {as : List Addr} {p : Addr × Obj} (h : p ∈ He.frG g as) : g p.1 = some p.2 := by
  unfold He.frG at h
  obtain ⟨a, _, e⟩ := List.mem_filterMap.mp h
  cases q : g a with
  | none => rw [q] at e; cases e
  | some o => rw [q] at e; cases e; exact q
theorem mem_of_lookA {a : Addr} {o : Obj} : ∀ {l : List (Addr × Obj)}, l.lookup a = some o → (a, o) ∈ l
  | [], h => by simp at h
  | p :: r, h => by
    rw [List.lookup_cons] at h
    by_cases e : (a == p.1) = true
    · rw [e] at h
      cases h
      rw [show a = p.1 from beq_iff_eq.mp e]
      exact List.mem_cons_self
    · have e2 : (a == p.1) = false := by simpa using e
      rw [e2] at h
      exact List.mem_cons_of_mem _ (mem_of_lookA h)
theorem frT_mem {g : Addr → Option Obj} {as : List Addr} {a : Addr} {o : Obj} (h : (frT g as).lookup a = some o) : g a = some o ∧ isTab o = false := by
  have hm := mem_of_lookA h
  unfold frT at hm
  obtain ⟨h1, h2⟩ := List.mem_filter.mp hm
  exact ⟨frG_mem h1, by simpa using h2⟩
theorem frT_in {as : List Addr} {h : Heap} : (frT h.get? as).In h := fun _ _ e => (frT_mem e).1
def tabsB (tbs : Frag → List (Addr × Addr)) (g : Addr → Option Obj) (K : Frag) : Bool := nodB ((tbs K).map (·.2)) && (tbs K).all fun p => codeHdIn K p.1 p.2 && (match g p.2 with
  | some o => isTab o
  | none => false)
def obsT (fa : List He.Fa) (fn : List He5.DefA) (ni : List IniD) (ex : Frag → Bool) (tbs : Frag → List (Addr × Addr)) (g : Addr → Option Obj) (K : Frag) : AlM :=
  ((obsP fa fn ni ex K).1 && tabsB tbs g K, (obsP fa fn ni ex K).2)
structure TabsK (tbs : Frag → List (Addr × Addr)) (K : Frag) (h : Heap) : Prop where
  nd : ((tbs K).map (·.2)).Nodup
  hd : ∀ p ∈ tbs K, codeHdIn K p.1 p.2 = true
  at_ : ∀ p ∈ tbs K, h.get? p.2 = some (tabObj #[])
  no : ∀ p ∈ tbs K, K.lookup p.2 = none
/-! ### a def that makes lambdas -/
/-! ### raise of known classes -/
structure RaiF (T : Tab) (n : Str) : Prop where
  ex : ∀ A, T.ad n = some A → RaiK T.K A
def raiB (K : Frag) (C : Addr) : Bool := decide (subIn K (.ref C) (.type "BaseException") = some true) && decide (typeIn K (.ref C) = some (.type "type"))
theorem raiB_ok {K : Frag} {C : Addr} (h : raiB K C = true) : RaiK K C := by
  obtain ⟨h1, h2⟩ := Bool.and_eq_true_iff.mp h
  exact ⟨of_decide_eq_true h1, of_decide_eq_true h2⟩
theorem raiF_of {tb : List (Addr × Str)} {K : Frag} {cs : List Str} {c : Str} (h : raiB K (He.ga K c) = true) : RaiF ⟨K, adOf K cs, tb⟩ c := ⟨fun A e => by
  rw [adOf_at (show adOf K cs c = some A from e)]
  exact raiB_ok h⟩
theorem sm_raiK {C : MC} {x : Str} {ex : Expr} {es : List Expr} {ma : MA} {pos p pos' : Pos} (h : KnE C.X.mg C.T x) (R : RaiF C.T x) (hc : C.X.calm = true) (tk : Takes C.X C.W) (ha : PMa C (ex :: es) ma)
    (hg : Gl C.X x := by rfl) (hdb : (x == ("__debug__" : Str)) = false := by decide) (he : starEach (ex :: es) C.X.env = (false, eval ex C.X.env) :: starEach es C.X.env := by rfl) (hpl : (backTo pos (starEach es C.X.env)).any (·.1) = false := by rfl) :
    PMs C (.Raise (some (.Call (.Name x p) (ex :: es) [] pos)) none pos') (sRai x ma) := by
  obtain ⟨A, h1, h2, h3⟩ := h.ex
  exact sm_rai hc tk h3 (R.ex A h1) h1 h2 ha hg hdb he hpl
theorem sm_raiN {C : MC} {n : Str} {fs : List Str} {pt : List Pt} {ex : Expr} {es : List Expr} {ma : MA} {pos p pos' : Pos} (G : KnI C.X.prog C.X.w C.X.mg C.T n fs pt) (R : RaiF C.T n) (hc : C.X.calm = true) (tk : Takes C.X C.W) (hr : RoomG 2 C.X.A) (ha : PMa C (ex :: es) ma) (hx : C.X.ex = [] := by rfl) (h0 : C.X.H_0 = C.e.H := by rfl)
    (hg : Gl C.X n := by rfl) (hdb : (n == ("__debug__" : Str)) = false := by decide) (he : starEach (ex :: es) C.X.env = (false, eval ex C.X.env) :: starEach es C.X.env := by rfl) (hpl : (backTo pos (starEach es C.X.env)).any (·.1) = false := by rfl) :
    PMs C (.Raise (some (.Call (.Name n p) (ex :: es) [] pos)) none pos') (sRaiI n fs pt ma) := sm_raiI hc tk G R.ex hr ha hx h0 hg hdb he hpl
end Ma
/-! Ma98: the head's hook that looks at written addresses (no search for them in the kernel). -/
namespace Ma
open L2 PySem.W PySem.Spec PySem PyProof.Rows
def obsLG (as : List Addr) (fa : List He.Fa) (fn : List He5.DefA) (ni : List IniD) (ex : Frag → Bool) (tbs : Frag → List (Addr × Addr)) (g : Addr → Option Obj) : AlM := obsT fa fn ni ex tbs g (frT g as)
def hookL (as : List Addr) (fa : List He.Fa) (fn : List He5.DefA) (ni : List IniD) (ex : Frag → Bool) (tbs : Frag → List (Addr × Addr)) : Hook where
  α := AlM
  obs := fun s => obsLG as fa fn ni ex tbs s.heap.get?
  val := fun _ => valP fn ni
  says := fun _ h => ∃ K : Frag, K.In h ∧ SaysP fa fn ni ex K ∧ TabsK tbs K h
  of := fun w s e => by
    refine ⟨frT s.heap.get? as, frT_in, ?_, ?_⟩
    · have e0 : (((obsP fa fn ni ex (frT s.heap.get? as)).1 && tabsB tbs s.heap.get? (frT s.heap.get? as), (obsP fa fn ni ex (frT s.heap.get? as)).2) : AlM) = valP fn ni := e
      have e1 := congrArg Prod.fst e0
      have e2 := congrArg Prod.snd e0
      obtain ⟨a, _⟩ := Bool.and_eq_true_iff.mp (show ((obsP fa fn ni ex (frT s.heap.get? as)).1 && tabsB tbs s.heap.get? (frT s.heap.get? as)) = true from e1)
      exact Prod.ext a e2
    · have e1 : ((obsP fa fn ni ex (frT s.heap.get? as)).1 && tabsB tbs s.heap.get? (frT s.heap.get? as)) = true := congrArg (fun z : AlM => z.1) e
      obtain ⟨_, b⟩ := Bool.and_eq_true_iff.mp e1
      obtain ⟨b1, b2⟩ := Bool.and_eq_true_iff.mp b
      have gt : ∀ p ∈ tbs (frT s.heap.get? as), codeHdIn (frT s.heap.get? as) p.1 p.2 = true ∧ s.heap.get? p.2 = some (tabObj #[]) := fun p hp => by
        obtain ⟨c1, c2⟩ := Bool.and_eq_true_iff.mp (List.all_eq_true.mp b2 p hp)
        refine ⟨c1, ?_⟩
        split at c2
        · rename_i o ho; rw [ho, isTab_ok c2]
        · cases c2
      refine ⟨nodB_ok b1, fun p hp => (gt p hp).1, fun p hp => (gt p hp).2, fun p hp => ?_⟩
      cases q : (frT s.heap.get? as).lookup p.2 with
      | none => rfl
      | some o =>
        obtain ⟨d1, d2⟩ := frT_mem q
        rw [(gt p hp).2] at d1
        cases d1
        rw [isTab_tab] at d2
        cases d2
  keeps := fun _ _ _ ⟨K, hK, c, t⟩ k => ⟨K, Frag.In.keeps hK k, c, ⟨t.nd, t.hd, fun p hp => k _ _ (t.at_ p hp), t.no⟩⟩
theorem obsLG_eq {as : List Addr} {fa : List He.Fa} {fn : List He5.DefA} {ni : List IniD} {ex : Frag → Bool} {tbs : Frag → List (Addr × Addr)} {g : Addr → Option Obj} {s : Shared} (h : ∀ a, g a = s.heap.get? a) : obsLG as fa fn ni ex tbs g = (hookL as fa fn ni ex tbs).obs s := by
  have e : g = s.heap.get? := funext h
  rw [e] <;> rfl
end Ma
/-! Ma67: a list times an int; what is said of an exception. -/
namespace Ma
open L2 PySem.Spec PySem PyProof.Rows
section
variable {C : MC} {g : Gh} {H : Hp}
def oMulL (x y : M) (s : MS) : Res M := match lstOf s.hp x with
  | some ms => match y with
    | .int k => if -(2 ^ 62) ≤ k ∧ k < 2 ^ 62 ∧ ms.length * k.toNat ≤ big then .ok (.lst (repL k ms)) s else .stuck
    | _ => .stuck
  | none => .stuck
end
/-! ### what a call comes to, in a word -/
end Ma
/-! Ma68: more of the machine's runs. -/
namespace Ma
open L2 PySem.Spec PySem PyProof.Rows
theorem mlst_of {ma : MA} {s s1 : MS} {ms : List M} (h : ma s = .ok ms s1) (hl : ms.length ≤ big) : mLst ma s = .ok (.lst ms) s1 := by
  unfold mLst
  rw [h]
  exact if_pos hl
end Ma
/-! Ma69: own operators with right operands of several types; operators by the right operand; -x; instances called; defs with defaults. -/
namespace Ma
open L2 PySem.W PySem.Spec PySem PyProof.Rows
/-! ### x op y, x own -/
def oDunBs (c : Str) (F : Fn) (ts : List String) (o : M → M → MS → Res M) : M → M → MS → Res M := fun x y s => if isIns c x s = true then (match biOf s.hp y with
  | some n => if ts.contains n = true then upF s.env (F [x, y] s.hp) else .stuck
  | none => if isIns c y s = true then upF s.env (F [x, y] s.hp) else .stuck) else o x y s
/-! ### x op y, y own, x None, a bool, an int -/
end Ma
/-! Ma70: -x, x own; instances called; defs with defaults. -/
namespace Ma
open L2 PySem.W PySem.Spec PySem PyProof.Rows
/-! ### defs with defaults -/
end Ma
/-! Ma71: the right operand's own operator, where the left one declines; facts of own operators from the head. -/
namespace Ma
open L2 PySem.W PySem.Spec PySem PyProof.Rows
/-! ### the left operand declines -/
def oDunRf (c : Str) (F : Fn) (o : M → M → MS → Res M) : M → M → MS → Res M := fun x y s => if isIns c y s = true then (match x with
  | .non => upF s.env (F [y, x] s.hp)
  | .bl _ => upF s.env (F [y, x] s.hp)
  | .int _ => upF s.env (F [y, x] s.hp)
  | x => o x y s) else o x y s
/-! ### from the head -/
end Ma
/-! Ma72: a built-in value compared (==, !=) with an own instance on the right. -/
namespace Ma
open L2 PySem.W PySem.Spec PySem PyProof.Rows
/-! ### floor division by greater numbers -/
def oDivW := oInt (fun _ j => decide (0 < j ∧ j < 18446744073709551616)) fun i j => .int (i / j)
theorem ok_divW {C : MC} : Op2Ok C (binaryOp .FloorDiv) oDivW := Op2Ok.of op_fdivW fun σ H g s m1 m2 x y Q r r1 r2 h => by
  obtain ⟨i, j, rfl, rfl, hc, q⟩ := oInt_at h r1 r2
  have hc := of_decide_eq_true hc
  exact ⟨i, j, rfl, rfl, wide_div hc.1 (b := 64) (by omega) (by decide) (by decide), q.same r (.int _)⟩
/-! ### which of 25 classes -/
end Ma
/-! Ma73: targets within targets. -/
namespace Ma
open L2 PySem.W PySem.Spec PySem PyProof.Rows
section
variable {C : MC} {g g1 : Gh} {H H1 : Hp} {s : MS} {σ : L2.St} {pos p : Pos}
def GoV (C : MC) (r : Res Unit) (g : Gh) (H : Hp) (Q : L2.St → Hp → Prop) : Prop := match r with
  | .ok _ s1 => ∀ (g' : Gh) (H' : Hp) (σ' : L2.St), Mono g H g' H' → C.rel g' s1 σ' H' → Q σ' H'
  | _ => False
theorem GoV.later {r : Res Unit} {Q : L2.St → Hp → Prop} (m : Mono g H g1 H1) (h : GoV C r g H Q) : GoV C r g1 H1 Q := by
  cases r with
  | ok a s => exact fun g' H' σ' q => h g' H' σ' (m.trans q)
  | err x s => exact h
  | stuck => exact h
end
end Ma
/-! Ma74: runs of texts: str, f-strings, repr of ints. -/
namespace Ma
open L2 PySem.Spec PySem PyProof.Rows
/-! ### what stood still stands -/
def Ext (B hp : List Cell) : Prop := ∀ (k : Nat) (c : Cell), B[k]? = some c → hp[k]? = some c
theorem Ext.refl (B : List Cell) : Ext B B := fun _ _ h => h
theorem Ext.trans {A B D : List Cell} (h : Ext A B) (h2 : Ext B D) : Ext A D := fun k c e => h2 k c (h k c e)
theorem Ext.app (B t : List Cell) : Ext B (B ++ t) := fun k c e => by rw [List.getElem?_append_left (List.getElem?_eq_some_iff.mp e).1]; exact e
theorem Ext.len {A B : List Cell} (h : Ext A B) : A.length ≤ B.length := by
  rcases Nat.eq_zero_or_pos A.length with e | e
  · omega
  · have := h (A.length - 1) _ (List.getElem?_eq_getElem (by omega))
    have := (List.getElem?_eq_some_iff.mp this).1
    omega
theorem Ext.set {A B : List Cell} (h : Ext A B) {n : Nat} {c : Cell} (hn : A.length ≤ n) : Ext A (B.set n c) := fun k d e => by
  have := (List.getElem?_eq_some_iff.mp e).1
  rw [List.getElem?_set_ne (by omega)]; exact h k d e
theorem for_cons {tg : MG} {b : MStm} {x : M} {xs : List M} {s s1 s2 : MS} (h1 : tg x s = .ok () s1) (h2 : b s1 = .ok .nx s2) : sFor tg b (x :: xs) s = sFor tg b xs s2 := by
  rw [sFor]; dsimp only; rw [h1]; show (b s1).bind _ = _; rw [h2]; rfl
end Ma
/-! numbers as bytes, the highest one first -/
/-! Ma75: bytes. -/
namespace Ma
open L2 PySem.Spec PySem PyProof.Rows
section
variable {C : MC} {g g1 : Gh} {H H1 : Hp} {s : MS} {σ : L2.St} {ex ea eb ec o : Expr} {es : List Expr} {a b c : ME} {ma : MA} {pos p p2 apos cpos : Pos} {x n f : Str}
/-- len -/
def cMin (ms : List M) (s : MS) : Res M := match ms with
  | [.int i, .int j] => .ok (.int (if j < i then j else i)) s
  | _ => .stuck
end
end Ma
/-! Ma76: `is None`. -/
namespace Ma
open L2 PySem.Spec PySem PyProof.Rows
section
variable {C : MC} {g g1 : Gh} {H H1 : Hp} {s : MS} {σ : L2.St}
def isNon : M → Bool
  | .non => true
  | _ => false
theorem rv_non {T : Tab} {m : M} {x : V} (rv : RV T g H m x) : decide (x = V.non) = isNon m := by
  cases rv <;> first | rfl | exact decide_eq_false (fun z => by cases z)
def oIsN (neg : Bool) (x y : M) (s : MS) : Res M := match y with
  | .non => .ok (.bl (if neg then !isNon x else isNon x)) s
  | _ => .stuck
theorem ok_isN : Op2Ok C (compareOp .Is) (oIsN false) := Op2Ok.of op_isN fun σ H g s m1 m2 x y Q r r1 r2 h => by
  unfold oIsN at h
  split at h
  · cases r2
    refine ⟨rfl, ?_⟩
    rw [rv_non r1]
    exact h.same r (.bl _)
  · exact h.elim
theorem ok_isntN : Op2Ok C (compareOp .IsNot) (oIsN true) := Op2Ok.of op_notN fun σ H g s m1 m2 x y Q r r1 r2 h => by
  unfold oIsN at h
  split at h
  · cases r2
    refine ⟨rfl, ?_⟩
    rw [rv_non r1]
    exact h.same r (.bl _)
  · exact h.elim
end
end Ma
/-! Ma77: a dict of a tuple of pairs. -/
namespace Ma
open L2 PySem.Spec PySem PyProof.Rows
end Ma
/-! Ma78: a property that returns tuple(d.items()), and a dict of what it returns. -/
namespace Ma
open L2 PySem.W PySem.Spec PySem PyProof.Rows
end Ma
/-! Ma79: in a list of data; the head's facts of a property that returns a plain tuple. -/
namespace Ma
open L2 PySem.W PySem.Spec PySem PyProof.Rows
section
variable {C : MC} {g g1 : Gh} {H H1 : Hp} {s : MS} {σ : L2.St}
def oInL (neg : Bool) (x y : M) (s : MS) : Res M := match datT s.hp x, datT s.hp y with
  | some d, some (.list ds) => if (SeqAt.shaped d && SeqAt.shaped (.list ds)) = true then .ok (.bl (if neg then !(ds.any fun z => z.eqv d) else ds.any fun z => z.eqv d)) s else .stuck
  | _, _ => .stuck
theorem oInL_at {neg : Bool} {m1 m2 : M} {x y : V} {Q : VK} (h : Go C C.V1 σ (oInL neg m1 m2 s) g H Q) (r : C.rel g s σ H) (r1 : RV C.T g H m1 x) (r2 : RV C.T g H m2 y) :
    ∃ d ds, Dp C.X.K H x d ∧ Dp C.X.K H y (.list ds) ∧ SeqAt.shaped d = true ∧ SeqAt.shaped (.list ds) = true ∧ Q (.bl (if neg then !(ds.any fun z => z.eqv d) else ds.any fun z => z.eqv d)) H := by
  unfold oInL at h
  split at h
  · rename_i d ds h1 h2
    by_cases hs : (SeqAt.shaped d && SeqAt.shaped (.list ds)) = true
    · rw [if_pos hs] at h
      obtain ⟨s1, s2⟩ := Bool.and_eq_true_iff.mp hs
      exact ⟨d, ds, datT_dp r r1 h1, datT_dp r r2 h2, s1, s2, h.same r (.bl _)⟩
    · rw [if_neg hs] at h; exact h.elim
  · exact h.elim
theorem ok_inL (hu : C.X.A.units + 65 < cLine) : Op2Ok C (compareOp .In) (oInL false) := Op2Ok.of (L2.op_inD hu) fun σ H g s m1 m2 x y Q r r1 r2 h => oInL_at h r r1 r2
theorem ok_notInL (hu : C.X.A.units + 65 < cLine) : Op2Ok C (compareOp .NotIn) (oInL true) := Op2Ok.of (L2.op_notInD hu) fun σ H g s m1 m2 x y Q r r1 r2 h => oInL_at h r r1 r2
end
end Ma
/-! Ma80: sorted(..) of lists of data of one shape, any number; of the int keys of a dict. -/
namespace Ma
open L2 PySem.W PySem.Spec PySem PyProof.Rows
section
variable {X : Cx}
abbrev VD := V × PyData
/-- sorted(xs), xs a list that reads as data -/
def rSortD (K : PySem.W.Frag) : RC := fun vs H Q => ∃ (a : Addr) (bs : List VD), vs = [.ref a] ∧ SqL K H a (bs.map Prod.fst) ∧ (∀ b ∈ bs, Dp K H b.1 b.2) ∧ AllAlike (bs.map Prod.snd) ∧ Sortable (bs.map Prod.snd) ∧ (∀ b ∈ bs, b.2.depth ≤ 20) ∧
  ∀ p, H p = none → Q (.ref p) (upd H p (.lst ((bs.mergeSort (dataLe false Prod.snd)).map Prod.fst)))
theorem each_vals {us : List Value} {bs : List VD} (h : EachIs (fun u (b : VD) => RelV b.1 u) us bs) : Vals (bs.map Prod.fst) us := by
  induction h with
  | nil => exact .nil
  | cons h _ ih => exact .cons h ih
theorem vals_each : ∀ {us : List Value} {bs : List VD}, Vals (bs.map Prod.fst) us → EachIs (fun u (b : VD) => RelV b.1 u) us bs
  | _, [], h => by
    rw [List.map_nil] at h
    cases h
    exact .nil
  | _, b :: bs, h => by
    rw [List.map_cons] at h
    cases h with
    | cons r rs => exact .cons r (vals_each rs)
theorem each_and {α β : Type} {R S : α → β → Prop} {as : List α} {bs : List β} (h : EachIs R as bs) (k : ∀ a b, b ∈ bs → R a b → S a b) : EachIs S as bs := by
  induction h with
  | nil => exact .nil
  | cons h _ ih => exact .cons (k _ _ (List.mem_cons_self ..) h) (ih fun a b m r => k a b (List.mem_cons_of_mem _ m) r)
theorem cr_sortD (hu : X.A.units + 64 < cLine) : CallR X (.builtin "sorted") (rSortD X.K) := by
  intro pins s σ H vs us Q I r h
  obtain ⟨a, bs, rfl, hs, hd, hal, hk, hdep, q⟩ := h
  obtain ⟨its, rv, hl, hz⟩ := I.list hs
  rw [Vals.ref1 r]
  have e := vals_each rv
  have er : EachIs (fun v (b : VD) => ∃ as, Reads s.heap v b.2 as) its bs := each_and e fun u b hb ru => Dp.reads I _ _ _ (hd b hb) ru
  rw [List.length_map] at hz
  refine sorted_data (enc := Prod.snd) hl.isList e er hal hk hz (fun b hb => by have := hdep b hb; omega) fun out hlen ho => ?_
  obtain ⟨ep, he'⟩ := PyProof.Rows.sortedAll_at s.heap its out.toArray
  have hv := each_vals ho
  have hlen : ((bs.mergeSort (dataLe false Prod.snd)).map Prod.fst).length ≤ sizeLine := by
    rw [List.length_map, List.length_mergeSort]
    exact hz
  exact ⟨.ref _, upd H (s.heap.objs.size + 1) (.lst ((bs.mergeSort (dataLe false Prod.snd)).map Prod.fst)), I.laid (t' := s.toks) (fun _ _ => PyProof.Rows.sortedAll_old) (Nat.le_succ _) ⟨hlen, out, ep, hv, he'⟩, rfl, q _ (I.hok.fresh (Nat.le_succ _))⟩
end
end Ma
/-! Ma81: sorted(..) of data and of a dict's int keys, in the machine. -/
namespace Ma
open L2 PySem.W PySem.Spec PySem PyProof.Rows
section
variable {C : MC} {g g1 : Gh} {H H1 : Hp} {s : MS} {σ : L2.St} {T : Tab}
def rSortK : RC := fun xs H Q => ∃ (a : Addr) (kvs : List (Key × V)) (ks : List Int), xs = [.ref a] ∧ Rd H a (.dK kvs) ∧ kvs.map (·.1) = ks.map Sum.inl ∧ ks.length < 64 ∧
  ∀ (ys : List Int) (p : Addr), ys.Perm ks → ys.Pairwise (· ≤ ·) → H p = none → Q (.ref p) (upd H p (.lst (ys.map V.int)))
def isTupD : PyData → Bool
  | .tuple (_ :: _) => true
  | _ => false
def isOthD : PyData → Bool
  | .tuple _ => false
  | .none => false
  | _ => true
def sortOk (ds : List PyData) : Bool := ds.all (fun d => ds.all fun e => alike d e) && (ds.all isTupD || ds.all isOthD) && ds.all fun d => decide (d.depth ≤ 20)
def intKs : List (Key × M) → Option (List Int)
  | [] => some []
  | (.inl i, _) :: r => (intKs r).map (i :: ·)
  | _ => none
abbrev leI (a b : Int) : Bool := decide (a ≤ b)
abbrev MD := M × PyData
abbrev leMD : MD → MD → Bool := dataLe false Prod.snd
def cSortD (ms : List M) (s : MS) : Res M := match ms with
  | [x] => match lstOf s.hp x with
    | some xs => match datL xs with
      | some ds => if sortOk ds = true then .ok (.lst (((xs.zip ds).mergeSort leMD).map Prod.fst)) s else .stuck
      | none => .stuck
    | none => match dictOf s.hp x with
      | some kms => match intKs kms with
        | some ks => if ks.length < 64 then .ok (.lst ((ks.mergeSort leI).map M.int)) s else .stuck
        | none => .stuck
      | none => .stuck
  | _ => .stuck
theorem intKs_keys : ∀ {kms : List (Key × M)} {ks : List Int}, intKs kms = some ks → kms.map (·.1) = ks.map Sum.inl
  | [], _, h => by cases h; rfl
  | (.inl i, m) :: r, ks, h => by
    unfold intKs at h
    cases e : intKs r with
    | none => rw [e] at h; cases h
    | some ks' =>
      rw [e] at h
      cases h
      rw [List.map_cons, intKs_keys e]
      rfl
  | (.inr x, m) :: r, ks, h => by cases h
theorem datL_len : ∀ {ms : List M} {ds : List PyData}, datL ms = some ds → ds.length = ms.length
  | [], _, h => by cases h; rfl
  | m :: ms, ds, h => by
    unfold datL at h
    cases hd : dat m with
    | none => rw [hd] at h; cases h
    | some d =>
      cases hds : datL ms with
      | none => rw [hd, hds] at h; cases h
      | some es => rw [hd, hds] at h; cases h; rw [List.length_cons, List.length_cons, datL_len hds]
theorem dpAll_mem : ∀ {xs : List V} {ds : List PyData}, DpAll T.K H xs ds → ∀ b ∈ xs.zip ds, Dp T.K H b.1 b.2
  | _, _, .nil, b, h => by simp at h
  | _, _, .cons h r, b, hb => by
    rw [List.zip_cons_cons] at hb
    rcases List.mem_cons.mp hb with rfl | hb
    · exact h
    · exact dpAll_mem r b hb
theorem dpAll_len : ∀ {xs : List V} {ds : List PyData}, DpAll T.K H xs ds → xs.length = ds.length
  | _, _, .nil => rfl
  | _, _, .cons _ r => by rw [List.length_cons, List.length_cons, dpAll_len r]
/-- M, V and data beside one another -/
theorem sortOk_of {ds : List PyData} (h : sortOk ds = true) : AllAlike ds ∧ Sortable ds ∧ ∀ d ∈ ds, d.depth ≤ 20 := by
  unfold sortOk at h
  rw [Bool.and_eq_true, Bool.and_eq_true] at h
  obtain ⟨⟨h1, h2⟩, h3⟩ := h
  refine ⟨fun d hd e he => List.all_eq_true.mp (List.all_eq_true.mp h1 d hd) e he, ?_, fun d hd => of_decide_eq_true (List.all_eq_true.mp h3 d hd)⟩
  rcases Bool.or_eq_true_iff.mp h2 with h2 | h2
  · refine .inl fun d hd => ?_
    have := List.all_eq_true.mp h2 d hd
    unfold isTupD at this
    split at this
    · exact ⟨_, _, rfl⟩
    · cases this
  · refine .inr fun d hd => ?_
    have := List.all_eq_true.mp h2 d hd
    unfold isOthD at this
    constructor
    · intro e; rw [e] at this; cases this
    · intro xs e; rw [e] at this; cases this
theorem sort_rv : ∀ {zs : List ((M × V) × PyData)}, (∀ z ∈ zs, RV T g H z.1.1 z.1.2) → RVs T g H (zs.map fun z => z.1.1) (zs.map fun z => z.1.2)
  | [], _ => .nil
  | z :: zs, h => .cons (h z (List.mem_cons_self ..)) (sort_rv fun y hy => h y (List.mem_cons_of_mem _ hy))
theorem zip3 : ∀ {ms : List M} {vs : List V} {ds : List PyData}, RVs T g H ms vs → ds.length = ms.length → ∃ zs : List ((M × V) × PyData), (∀ z ∈ zs, RV T g H z.1.1 z.1.2) ∧ zs.map (fun z => (z.1.1, z.2)) = ms.zip ds ∧ zs.map (fun z => (z.1.2, z.2)) = vs.zip ds
  | _, _, [], .nil, _ => ⟨[], by simp, rfl, rfl⟩
  | _, _, _ :: _, .nil, h => by simp at h
  | _, _, [], .cons _ _, h => by simp at h
  | m :: _, v :: _, d :: ds, .cons r rs, h => by
    obtain ⟨zs, h1, h2, h3⟩ := zip3 rs (by simpa using h)
    refine ⟨((m, v), d) :: zs, fun z hz => ?_, by rw [List.map_cons, h2]; rfl, by rw [List.map_cons, h3]; rfl⟩
    rcases List.mem_cons.mp hz with rfl | hz
    · exact r
    · exact h1 z hz
abbrev leZ : ((M × V) × PyData) → ((M × V) × PyData) → Bool := dataLe false Prod.snd
theorem sort_beside {ms : List M} {vs : List V} {ds : List PyData} (r : RVs T g H ms vs) (h : ds.length = ms.length) :
    RVs T g H (((ms.zip ds).mergeSort leMD).map Prod.fst) (((vs.zip ds).mergeSort (dataLe false Prod.snd)).map Prod.fst) := by
  obtain ⟨zs, h1, h2, h3⟩ := zip3 r h
  have e1 : (zs.mergeSort leZ).map (fun z => (z.1.1, z.2)) = (ms.zip ds).mergeSort leMD := by
    rw [← h2]
    exact sort_maps _ fun a _ b _ => rfl
  have e2 : (zs.mergeSort leZ).map (fun z => (z.1.2, z.2)) = (vs.zip ds).mergeSort (dataLe false Prod.snd) := by
    rw [← h3]
    exact sort_maps _ fun a _ b _ => rfl
  rw [← e1, ← e2, List.map_map, List.map_map]
  exact sort_rv fun z hz => h1 z ((List.mergeSort_perm zs leZ).mem_iff.mp hz)
theorem sortI_one {l m : List Int} (h : l.Perm m) (hs : l.Pairwise (· ≤ ·)) : l = m.mergeSort leI := by
  refine List.Perm.eq_of_pairwise (le := fun a b => a ≤ b) (fun a b _ _ h1 h2 => by omega) hs ?_ (h.trans (List.mergeSort_perm m leI).symm)
  have := List.pairwise_mergeSort (le := leI) (fun a b c h1 h2 => by simp only [leI, decide_eq_true_eq] at *; omega) (fun a b => by simp only [leI, Bool.or_eq_true, decide_eq_true_eq]; omega) m
  exact this.imp fun h => of_decide_eq_true h
theorem ints_rv : ∀ ks : List Int, RVs T g H (ks.map M.int) (ks.map V.int)
  | [] => .nil
  | k :: ks => .cons (.int k) (ints_rv ks)
theorem ok_sortD : CallOk C (fun vs H Q => rSortD C.X.K vs H Q ∨ rSortK vs H Q) cSortD := fun σ H g s ms xs Q r rs h => by
  unfold cSortD at h
  split at h
  · rename_i x
    cases rs with
    | cons rv r2 =>
      cases r2
      split at h
      · rename_i ys hy
        obtain ⟨a, vs, rfl, e, ry⟩ := lstOf_at r hy rv
        split at h
        · rename_i ds hd
          split at h
          · rename_i hs
            obtain ⟨s1, s2, s3⟩ := sortOk_of hs
            have dp := datL_dp ry hd
            have hl := datL_len hd
            have hl2 : vs.length = ds.length := dpAll_len dp
            refine .inl ⟨a, vs.zip ds, rfl, ?_, ?_, ?_, ?_, fun b hb => s3 _ (List.of_mem_zip hb).2, fun p hn => h.newL r (sort_beside ry hl) hn⟩
            · rw [List.map_fst_zip (by omega)]
              exact SqL.of e
            · rw [C.hK]; exact dpAll_mem dp
            · rw [List.map_snd_zip (by omega)]; exact s1
            · rw [List.map_snd_zip (by omega)]; exact s2
          · exact h.elim
        · exact h.elim
      · split at h
        · rename_i kms hk
          obtain ⟨n, a, kvs, _, rfl, _, e, rf⟩ := dictOf_at r hk rv
          split at h
          · rename_i ks hi
            split at h
            · rename_i h64
              refine .inr ⟨a, kvs, ks, rfl, e, ?_, h64, fun ys p h1 h2 hn => ?_⟩
              · rw [← rf.keys]; exact intKs_keys hi
              · rw [sortI_one h1 h2]
                exact h.newL r (ints_rv _) hn
            · exact h.elim
          · exact h.elim
        · exact h.elim
  · exact h.elim
end
end Ma
/-! Ma82: set(..) of a list of ints, and sorted(..) of it; min(..) of one list or tuple of ints. -/
namespace Ma
open L2 PySem.W PySem.Spec PySem PyProof.Rows
abbrev setLed (w : World) : Obj := { cls := .type "set", dict := none, data := .set #[] 0 (.fresh 0 0 (!w.params.followText "set-order")) }
section
variable {prog : Program} {w : World} {A : Around} {E : Value → Shared → Prop} {s : Shared} {l : Addr} {items : Array Value} {ns : List Int}
/-- what set.__init__ leaves -/
def SetMade (w : World) (s : Shared) (ns : List Int) (r : Value) (s₂ : Shared) : Prop :=
  r = .none ∧ ∃ h' tk c, s₂ = { s with heap := h', toks := tk } ∧ SetR w h' s.heap.objs.size (fun j => decide (j ∈ ns)) c ∧ c ≤ ns.length ∧ ∀ b o, s.heap.get? b = some o → h'.get? b = some o
theorem set_initI {A2 : Around} (hh : A.handled = none) (hl : s.heap.IsList l items) (hi : IntsAre items.toList ns) (hb : ns.length + 1 < scanBound) :
    wpAny (model prog w) A (Builtin.«set.__init__» ⟨[.ref s.heap.objs.size, .ref l], []⟩)
      (fun fin s' => match fin with | .done f => wants (SetMade w s ns) E (.ok f) s' | .again c' => c'.quiet = true ∧ codeAny (model prog w) A2 c' (wants (SetMade w s ns) E) s')
      (fun e s' => wants (SetMade w s ns) E (.error e) s') { s with heap := s.heap.push (setLed w) } := by
  have hn : items.size = ns.length := by rw [← hi.length, Array.length_toList]
  have lt : l < s.heap.objs.size := by
    obtain ⟨o, e, _⟩ := id hl
    exact Heap.lt_size e
  have hS : (s.heap.push (setLed w)).get? s.heap.objs.size = some (setLed w) := Heap.get?_push_size s.heap rfl
  have sz : (s.heap.push (setLed w)).objs.size = s.heap.objs.size + 1 := Heap.size_push ..
  obtain ⟨⟨cl, od, dat, sl⟩, ho, hc, n, hd⟩ := id hl
  simp only at hc hd
  subst hc hd
  have ho1 := Heap.get?_push_of_some (setLed w) ho
  have hl1 : (s.heap.push (setLed w)).IsList l items := ⟨_, ho1, rfl, n, rfl⟩
  have q1 := PySem.F.sub_list_set
  have q2 := PySem.F.sub_list_frozenset
  have q3 : (Value.type "list" == Value.type "dict") = false := by decide
  unfold Builtin.«set.__init__» noKeywords Builtin.Frozenset.updateFrom
  generalize hPI : pyIter = PI
  wp_walk
  subst hPI
  refine wpAny_pyIter_list hl1 (wpAny_bind (wpAny_runValue ?_))
  have vals : ∀ (i : Nat) (v : Value), items[i]? = some v → ∃ k t, ns[i]? = some k ∧ v = .int k t := fun i v e => by
    have z : i < ns.length := hn ▸ (Array.getElem?_eq_some_iff.mp e).1
    obtain ⟨t, rfl⟩ := IntsAre.int_at hi i v (by rw [Array.getElem?_toList]; exact e)
    exact ⟨_, t, List.getElem?_eq_getElem z, by rw [List.getD_eq_getElem?_getD, List.getElem?_eq_getElem z]; rfl⟩
  have three : A.in1.handled = none := by simp [hh]
  have z1 : l ≠ (s.heap.push (setLed w)).objs.size := by rw [sz]; exact Nat.ne_of_lt (Nat.lt_succ_of_lt lt)
  have z2 : s.heap.objs.size ∉ [(s.heap.push (setLed w)).objs.size, l] := by
    rw [sz, List.mem_cons, List.mem_singleton, not_or]
    exact ⟨Nat.ne_of_lt (Nat.lt_succ_self _), Nat.ne_of_gt lt⟩
  refine set_update_ints ((Walks.list three _ l z1 items).toS) s.heap.objs.size z2 ns hn hb vals (items.size - 0) 0 { s with heap := (s.heap.push (setLed w)).push { cls := .type "list_iterator", data := .fields #[.ref l, .int 0 0] } } (by omega) (Nat.zero_le _) ⟨⟨_, Heap.get?_push_size _ rfl, rfl, rfl⟩, hl1.push _⟩ ?first fun s' c' hm hc' hS' => ?_
  case first =>
    have z3 : ((s.heap.push (setLed w)).push { cls := .type "list_iterator", data := .fields #[.ref l, .int 0 0] }).get? s.heap.objs.size = some (setLed w) := Heap.get?_push_of_some _ hS
    exact ⟨0, Nat.le_refl 0, setR_new_at z3⟩
  obtain ⟨h', g2, d', tk', os'⟩ := s'
  have e1 : g2 = s.gens := hm.gens
  have e2 : d' = s.drawn := hm.drawn
  have e3 : os' = s.os := hm.os
  subst e1 e2 e3
  refine wpAny_pure ?_
  show wpAny _ _ (ret Value.none) _ _ _
  refine wpAny_pure ⟨rfl, h', tk', c', rfl, hS', hn ▸ hc', fun b o e => ?_⟩
  have hb0 := Heap.lt_size e
  exact hm.heap b o (by rw [List.mem_cons, List.mem_singleton, not_or, sz]; exact ⟨Nat.ne_of_lt hb0, Nat.ne_of_lt (Nat.lt_succ_of_lt hb0)⟩) (Heap.get?_push_of_some _ (Heap.get?_push_of_some _ e))
theorem call_setI {Q : Value → Shared → Prop} (hh : A.handled = none) (hl : s.heap.IsList l items) (hi : IntsAre items.toList ns) (hb : ns.length + 1 < scanBound)
    (h : ∀ (h' : Heap) (tk c : Nat), SetR w h' s.heap.objs.size (fun j => decide (j ∈ ns)) c → c ≤ ns.length → (∀ b o, s.heap.get? b = some o → h'.get? b = some o) → Q (.ref s.heap.objs.size) { s with heap := h', toks := tk }) :
    wpAny (model prog w) A (call (.type "set") [.ref l]) Q E s := by
  obtain ⟨c0, tl, hmro⟩ := PySem.F.called_set.mro
  have b1 := PySem.F.called_set.notType
  have b2 := PySem.F.called_set.canCreate
  have b3 := PySem.F.called_set.made
  have b4 := PySem.F.called_set.sub
  have b5 := PySem.F.typeCall_set_1 (.ref l)
  have b6 := PySem.F.called_set.init.lookup
  have b7 := PySem.F.called_set.init.bind (.ref s.heap.objs.size)
  refine wpAny_call (codeAny_of_tree ?_)
  show wpAny _ _ (callAny (.type "set") _) _ _ _
  refine wpAny_pure ⟨Code.quiet_builtin _ (by decide +kernel), codeAny_builtin PySem.F.entry_type_call ?_⟩
  rw [Around.under_plain (weight_type_call_type "set" [.ref l] []) rfl]
  repeat (any_goals (first | assumption | wp_step))
  refine codeAny_mono (code_set_led1 (.ref l) (E := E) (Q₁ := fun obj s₁ => obj = .ref s.heap.objs.size ∧ s₁ = { s with heap := s.heap.push (setLed w) }) ⟨rfl, rfl⟩) fun r s₁ hr => ?_
  match r, hr with
  | .error e, hr => exact hr
  | .ok (.ret obj), hr =>
    obtain ⟨rfl, rfl⟩ := hr
    have b8 : Shared.TypeIs { s with heap := s.heap.push (setLed w) } (.ref s.heap.objs.size) "set" := ⟨setLed w, Heap.get?_push_size s.heap rfl, rfl⟩
    repeat (any_goals (first | assumption | wp_step))
    refine codeAny_mono (codeAny_call_builtin (R := wants (SetMade w s ns) E) PySem.F.called_set.init.plain PySem.F.entry_set_init (check_set_init_1 b8 (set_initI ?hd hl hi hb))) fun r₂ s₂ hr₂ => ?_
    case hd => first | exact hh | simp [hh]
    match r₂, hr₂ with
    | .error e, hr₂ => exact hr₂
    | .ok (.ret r), hr₂ =>
      obtain ⟨rfl, h', tk, c', rfl, z1, z2, z3⟩ := hr₂
      repeat (any_goals (first | assumption | wp_step))
      exact h _ _ _ z1 z2 z3
end
end Ma
/-! Ma83: sorted(set(..)) of ints, min(..), setdefault in the machine. -/
namespace Ma
open L2 PySem.W PySem.Spec PySem PyProof.Rows
/-! ### the one rising list of the same ints -/
def insS (k : Int) : List Int → List Int
  | [] => [k]
  | q :: r => if k < q then k :: q :: r else if k = q then q :: r else q :: insS k r
def ssI (ks : List Int) : List Int := ks.foldr insS []
theorem insS_mem {k x : Int} : ∀ {l : List Int}, x ∈ insS k l ↔ x = k ∨ x ∈ l
  | [] => by simp [insS]
  | q :: r => by
    unfold insS
    split
    · simp
    · split
      · rename_i h; subst h; simp
      · rw [List.mem_cons, insS_mem, List.mem_cons]
        constructor
        · rintro (h | h | h)
          · exact .inr (.inl h)
          · exact .inl h
          · exact .inr (.inr h)
        · rintro (h | h | h)
          · exact .inr (.inl h)
          · exact .inl h
          · exact .inr (.inr h)
theorem insS_up {k : Int} : ∀ {l : List Int}, l.Pairwise (· < ·) → (insS k l).Pairwise (· < ·)
  | [], _ => by simp [insS]
  | q :: r, h => by
    obtain ⟨h1, h2⟩ := List.pairwise_cons.mp h
    unfold insS
    split
    · rename_i hk
      refine List.pairwise_cons.mpr ⟨fun x hx => ?_, h⟩
      rcases List.mem_cons.mp hx with rfl | hx
      · exact hk
      · have := h1 x hx; omega
    · split
      · exact h
      · refine List.pairwise_cons.mpr ⟨fun x hx => ?_, insS_up h2⟩
        rcases insS_mem.mp hx with rfl | hx
        · omega
        · exact h1 x hx
theorem ssI_mem {x : Int} : ∀ {ks : List Int}, x ∈ ssI ks ↔ x ∈ ks
  | [] => by simp [ssI]
  | k :: ks => by
    show x ∈ insS k (ssI ks) ↔ _
    rw [insS_mem, ssI_mem, List.mem_cons]
theorem ssI_up : ∀ ks : List Int, (ssI ks).Pairwise (· < ·)
  | [] => .nil
  | k :: ks => insS_up (ssI_up ks)
/-! ### set(xs) -/
def rSetL (K : PySem.W.Frag) (w : World) : RC := fun vs H Q => ∃ (a : Addr) (ns : List Int), vs = [.ref a] ∧ SqL K H a (ns.map V.int) ∧ ns.length < 60 ∧
  ∀ p c, H p = none → c ≤ ns.length → Q (.ref p) (upd H p (SetO w p (fun j => decide (j ∈ ns)) c))
section
variable {C : MC} {g g1 : Gh} {H H1 : Hp} {s : MS} {σ : L2.St} {T : Tab} {ex o e2 : Expr} {a b c : ME} {x y : Str}
def intsM : List M → Option (List Int)
  | [] => some []
  | .int i :: ms => (intsM ms).map (i :: ·)
  | _ => none
theorem intsM_map : ∀ ns : List Int, intsM (ns.map M.int) = some ns
  | [] => rfl
  | n :: ns => by show (intsM (ns.map M.int)).map _ = _; rw [intsM_map]; rfl
theorem intsM_at : ∀ {ms : List M} {vs : List V} {ns : List Int}, RVs T g H ms vs → intsM ms = some ns → vs = ns.map V.int
  | _, _, _, .nil, h => by cases h; rfl
  | m :: ms, v :: vs, ns, .cons r rs, h => by
    cases r with
    | int i =>
      simp only [intsM] at h
      cases e : intsM ms with
      | none => rw [e] at h; cases h
      | some ns' => rw [e] at h; cases h; rw [List.map_cons, intsM_at rs e]
    | _ => cases h
/-! ### min(xs), one list or tuple of ints -/
/-! ### d.setdefault(k, v) -/
end
end Ma
/-! Ma84: the head's run, looked at in three parts (each by itself wants less room). -/
/-! Ma85: comprehensions with a test, with a heap that grows; sorted lists of tuples of ints. -/
namespace Ma
open L2 PySem.W PySem.Spec PySem PyProof.Rows
theorem lc_if {α : Type} {em f : α → M} {p : α → Bool} {vs : List Nat} {tg : MG} {tt : MT} {el : ME} : ∀ {xs : List α} {acc : List M} {s : MS}, acc.length + xs.length ≤ big →
    (∀ x ∈ xs, ∃ s2 e3, tg (em x) ⟨wipeM s.env vs, s.hp⟩ = .ok () s2 ∧ tt s2 = .ok (p x) ⟨e3, s.hp⟩ ∧ (p x = true → ∃ e4, el ⟨e3, s.hp⟩ = .ok (f x) ⟨e4, s.hp⟩)) →
    lcLoop vs tg tt el (xs.map em) acc s = .ok (acc ++ (xs.filter p).map f) s
  | [], acc, s, _, _ => by rw [List.map_nil, lcLoop]; simp
  | x :: xs, acc, s, hl, h => by
    rw [List.length_cons] at hl
    obtain ⟨s2, e3, a1, a2, a4⟩ := h x List.mem_cons_self
    have hb : acc.length < big := by omega
    rw [List.map_cons, lcLoop, a1]
    dsimp only
    rw [a2]
    cases hp1 : p x with
    | false =>
      dsimp only
      rw [List.filter_cons_of_neg (by rw [hp1]; decide)]
      exact lc_if (xs := xs) (by omega) fun y hy => h y (List.mem_cons_of_mem _ hy)
    | true =>
      dsimp only
      obtain ⟨e4, c1⟩ := a4 hp1
      rw [c1]
      dsimp only
      rw [if_pos hb, List.filter_cons_of_pos hp1, List.map_cons]
      refine (lc_if (xs := xs) (by simp only [List.length_append, List.length_cons, List.length_nil]; omega) fun y hy => h y (List.mem_cons_of_mem _ hy)).trans ?_
      rw [List.append_assoc]
      rfl
theorem mlc_if {α : Type} {em f : α → M} {p : α → Bool} {vs : List Nat} {it : MI} {tg : MG} {tt : MT} {el : ME} {xs : List α} {s s1 : MS} (hi : it s = .ok (xs.map em) s1) (hl : xs.length ≤ big)
    (h : ∀ x ∈ xs, ∃ s2 e3, tg (em x) ⟨wipeM s1.env vs, s1.hp⟩ = .ok () s2 ∧ tt s2 = .ok (p x) ⟨e3, s1.hp⟩ ∧ (p x = true → ∃ e4, el ⟨e3, s1.hp⟩ = .ok (f x) ⟨e4, s1.hp⟩)) :
    mLc vs it tg tt el s = .ok (.lst ((xs.filter p).map f)) s1 := by
  unfold mLc
  rw [hi]
  show Res.bind (lcLoop vs tg tt el (xs.map em) [] s1) _ = _
  rw [lc_if (acc := []) (by simpa using hl) h]
  rfl
/-! ### tuples of ints, sorted -/
abbrev tupI (l : List Int) : M := .tup (l.map M.int)
abbrev tupD (l : List Int) : PyData := .tuple (l.map PyData.int)
end Ma
/-! Ma86: how long a text of data is; repr of long data. -/
namespace Ma
open L2 PySem.W PySem.Spec PySem PyProof.Rows
end Ma
/-! Ma87: sets of ints as values: set(xs), in, not in. -/
namespace Ma
open L2 PySem.W PySem.Spec PySem PyProof.Rows
theorem setI_new {w : World} {P : Program} {w' : World} {H : Hp} {h : Heap} {a : Addr} {ks : List Int} {n : Nat} (R : SetR w h a (fun j => decide (j ∈ ks)) n) : ObjOk P w' H h a (SetI a ks) := by
  have ⟨o, _, _, _, ho, _⟩ := R
  exact ⟨⟨w, n, R⟩, ⟨o, ho⟩, fun h1 h2 ⟨w1, n1, p⟩ k => ⟨w1, n1, SetR.at p k⟩⟩
def rSetI (K : PySem.W.Frag) : RC := fun vs H Q => ∃ (a : Addr) (ns : List Int), vs = [.ref a] ∧ (SqL K H a (ns.map V.int) ∨ SqT K H a (ns.map V.int)) ∧ ns.length ≤ 1000 ∧ ∀ p, H p = none → Q (.ref p) (upd H p (SetI p ns))
theorem cr_setI {X : Cx} (hc : X.calm = true) : CallR X (.type "set") (rSetI X.K) := by
  intro pins s σ H vs us Q I r h
  obtain ⟨a, ns, rfl, hs, hl, q⟩ := h
  rw [Vals.ref1 r]
  rcases hs with hs | hs
  · obtain ⟨its, rv, pl, hz⟩ := I.list hs
    have hi : IntsAre its.toArray.toList ns := by simpa using rv.ints
    refine call_setI (I.ok.hd hc) pl.isList hi (by unfold scanBound; omega) fun h' tk c R hcn k => ?_
    exact ⟨.ref _, upd H s.heap.objs.size (SetI s.heap.objs.size ns), I.laid (t' := tk) k (Nat.le_refl _) (setI_new R), rfl, q _ (I.hok.fresh (Nat.le_refl _))⟩
  · obtain ⟨its, rv, pl, hz⟩ := I.tuple hs
    have hi : IntsAre its.toArray.toList ns := by simpa using rv.ints
    refine call_set_tupI ns (I.ok.hd hc) pl hi (by unfold scanBound; omega) fun h' tk c R hcn k => ?_
    exact ⟨.ref _, upd H s.heap.objs.size (SetI s.heap.objs.size ns), I.laid (t' := tk) k (Nat.le_refl _) (setI_new R), rfl, q _ (I.hok.fresh (Nat.le_refl _))⟩
section
variable {C : MC} {g g1 : Gh} {H H1 : Hp} {s : MS} {σ : L2.St} {T : Tab}
def cSetI (ms : List M) (s : MS) : Res M := match seqA s ms with
  | some xs => match intsM xs with
    | some ns => if ns.length ≤ 1000 then .ok (.set ns) s else .stuck
    | none => .stuck
  | none => .stuck
theorem ok_setI : CallOk C (rSetI C.X.K) cSetI := fun σ H g s ms xs Q r rs h => by
  unfold cSetI at h
  split at h
  · rename_i ys hy
    obtain ⟨p, vs, rfl, hq, rv⟩ := seqA_at r rs hy
    split at h
    · rename_i ns hi
      split at h
      · rename_i hl
        have ev := intsM_at rv hi
        subst ev
        refine ⟨p, ns, rfl, hq, hl, fun p1 hn => ?_⟩
        obtain ⟨r2, mo⟩ := r.frz (o := SetI p1 ns) hn (fun ps z => by unfold SetI at z; cases z)
        exact h (g.add p1) _ _ mo r2 (.set (.inr rfl) upd_same)
      · exact h.elim
    · exact h.elim
  · exact h.elim
end
end Ma
/-! Ma88: the truth of lists, tuples, dicts; in, not in of a tuple of ints. -/
namespace Ma
open L2 PySem.W PySem.Spec PySem PyProof.Rows
end Ma
/-! Ma89: repr of texts, truths, None, in the machine. -/
namespace Ma
open L2 PySem.Spec PySem PyProof.Rows
section
variable {C : MC} {g g1 : Gh} {H H1 : Hp} {s : MS} {σ : L2.St} {T : Tab}
def rReprS : RC := fun xs H Q => (∃ x : Str, xs = [.str x] ∧ (reprText x).length ≤ sizeLine ∧ Q (.str (reprText x)) H) ∨ (∃ b : Bool, xs = [.bl b] ∧ Q (.str (if b then "True" else "False")) H) ∨ (xs = [.non] ∧ Q (.str "None") H)
theorem call_reprSO {X : Cx} : CallR X (.builtin "repr") rReprS := by
  intro pins s σ H xs us Q I r h
  rcases h with ⟨x, rfl, hz, q⟩ | ⟨b, rfl, q⟩ | ⟨rfl, q⟩
  · obtain ⟨u, rfl, t, rfl⟩ := vals1 r
    exact PySem.P.repr_of_str ⟨.str _, H, I.tok _, ⟨_, rfl⟩, q⟩ hz
  · obtain ⟨u, rfl, hu⟩ := vals1 r
    cases hu
    exact PySem.P.repr_of_bool ⟨.str _, H, I.tok _, ⟨_, rfl⟩, q⟩
  · obtain ⟨u, rfl, hu⟩ := vals1 r
    cases hu
    exact PySem.P.repr_of_none ⟨.str _, H, I.tok _, ⟨_, rfl⟩, q⟩
def cReprS (o : List M → MS → Res M) (ms : List M) (s : MS) : Res M := match ms with
  | [.str x] => if (reprText x).length ≤ sizeLine then .ok (.str (reprText x)) s else .stuck
  | [.bl b] => .ok (.str (if b then "True" else "False")) s
  | [.non] => .ok (.str "None") s
  | ms => o ms s
theorem ok_reprS {R : RC} {o : List M → MS → Res M} (ho : CallOk C R o) : CallOk C (fun xs H Q => rReprS xs H Q ∨ R xs H Q) (cReprS o) := fun σ H g s ms xs Q r rs h => by
  unfold cReprS at h
  split at h
  case h_1 x =>
    by_cases hb : (reprText x).length ≤ sizeLine
    · rw [if_pos hb] at h
      cases rs with
      | cons r1 r2 => cases r2; cases r1; exact .inl (.inl ⟨x, rfl, hb, h.same r (.str _)⟩)
    · rw [if_neg hb] at h; exact h.elim
  case h_2 b =>
    cases rs with
    | cons r1 r2 => cases r2; cases r1; exact .inl (.inr (.inl ⟨b, rfl, h.same r (.str _)⟩))
  case h_3 =>
    cases rs with
    | cons r1 r2 => cases r2; cases r1; exact .inl (.inr (.inr ⟨rfl, h.same r (.str _)⟩))
  case h_4 => exact .inr (ho σ H g s ms xs Q r rs h)
theorem call_reprB {X : Cx} (hg : X.A.guards = some []) (hu : X.A.units + 65 < cLine) : CallR X (.builtin "repr") (fun xs H Q => rReprS xs H Q ∨ ((∃ i, xs = [.int i] ∧ i.natAbs.log2 < 1920 ∧ Q (.str (toString i)) H) ∨ rReprD X.K xs H Q)) := CallR.alt call_reprSO (call_reprA hg hu)
end
end Ma
/-! Ma90: d.get(k), d.get(k, x), in the machine. -/
namespace Ma
open L2 PySem.W PySem.Spec PySem PyProof.Rows
section
variable {C : MC} {g g1 : Gh} {H H1 : Hp} {s : MS} {σ : L2.St} {T : Tab} {o ex e2 : Expr} {a b c : ME}
def mGet1 (a b : ME) : ME := fun s => (a s).bind fun x s1 => match dictL s1.hp x with
  | none => .stuck
  | some _ => (b s1).bind fun y s2 => match dictL s2.hp x, keyM y with
    | some kms, some k => (match valG kms k with
        | some m => .ok m s2
        | none => .ok .non s2)
    | _, _ => .stuck
theorem em_get1 {apos cpos : Pos} (hu : C.X.A.units + 1 < cLine) (ho : PMe C o a) (he : PMe C ex b) (m : M1 C.X o "get" apos ex cpos := by exact ⟨rfl, rfl, rfl, rfl⟩) : PMe C (.Call (.Attribute o "get" apos) [ex] [] cpos) (mGet1 a b) :=
  wkE (pe_dget1 hu ho he m) fun σ H Q h => by
    obtain ⟨g, s, r, q⟩ := rdE_bind h
    refine ⟨g, s, r, q.imp ?_⟩
    rintro v H1 ⟨x, s1, g1, r1, rv, q1⟩
    split at q1
    · exact q1.elim
    · rename_i kms0 hd0
      obtain ⟨n, a0, kvs0, rfl, _, rfl, hro, e0, rf0⟩ := dictL_at r1 hd0 rv
      refine ⟨a0, rfl, .inl ⟨kvs0, .inl e0⟩, g1, s1, r1, (Go.bind (R := C.V1) q1).imp ?_⟩
      rintro y H2 ⟨ym, s2, g2, mo2, r2, ry, q2⟩
      split at q2
      · rename_i kms k hd hk
        have rv3 : RV C.T g2 H2 (.box n) (.ref a0) := rv.mono mo2
        obtain ⟨n2, a2, kvs, e1, hc, e3, hro3, e4, rf⟩ := dictL_at r2 hd rv3
        cases e1; cases e3
        have ek := keyM_at hk ry
        subst ek
        rcases rf.valG k with ⟨m, v, h1, h2, h3⟩ | ⟨h1, h2⟩
        · rw [h1] at q2
          exact ⟨some v, .inl ⟨kvs, k, .inl e4, rfl, h2.symm⟩, q2.same r2 h3⟩
        · rw [h1] at q2
          exact ⟨none, .inl ⟨kvs, k, .inl e4, rfl, h2.symm⟩, q2.same r2 .non⟩
      · exact q2.elim
end
end Ma
/-! Ma91: zip of tuples; len of a set; a tuple from its end to its start. -/
namespace Ma
open L2 HT PySem.W PySem.Spec PySem PyProof.Rows
/-! ### t[::-1] -/
section
variable {C : MC} {g g1 : Gh} {H H1 : Hp} {s : MS} {σ : L2.St} {T : Tab} {ex e2 : Expr} {a : ME} {ma : MA} {pos p tpos : Pos}
/-! ### zip -/
/-! ### len of a set -/
theorem nd_le : ∀ {l m : List Int}, l.Nodup → (∀ x ∈ l, x ∈ m) → l.length ≤ m.length
  | [], _, _, _ => Nat.zero_le _
  | a :: l, m, nd, h => by
    have ha := h a (by simp)
    have nl := List.nodup_cons.mp nd
    have ih := nd_le (l := l) (m := m.erase a) nl.2 fun x hx => (List.mem_erase_of_ne (fun (e : x = a) => nl.1 (e ▸ hx))).mpr (h x (by simp [hx]))
    rw [List.length_erase_of_mem ha] at ih
    have : 0 < m.length := List.length_pos_of_mem ha
    simp only [List.length_cons]
    omega
def cLenS (o : List M → MS → Res M) (ms : List M) (s : MS) : Res M := match ms with
  | [.set ks] => .ok (.int ((ssI ks).length : Nat)) s
  | ms => o ms s
def rLenS : RC := fun xs H Q => ∃ (a : Addr) (ks : List Int), xs = [.ref a] ∧ H a = some (SetI a ks) ∧ Q (.int ((ssI ks).length : Nat)) H
theorem call_lenS {X : Cx} : CallR X (.builtin "len") rLenS := by
  intro pins s σ H xs us Q I r ⟨a, ks, ex, h, q⟩
  subst ex
  rw [Vals.ref1 r]
  obtain ⟨⟨w, n, R⟩, _, _⟩ := (show ObjOk X.prog X.w H s.heap a (SetI a ks) from I.hok a _ h)
  obtain ⟨o, es, ep, t, ho, hx, hd, hg, nd, hm, hb, hf, hn, _⟩ := R
  have e : es.size = (ssI ks).length := by
    have e1 : es.size = (es.toList.map keyOf).length := by simp
    rw [e1]
    have n2 : (ssI ks).Nodup := (ssI_up ks).imp fun h => by omega
    refine Nat.le_antisymm (nd_le nd fun x hx => ?_) (nd_le n2 fun x hx => ?_)
    · exact ssI_mem.mpr (of_decide_eq_true ((hm x).mpr hx))
    · exact (hm x).mp (decide_eq_true (ssI_mem.mp hx))
  refine call_len_set ho hx hd hf (by unfold scanBound at hb; omega) ⟨.int ((ssI ks).length : Nat), H, I.tok _, ⟨_, by rw [e]⟩, q⟩
theorem ok_lenS {R : RC} {o : List M → MS → Res M} (ho : CallOk C R o) : CallOk C (fun xs H Q => rLenS xs H Q ∨ R xs H Q) (cLenS o) := fun σ H g s ms xs Q r rs h => by
  unfold cLenS at h
  split at h
  · cases rs with
    | cons r1 r2 => cases r2; cases r1 with
      | set f e => exact .inl ⟨_, _, rfl, e, h.same r (.int _)⟩
  · exact .inr (ho σ H g s ms xs Q r rs h)
end
end Ma
/-! Ma92: repr of a dict of plain keys and values. -/
namespace Ma
open L2 PySem.W PySem.Spec PySem PyProof.Rows
/-- a plain value -/
def flD : M → Option PyData
  | .non => some .none
  | .bl b => some (.bool b)
  | .int i => some (.int i)
  | .str x => some (.str x)
  | _ => none
def kyD : Key → PyData
  | .inl i => .int i
  | .inr x => .str x
def kvD : List (Key × M) → Option (List (PyData × PyData))
  | [] => some []
  | (k, m) :: r => match flD m, kvD r with
    | some d, some ds => some ((kyD k, d) :: ds)
    | _, _ => none
section
variable {C : MC} {g g1 : Gh} {H H1 : Hp} {s : MS} {σ : L2.St} {T : Tab} {hp : Heap}
theorem flD_reads {m : M} {x : V} {u : Value} {d : PyData} (h : flD m = some d) (rv : RV T g H m x) (r : RelV x u) : Reads hp u d [] := by
  cases rv <;> first
    | (cases h; cases r; exact .none)
    | (cases h; cases r; exact .bool _)
    | (cases h; obtain ⟨t, rfl⟩ := r; exact .int _ _)
    | (cases h; obtain ⟨t, rfl⟩ := r; exact .str _ _)
    | cases h
theorem key_reads {k : Key} {u : Value} (h : keyIs k u = true) : Reads hp u (kyD k) [] := by
  rcases keyIs_shape h with ⟨i, t, rfl, rfl⟩ | ⟨x, t, rfl, rfl⟩
  · exact .int _ _
  · exact .str _ _
theorem kvD_reads {P : Program} {w : World} : ∀ {kms : List (Key × M)} {ds : List (PyData × PyData)} {kvs : List (Key × V)} {vs : List (Key × Value)} {es : List DictEntry}, kvD kms = some ds → RFs T g H kms kvs → KV kvs vs → Pairs (mixKind P w) es vs →
    ReadsAll hp (es.map (·.key)) (ds.map (·.1)) [] ∧ ReadsAll hp (es.map (·.val)) (ds.map (·.2)) []
  | [], _, _, _, _, h, .nil, k, p => by
    cases h; cases k; cases p
    exact ⟨.nil, .nil⟩
  | (k, m) :: r, _, _, _, _, h, .cons rv rs, kv, p => by
    unfold kvD at h
    split at h
    · rename_i d ds h1 h2
      cases h
      cases kv with
      | cons k1 k2 => cases p with
        | cons p1 p2 p3 =>
          obtain ⟨a, b⟩ := kvD_reads h2 rs k2 p3
          obtain ⟨q1, q2⟩ := k1
          have e1 := p1
          rw [← q1] at e1
          have e1 := key_reads (hp := hp) (show keyIs k _ = true from e1)
          have e2 := flD_reads (hp := hp) h1 rv q2
          rw [← p2] at e2
          exact ⟨.cons (as := []) (bs := []) e1 a, .cons (as := []) (bs := []) e2 b⟩
    · cases h
end
end Ma
/-! Ma93: sorted of a tuple; a sum of lists as a box. -/
namespace Ma
open L2 PySem.W PySem.Spec PySem PyProof.Rows
end Ma
/-! Ma94: sorted(set(t)) of a tuple of ints. -/
namespace Ma
open L2 PySem.W PySem.Spec PySem PyProof.Rows
end Ma
/-! Ma95: sorted(set(xs)) of a long list of ints with few different ones. -/
namespace Ma
open L2 PySem.W PySem.Spec PySem PyProof.Rows
end Ma
/-! Ma96: defs with keyword-only parameters, called with and without keywords. -/
namespace Ma
open L2 PySem.Spec PySem PyProof.Rows
/-! ### arguments by keywords -/
abbrev PMk (C : MC) (e : List Keyword) (m : MA) : Prop := L2.PK C.X e (rdA C m)
/-! ### in the parameters' order -/
def pickL {α : Type} (sp : List (Bool × Nat)) (as ds : List α) : List α := sp.filterMap fun q => if q.1 = true then as[q.2]? else ds[q.2]?
section
variable {T : Tab} {g : Gh} {H : Hp}
theorem rvls_at {xs : List M} {us : List V} (r : RVs T g H xs us) (i : Nat) : (xs[i]? = none ∧ us[i]? = none) ∨ ∃ x u, xs[i]? = some x ∧ us[i]? = some u ∧ RV T g H x u := by
  cases h : xs[i]? with
  | none =>
    refine .inl ⟨rfl, ?_⟩
    rw [List.getElem?_eq_none_iff] at h ⊢
    rw [← r.length]
    exact h
  | some x =>
    obtain ⟨u, e1, e2⟩ := r.get h
    exact .inr ⟨x, u, rfl, e1, e2⟩
theorem rvs_pick {as ds : List M} {us es : List V} (r : RVs T g H as us) (q : RVs T g H ds es) : ∀ sp : List (Bool × Nat), RVs T g H (pickL sp as ds) (pickL sp us es)
  | [] => .nil
  | (b, i) :: sp => by
    have ih := rvs_pick r q sp
    unfold pickL at ih ⊢
    rw [List.filterMap_cons, List.filterMap_cons]
    cases b with
    | true =>
      rcases rvls_at r i with ⟨e1, e2⟩ | ⟨x, u, e1, e2, e3⟩
      · simp only [if_pos, e1, e2]
        exact ih
      · simp only [if_pos, e1, e2]
        exact .cons e3 ih
    | false =>
      rcases rvls_at q i with ⟨e1, e2⟩ | ⟨x, u, e1, e2, e3⟩
      · simp only [Bool.false_eq_true, if_false, e1, e2]
        exact ih
      · simp only [Bool.false_eq_true, if_false, e1, e2]
        exact .cons e3 ih
end
/-- called with n by position and k by keywords; dms: what lacks -/
def kwF (sp : List (Bool × Nat)) (dms : List M) (F : Fn) : Fn := fun args hp => F (pickL sp args dms) hp
section
variable {P : Program} {w : World} {mg : Str → Option Value} {base : Heap} {T : Tab}
structure FnKw (P : Program) (w : World) (mg : Str → Option Value) (base : Heap) (T : Tab) (k : Nat) (f : Addr) (n : Nat) (ks : List Str) (F : Fn) : Prop where
  run : ∀ (A : Around) (outer : List Env) (s : Shared) (H : Hp) (us ws : List Value) (vs zs : List V) (Q : VK) (E : XK), RoomG k A → Env0 P w T.K mg base A outer s H → Vals vs us → Vals zs ws → vs.length = n → zs.length = ks.length → spP T F (vs ++ zs) H Q E →
    codeAny (model P w) A (.call (.ref f) ⟨us, ks.zip ws⟩) (CR (L2.CX P w) outer P w H s Q E) s
theorem FnKw.of {k : Nat} {f : Addr} {fd : FuncData} {ps ks : List Str} {F : Fn} {n : Nat} {sp : List (Bool × Nat)} {mv : List Value} {dvs : List V} {dms : List M} (G : FnG P w mg base T k f fd ps F)
    (hb : KBn T.K fd ps n ks (fun us ws => pickL sp (us ++ ws) mv) (fun vs zs => pickL sp (vs ++ zs) dvs)) (hdm : ∀ g H, RVs T g H dms dvs)
    (hlen : ∀ vs zs : List V, vs.length = n → zs.length = ks.length → (pickL sp (vs ++ zs) dvs).length = ps.length) : FnKw P w mg base T k f n ks (kwF sp dms F) := by
  refine ⟨fun A outer s H us ws vs zs Q E hr e0 rv rz l1 l2 ⟨g, hp, args, rh, rs, go⟩ => ?_⟩
  have r2 := hb.rel rv rz
  exact G.run A outer s H ⟨us, ks.zip ws⟩ _ _ Q E hr e0 (hb.to s us ws (e0.mod.kin.keeps fun b o q => (e0.bs b o q).1) (rv.length.symm.trans l1) (rz.length.symm.trans l2)) r2 ⟨hlen vs zs l1 l2, g, hp, pickL sp args dms, rh, rvs_pick rs (hdm g H) sp, go⟩
end
/-! ### such defs -/
end Ma
/-! Ma97: zip of two lists. -/
namespace Ma
open L2 PySem.Spec PySem PyProof.Rows
end Ma
/-! Ma99: a comprehension whose list is changed afterwards. -/
namespace Ma
open L2 PySem.Spec PySem PyProof.Rows
end Ma
/-! Ma100: a list that takes the items of a tuple. -/
namespace Ma
open L2 PySem
end Ma
/-! Ma101: max(xs, key=len) of a list of tuples. -/
namespace Ma
open L2 PySem.Spec PySem PyProof.Rows
end Ma
/-! Ma102: min(xs), max(xs) of a list of data. -/
namespace Ma
open L2 PySem.Spec PySem PyProof.Rows
end Ma
/-! Ma103: sum(xs) of a list of ints. -/
namespace Ma
open L2 PySem.Spec PySem PyProof.Rows
end Ma
/-! Ma104: repr of a list in which dicts of plain keys and values lie beside data. -/
namespace Ma
open L2 PySem.W PySem.Spec PySem PyProof.Rows
section
variable {prog : Program} {w : World} {h₀ : Heap}
/-- each value reads, and what bears a dict is not the modules' -/
inductive EachR (h₀ : Heap) : List Value → List PyData → Prop
  | nil : EachR h₀ [] []
  | cons {v : Value} {vs : List Value} {d : PyData} {ds : List PyData} {as : List Addr} : Reads h₀ v d as → (d.hasDict = true → sysModules ∉ as) → EachR h₀ vs ds → EachR h₀ (v :: vs) (d :: ds)
theorem EachR.all {vs : List Value} {ds : List PyData} (e : EachR h₀ vs ds) : ∃ as, ReadsAll h₀ vs ds as := by
  induction e with
  | nil => exact ⟨[], .nil⟩
  | cons r _ _ ih =>
    obtain ⟨bs, q⟩ := ih
    exact ⟨_, .cons r q⟩
end
section
variable {C : MC} {g g1 : Gh} {H H1 : Hp} {s : MS} {σ : L2.St} {T : Tab}
inductive EachV (K : PySem.W.Frag) (H : Hp) : List V → List PyData → Prop
  | nil : EachV K H [] []
  | dat {v : V} {vs : List V} {d : PyData} {ds : List PyData} : Dp K H v d → d.hasDict = false → EachV K H vs ds → EachV K H (v :: vs) (d :: ds)
  | dict {a : Addr} {vs : List V} {ds : List PyData} {kms : List (Key × M)} {kvs : List (Key × V)} {kd : List (PyData × PyData)} {T : Tab} {g : Gh} : Rd H a (.dK kvs) → RFs T g H kms kvs → kvD kms = some kd → EachV K H vs ds → EachV K H (.ref a :: vs) (.dict kd :: ds)
theorem EachV.reads {X : Cx} {pins : List (Addr × Obj)} {s : Shared} (I : Inv X pins σ H s) {vs : List V} {ds : List PyData} (e : EachV X.K H vs ds) : ∀ {us : List Value}, Vals vs us → EachR s.heap us ds := by
  induction e with
  | nil =>
    intro us h
    cases h
    exact .nil
  | dat d h _ ih =>
    intro us hv
    cases hv with
    | cons r rs =>
      obtain ⟨as, q⟩ := Dp.reads I _ _ _ d r
      exact .cons q (fun z => by rw [h] at z; cases z) (ih rs)
  | @dict a vs ds kms kvs kd T g hr rf hk _ ih =>
    intro us hv
    cases hv with
    | cons r rs =>
      rename_i u us'
      obtain rfl : u = .ref a := r
      obtain ⟨hz, hs, ws, kv, o, es, ep, ho, he, hd, ha, hp, nd⟩ := dk_rd I.hok hr
      obtain ⟨k1, k2⟩ := kvD_reads (hp := s.heap) hk rf kv hp
      have R : Reads s.heap (.ref a) (.dict kd) (a :: [] ++ []) := .dict ho he.1 hd k1 k2
      refine .cons R (fun _ z => ?_) (ih rs)
      have e : sysModules = a := by simpa using z
      rw [← e] at hs
      simp at hs
end
end Ma
/-! Ma105: module constants that are tuples of ints and texts: in, not in; abs. -/
namespace PySem.SeqAt
open PySem.Spec PyProof PySem PyProof.Rows
end PySem.SeqAt
namespace Ma
open L2 PySem.W PySem.Spec PySem PyProof.Rows
end Ma
/-! Ma106: a list from its end to its start. -/
namespace Ma
open L2 HT PySem.W PySem.Spec PySem PyProof.Rows
end Ma
/-! Ma107: sorted(xs, key=f) and sorted(xs, key=f, reverse=True) by a def of the text whose keys are ints. -/
namespace Ma
open L2 PySem.W PySem.Spec PySem PySem.Calls PyProof.Rows
section
variable {C : MC} {g : Gh} {H : Hp} {σ : L2.St} {k : Nat} {f : Addr} {F : Fn} {pins : List (Addr × Obj)} {sh s : Shared} {env : List (Option M)} {hp hp' : List Cell}
theorem FpOk.at {H H' : Hp} {X : Cx} {b : Addr} (f : FpOk X pins H b) (h : H' b = none) : FpOk X pins H' b := ⟨h, f.2⟩
/-! ### the expression -/
variable {ex : Expr} {a : ME} {fn : Str} {p p2 p3 pos kp kp2 : Pos} {j : Nat} {b : Bool}
/-! ### key=abs -/
end
end Ma
/-! Ma108: i // j of either sign; in, not in of a tuple of data. -/
namespace Ma
open L2 PySem.Spec PySem PyProof.Rows
end Ma
/-! Ma109: a tuple made by tuple(xs), kept in a box; dict() of it. -/
namespace Ma
open L2 PySem.W PySem.Spec PySem PyProof.Rows
section
variable {X : Cx} {C : MC} {pins : List (Addr × Obj)} {σ : L2.St} {H : Hp} {s : Shared}
def rTupP (K : PySem.W.Frag) : RC := fun xs H Q => ∃ p ys, xs = [.ref p] ∧ SqL K H p ys ∧ ∀ l (o : Obj), H l = none → o.cls = .type "tuple" → o.dict = none → Q (.ref l) (upd H l (.frz o (.tup ys)))
theorem cr_tupP : CallR X (.type "tuple") (rTupP X.K) := fun pins s σ H xs us Q I r h => by
  obtain ⟨p, ys, rfl, hq, q⟩ := h
  obtain ⟨u, rfl, rx⟩ := vals1 r
  cases rx
  obtain ⟨its, rv, pl, hz⟩ := I.list hq
  have ln := rv.length
  refine call_tuple_list pl.isList (fun h' kp => ?_) (by simp only [List.size_toArray]; omega)
  have J : Inv X pins σ H { s with heap := h' } := I.kept (t' := s.toks) kp
  have gt : (h'.push { cls := .type "tuple", data := .seq its.toArray }).get? h'.objs.size = some { cls := .type "tuple", data := .seq its.toArray } := Heap.get?_push_size _ rfl
  exact ⟨.ref h'.objs.size, _, J.laid (o := .frz { cls := .type "tuple", data := .seq its.toArray } (.tup ys)) (t' := s.toks) (fun b o e => Heap.get?_push_of_some _ e) (Nat.le_refl _) ⟨gt, hz, its, rv, IsTup.new _ _⟩, rfl, q _ _ (J.hok.fresh (Nat.le_refl _)) rfl rfl⟩
def cTupP (ms : List M) (s : MS) : Res M := match ms with
  | [x] => match seqL s.hp x with
    | some xs => .ok (.box s.hp.length) ⟨s.env, s.hp ++ [.tP xs]⟩
    | none => .stuck
  | _ => .stuck
theorem ok_tupP : CallOk C (rTupP C.X.K) cTupP := fun σ H g s ms xs Q r rs h => by
  unfold cTupP at h
  split at h
  · rename_i x
    split at h
    · rename_i ys hy
      cases rs with
      | cons r1 r2 =>
        cases r2
        obtain ⟨q, vs, rfl, hq, rv⟩ := seqL_at r hy r1
        refine ⟨q, vs, rfl, hq, fun p o hn h1 h2 => ?_⟩
        obtain ⟨r3, mo⟩ := r.box (o := .frz o (.tup vs)) (c := .tP ys) hn fun g' mo => ⟨o, vs, h1, h2, upd_same, rv.mono mo⟩
        exact h (g.box p) _ _ mo r3 (boxAt r.h)
    · exact h.elim
  · exact h.elim
/-! ### dict of such a tuple -/
theorem pairs_pv (I : Inv X pins σ H s) : ∀ {ps : List Addr} {kvs : List (Key × V)}, Paired (fun p kv => SqT X.K H p [kV kv.1, kv.2]) ps kvs →
    ∃ (prs : List (Key × Value)) (pv : List (Value × Value)), KV kvs prs ∧ prs.length = ps.length ∧ pv.length = ps.length ∧
      ∀ (j : Nat) (u v : Value), pv[j]? = some (u, v) → ∃ (b : Addr) (k : Key), ps[j]? = some b ∧ prs[j]? = some (k, v) ∧ keyIs k u = true ∧ IsTup s.heap b #[u, v]
  | _, _, .nil => ⟨[], [], .nil, rfl, rfl, fun j u v e => by simp at e⟩
  | _, _, .cons (a := p) (b := kv) h t => by
    obtain ⟨prs, pv, r, l1, l2, hp⟩ := pairs_pv I t
    obtain ⟨its, rv, ht, _⟩ := I.tuple h
    obtain ⟨u, y, rfl, ru, ry⟩ := vals2 rv
    refine ⟨(kv.1, y) :: prs, (u, y) :: pv, .cons ⟨rfl, ry⟩ r, by simp [l1], by simp [l2], fun j u' v' e => ?_⟩
    cases j with
    | zero =>
      have e1 : u = u' ∧ y = v' := by simpa using e
      obtain ⟨rfl, rfl⟩ := e1
      exact ⟨p, kv.1, rfl, rfl, kV_is (P := X.prog) (w := X.w) ru, ht⟩
    | succ j => simpa using hp j u' v' (by simpa using e)
def rDictTP (K : PySem.W.Frag) : RC := fun xs H Q => ∃ (a : Addr) (ob : Obj) (ps : List Addr) (kvs : List (Key × V)), xs = [.ref a] ∧ ob.cls = .type "tuple" ∧ ob.dict = none ∧ H a = some (.frz ob (.tup (ps.map V.ref))) ∧ Paired (fun p kv => SqT K H p [kV kv.1, kv.2]) ps kvs ∧ ∀ p, H p = none → Q (.ref p) (upd H p (.dK (mergeK [] kvs)))
theorem cr_dictTP (hcalm : X.calm = true) : CallR X (.type "dict") (rDictTP X.K) := fun pins s σ H xs us Q I r q => by
  obtain ⟨a, ob, ps, kvs, rfl, hc, hd, eH, hp, q⟩ := q
  obtain ⟨u, rfl, rx⟩ := vals1 r
  cases rx
  obtain ⟨ho, hz, its, rv, o', ho', _, n, hdat⟩ := I.hok _ _ eH
  have eo : ob = o' := Option.some.inj (ho.symm.trans ho')
  subst eo
  have ei := refs_at rv
  subst ei
  rw [List.length_map] at hz
  obtain ⟨prs, pv, rel, l1, l2, hpv⟩ := pairs_pv I hp
  refine PySem.call_dict_pairs (knd := mixKind X.prog X.w) (kvs := prs) (PairArg.tuple a (ps.map Value.ref).toArray (fun j => (ps[j]?).getD 0) pv) (I.ok.hd hcalm) ⟨⟨ob, n, ho, hc, hd, hdat⟩, by simp [l2], fun j k v e => ?_⟩ ⟨by omega, fun i key v e => ?_⟩ (by omega) fun h' tk hd' kp => ?_
  · obtain ⟨b, k', e1, e2, e3, e4⟩ := hpv j k v e
    refine ⟨by simp [e1], ?_⟩
    dsimp only
    rw [e1]
    exact .inl e4
  · obtain ⟨b, k', e1, e2, e3, e4⟩ := hpv i key v e
    exact ⟨k', e2, e3⟩
  · have hm : (s.heap.objs.size == sysModules) = false := beq_eq_false_iff_ne.mpr (Nat.ne_of_gt I.big)
    have hlen : (mergeK [] kvs).length ≤ sizeLine := by
      have := length_mergeK kvs []
      have := rel.length
      simp at *
      omega
    exact ⟨.ref s.heap.objs.size, _, I.laid (o := .dK (mergeK [] kvs)) (t' := tk) (fun b o e => kp b o (by simp) e) (Nat.le_refl _) ⟨hlen, hm, merged [] prs, KV.merge rel .nil, hd'⟩, rfl, q _ (I.hok.fresh (Nat.le_refl _))⟩
def cDictT (o : List M → MS → Res M) (ms : List M) (s : MS) : Res M := match ms with
  | [.box n] => match s.hp[n]? with
    | some (.tP xs) => match pairsM xs with
      | some ps => .ok (.box s.hp.length) ⟨s.env, s.hp ++ [.dK (mergeM [] ps)]⟩
      | none => .stuck
    | _ => o ms s
  | _ => o ms s
theorem ok_dictT {R : RC} {o : List M → MS → Res M} (hoo : CallOk C R o) : CallOk C (fun vs H Q => rDictTP C.X.K vs H Q ∨ R vs H Q) (cDictT o) := fun σ H g s ms xs Q r rs h => by
  unfold cDictT at h
  split at h
  · rename_i n
    split at h
    · rename_i ys hy
      split at h
      · rename_i ps hps
        cases rs with
        | cons r1 r2 =>
          cases r2
          cases r1 with
          | @box _ a e =>
            obtain ⟨ob, vs, h1, h2, h3, rv⟩ := r.h.cell n _ a hy e
            obtain ⟨as, kvs, rfl, pr, rf⟩ := pairsM_at rv hps
            refine .inl ⟨a, ob, as, kvs, rfl, h1, h2, h3, paired_imp (fun p kv e => .inl (.inl e)) pr, fun p hn => ?_⟩
            obtain ⟨r2, mo⟩ := r.box (o := .dK (mergeK [] kvs)) (c := .dK (mergeM [] ps)) hn fun g' mo => ⟨_, upd_same, (rf.mono mo).merge .nil⟩
            exact h (g.box p) _ _ mo r2 (boxAt r.h)
      · exact h.elim
    · exact .inr (hoo σ H g s _ xs Q r rs h)
  · exact .inr (hoo σ H g s _ xs Q r rs h)
end
end Ma
/-! Ma110: o.m(..) of own instances, by the class that o has. -/
namespace Ma
open L2 PySem.W PySem.Spec PySem PyProof.Rows
/-- the own class named c has, itself or from a base, a def under this name -/
structure KnMe (P : Program) (w : World) (mg : Str → Option Value) (base : Heap) (T : Tab) (c m : Str) (k : Nat) (F : Fn) : Prop where
  ex : ∀ A, T.ad c = some A → ∃ f : Addr, FnP P w mg base T k f F ∧ Cls T.K A ∧ Meth T.K A m f
/-- the same for each class of a table -/
structure KnMs (P : Program) (w : World) (mg : Str → Option Value) (base : Heap) (T : Tab) (m : Str) (k : Nat) (tbl : List (Str × Fn)) : Prop where
  all : ∀ c F, tbl.lookup c = some F → KnMe P w mg base T c m k F
theorem KnMs.nil {P : Program} {w : World} {mg : Str → Option Value} {base : Heap} {T : Tab} {m : Str} {k : Nat} : KnMs P w mg base T m k [] := ⟨fun c F h => by cases h⟩
theorem KnMe.up {P : Program} {w : World} {mg : Str → Option Value} {base : Heap} {T : Tab} {c m : Str} {k k' : Nat} {F : Fn} (h : KnMe P w mg base T c m k F) (le : ∀ A, RoomG k' A → RoomG k A) : KnMe P w mg base T c m k' F := ⟨fun A ad => by
  obtain ⟨f, G, cl, me⟩ := h.ex A ad
  exact ⟨f, ⟨fun A' o s H us vs Q E hr => G.run A' o s H us vs Q E (le _ hr)⟩, cl, me⟩⟩
theorem KnMs.cons {P : Program} {w : World} {mg : Str → Option Value} {base : Heap} {T : Tab} {c m : Str} {k : Nat} {F : Fn} {tbl : List (Str × Fn)} (h : KnMe P w mg base T c m k F) (t : KnMs P w mg base T m k tbl) : KnMs P w mg base T m k ((c, F) :: tbl) := ⟨fun c' F' e => by
  rw [List.lookup_cons] at e
  by_cases z : c' == c
  · rw [z] at e
    cases e
    rw [beq_iff_eq.mp z]
    exact h
  · rw [Bool.eq_false_iff.mpr z] at e
    exact t.all c' F' e⟩
section
variable {C : MC} {g g1 : Gh} {H H1 : Hp} {s : MS} {σ : L2.St} {e o ex : Expr} {es : List Expr} {a : ME} {ma : MA} {pos apos : Pos} {x c m : Str} {k : Nat} {F : Fn} {pins : List (Addr × Obj)} {sh : Shared} {tbl : List (Str × Fn)}
theorem rfs_look_none {fms : List (Str × M)} {fvs : List (Str × V)} {T : Tab} (r : RFs T g H fms fvs) (h : fms.lookup m = none) : fvs.lookup m = none := by
  induction r with
  | nil => rfl
  | @cons j y v fs vs q t ih =>
    rw [List.lookup_cons] at h ⊢
    by_cases z : m == j
    · rw [z] at h; cases h
    · rw [Bool.eq_false_iff.mpr z] at h ⊢
      exact ih h
/-- who is asked -/
def methOf (m : Str) (tbl : List (Str × Fn)) (x : M) (s : MS) : Option Fn := match x with
  | .box n => match s.hp[n]? with
    | some (.ins c fms) => if fms.lookup m = none then tbl.lookup c else none
    | _ => none
  | _ => none
def mOwn (m : Str) (tbl : List (Str × Fn)) (a : ME) (ma : MA) : ME := fun s => (a s).bind fun x s1 => match methOf m tbl x s1 with
  | some F => (ma s1).bind fun xs s2 => upF s2.env (F (x :: xs) s2.hp)
  | none => .stuck
theorem methOf_at {y : M} {v : V} {F : Fn} (I : Inv C.X pins σ H sh) (r : C.rel g s σ H) (rv : RV C.T g H y v) (h : methOf m tbl y s = some F) (K : KnMs C.X.prog C.X.w C.X.mg C.X.base C.T m k tbl) :
    ∃ p A dx fvs f, v = .ref p ∧ H p = some (.ins A dx fvs) ∧ fvs.lookup m = none ∧ FnP C.X.prog C.X.w C.X.mg C.X.base C.T k f F ∧ Cls C.X.K A ∧ Meth C.X.K A m f := by
  unfold methOf at h
  split at h
  · rename_i n
    split at h
    · rename_i c fms hc
      split at h
      · rename_i hn
        obtain ⟨p, A, dx, fvs, _, _, rfl, ad, e, rf, _, _⟩ := ins_at I r hc rv
        obtain ⟨f, G, cl, me⟩ := (K.all c F h).ex A ad
        exact ⟨p, A, dx, fvs, f, rfl, e, rfs_look_none rf hn, G, C.hK ▸ cl, C.hK ▸ me⟩
      · cases h
    · cases h
  · cases h
theorem rdA_keep {y : M} {v : V} {f : List M → MS → Res M} {Q : VK} (r : C.rel g s σ H) (ry : RV C.T g H y v) (q : Go C C.V1 σ ((ma s).bind f) g H Q) :
    rdA C ma σ H fun xs H1 => ∃ ms s1 g1, C.rel g1 s1 σ H1 ∧ RVs C.T g1 H1 ms xs ∧ RV C.T g1 H1 y v ∧ Go C C.V1 σ (f ms s1) g1 H1 Q := by
  refine ⟨g, s, r, (Go.bind (R := C.Vn) q).imp ?_⟩
  rintro x H1 ⟨m, s1, g1, mo, r1, rv, q1⟩
  exact ⟨m, s1, g1, r1, rv, ry.mono mo, q1⟩
theorem em_meth {pl : Sem Bool} (K : KnMs C.X.prog C.X.w C.X.mg C.X.base C.T m k tbl) (hr : RoomG k C.X.A) (tk : Takes C.X C.W) (ha : PMe C o a) (hm : PMa C (e :: es) ma)
    (hst : starEach (e :: es) C.X.env = (false, eval e C.X.env) :: starEach es C.X.env := by rfl) (hpl : (backTo pos (starEach es C.X.env)).any (·.1) = false := by rfl)
    (ht : eval (.Call (.Attribute o m apos) (e :: es) [] pos) C.X.env = (do
      let ov ← eval o C.X.env
      standAt apos.atName
      let (f, first) ← PySem.holding [ov] (getMethod ov m pl)
      callWith pos f first (backTo pos (starEach (e :: es) C.X.env)) (backToKw pos (keywordEach [] C.X.env))) := by rfl) :
    PMe C (.Call (.Attribute o m apos) (e :: es) [] pos) (mOwn m tbl a ma) := by
  refine ⟨fun pins sh σ H Q I q => ?_⟩
  refine PySem.W.methodCall_KW (pl := pl) (thn (ha.run pins sh σ H _ I (rdE_bind q)) fun u s1 hh => ?_) ht
  obtain ⟨v, H1, I1, l1, y, ms1, g1, r1, ry, q1⟩ := hh
  split at q1
  · rename_i F hF
    obtain ⟨p, A, dx, fvs, f, rfl, eH, ln, G, cl, me⟩ := methOf_at I1 r1 ry hF K
    obtain rfl : u = Value.ref p := l1
    refine getmeth_ok I1 eH cl me ln ?_
    refine PySem.W.callWith_K (first := [.ref p]) (h₀ := C.X.base) I.ok.mod.kin me.kp (thn (hm.run pos pins s1 σ H1 _ I1 (rdA_keep r1 ry q1)) fun us s2 hh => ?_) hst hpl
    obtain ⟨vs, H2, I2, rvs, xs, ms2, g2, r2, rxs, ry2, q2⟩ := hh
    exact ⟨I2.kIn, run_p (us := .ref p :: us) G hr tk I2 r2 (.cons ry2 rxs) (.cons rfl rvs) q2⟩
  · exact q1.elim
theorem em_meth0 {pl : Sem Bool} (K : KnMs C.X.prog C.X.w C.X.mg C.X.base C.T m k tbl) (hr : RoomG k C.X.A) (tk : Takes C.X C.W) (ha : PMe C o a)
    (ht : eval (.Call (.Attribute o m apos) [] [] pos) C.X.env = (do
      let ov ← eval o C.X.env
      standAt apos.atName
      let (f, first) ← PySem.holding [ov] (getMethod ov m pl)
      callWith pos f first (backTo pos (starEach [] C.X.env)) (backToKw pos (keywordEach [] C.X.env))) := by rfl) :
    PMe C (.Call (.Attribute o m apos) [] [] pos) (mOwn m tbl a mNil) := by
  refine ⟨fun pins sh σ H Q I q => ?_⟩
  refine PySem.W.methodCall_KW (pl := pl) (thn (ha.run pins sh σ H _ I (rdE_bind q)) fun u s1 hh => ?_) ht
  obtain ⟨v, H1, I1, l1, y, ms1, g1, r1, ry, q1⟩ := hh
  split at q1
  · rename_i F hF
    obtain ⟨p, A, dx, fvs, f, rfl, eH, ln, G, cl, me⟩ := methOf_at I1 r1 ry hF K
    obtain rfl : u = Value.ref p := l1
    refine getmeth_ok I1 eH cl me ln ?_
    exact PySem.W.callWith_K0 (first := [.ref p]) I1.kIn me.kp (run_p (us := [.ref p]) G hr tk I1 r1 (.cons ry .nil) (.cons rfl .nil) q1)
  · exact q1.elim
end
end Ma
/-! Ma111: C() of an own class without __init__; the head's facts of inherited methods. -/
namespace Ma
open L2 PySem.W PySem.Spec PySem PyProof.Rows
/-- an own class that has no __init__ but object's -/
structure KnO (mg : Str → Option Value) (T : Tab) (c : Str) : Prop where
  ex : ∃ A, T.ad c = some A ∧ mg c = some (.ref A) ∧ makesIn T.K A = true ∧ findIn T.K (.ref A) "__init__" = some (some (.builtin "object.__init__")) ∧ keepIn T.K (.ref A) = true
section
variable {C : MC} {g : Gh} {H : Hp} {s : MS} {σ : L2.St} {pos p : Pos} {x c : Str} {pins : List (Addr × Obj)} {sh : Shared} {A : Addr}
def mMkO (c : Str) : ME := fun s => .ok (.box s.hp.length) ⟨s.env, s.hp ++ [.ins c []]⟩
theorem run_mkO {Q : VK} (ad : C.T.ad c = some A) (hm : makesIn C.X.K A = true) (hi : findIn C.X.K (.ref A) "__init__" = some (some (.builtin "object.__init__")))
    (I : Inv C.X pins σ H sh) (r : C.rel g s σ H) (h : Go C C.V1 σ (mMkO c s) g H Q) : wpAny (model C.X.prog C.X.w) C.X.A (call (.ref A) []) (EP C.X pins σ Q) C.X.xe sh := by
  have hd : H sh.heap.objs.size = none := I.hok.fresh (Nat.le_refl _)
  have hp : H (sh.heap.objs.size + 1) = none := I.hok.fresh (Nat.le_succ _)
  have ne : sh.heap.objs.size + 1 ≠ sh.heap.objs.size := Nat.succ_ne_self _
  have J := Inv.made (C := A) I
  have r1 : C.rel g s σ (upd H sh.heap.objs.size (.own (sh.heap.objs.size + 1))) := r.laid hd
  have mo1 : Mono g H g (upd H sh.heap.objs.size (.own (sh.heap.objs.size + 1))) := mono_laid r.h hd
  obtain ⟨r2, mo2⟩ := Rel.box (o := .ins A sh.heap.objs.size []) (c := .ins c []) r1 (p := sh.heap.objs.size + 1) (by rw [upd_ne ne]; exact hp) fun g' mo => ⟨A, _, [], ad, upd_same, .nil⟩
  have rb : RV C.T (g.box (sh.heap.objs.size + 1)) (upd (upd H sh.heap.objs.size (.own (sh.heap.objs.size + 1))) (sh.heap.objs.size + 1) (.ins A sh.heap.objs.size [])) (.box s.hp.length) (.ref (sh.heap.objs.size + 1)) :=
    .box (by show (g.ro ++ [sh.heap.objs.size + 1])[s.hp.length]? = some _; rw [← r.h.len, List.getElem?_concat_length])
  have q := h (g.box (sh.heap.objs.size + 1)) _ _ (mo1.trans mo2) r2 rb
  have kin := I.kIn
  obtain ⟨hh, gg, dd, tt, os⟩ := sh
  have Y := makes_of (M := model C.X.prog C.X.w) kin hm
  refine wpAny_call (make_map0 kin hm hi (fun self => Looks.of_pure (oi_bind self)) ?_)
  have g1 : ((hh.push emptyDict).push (instObj A hh.objs.size)).get? (hh.objs.size + 1) = some (instObj A hh.objs.size) := by
    have := Heap.get?_push_size (hh.push emptyDict) (o := instObj A hh.objs.size) rfl
    rwa [Heap.size_push] at this
  have t1 : Looks (model C.X.prog C.X.w) ((hh.push emptyDict).push (instObj A hh.objs.size)) (typeOf (.ref (hh.objs.size + 1))) (.ref A) := (Looks.ld g1).andThen .now
  have t2 : Looks (model C.X.prog C.X.w) ((hh.push emptyDict).push (instObj A hh.objs.size)) (isInstance (.ref (hh.objs.size + 1)) (.type "object")) true := t1.andThen (Y.top.keeps fun b o e => Heap.get?_push_of_some _ (Heap.get?_push_of_some _ e))
  refine codeAny_call_builtin oi_plain entry_oi (@check_slot (model C.X.prog C.X.w) _ _ _ "object.__init__" "object" "__init__" (.ref (hh.objs.size + 1)) [] [] _ oi_kind oi_split t2 (oi_args (.ref (hh.objs.size + 1))) ?_)
  rw [oi_run]
  exact wpAny_pure ⟨rfl, ⟨.ref (hh.objs.size + 1), _, J, rfl, q⟩⟩
theorem em_mkO (h : KnO C.X.mg C.T x) (hg : Gl C.X x := by rfl) (hdb : (x == ("__debug__" : Str)) = false := by decide) : PMe C (.Call (.Name x p) [] [] pos) (mMkO x) := by
  obtain ⟨A, ad, hm, mk, ini, kp⟩ := h.ex
  refine ⟨fun pins sh σ H Q I q => wpAny_Call_Name_kw (ld_glob I hg hm ?_ hdb)⟩
  obtain ⟨g, s, r, q⟩ := q
  exact callWith_K0 I.kIn (C.hK ▸ kp) (run_mkO ad (C.hK ▸ mk) (C.hK ▸ ini) I r q)
end
/-! ### at the head -/
def meB (K : Frag) (A : Addr) (m : Str) (f : Addr) : Bool := clsB K A && (eqb (findIn K (.ref A) m) (some (some (.ref f))) && (isFn K (.ref f) && keepIn K (.ref f)))
def mkOB (K : Frag) (A : Addr) : Bool := makesIn K A && (eqb (findIn K (.ref A) "__init__") (some (some (.builtin "object.__init__"))) && keepIn K (.ref A))
section
variable {P : Program} {w : World} {mg : Str → Option Value} {base : Heap} {K : Frag} {cs : List Str} {tb : List (Addr × Str)} {k : Nat} {F : Fn} {c : Str} {f : Addr}
theorem knMe_of {m : Str} (h : meB K (He.ga K c) m f = true) (fp : FnP P w mg base ⟨K, adOf K cs, tb⟩ k f F) : KnMe P w mg base ⟨K, adOf K cs, tb⟩ c m k F := ⟨fun A e => by
  rw [adOf_at (show adOf K cs c = some A from e)]
  obtain ⟨h0, h⟩ := Bool.and_eq_true_iff.mp h
  obtain ⟨h1, h⟩ := Bool.and_eq_true_iff.mp h
  obtain ⟨h2, h3⟩ := Bool.and_eq_true_iff.mp h
  exact ⟨f, fp, clsB_ok h0, ⟨eqb_ok h1, h2, h3⟩⟩⟩
theorem knO_of (hc : cs.contains c = true) (hg : mg c = some (.ref (He.ga K c))) (h : mkOB K (He.ga K c) = true) : KnO mg ⟨K, adOf K cs, tb⟩ c := by
  obtain ⟨h0, h⟩ := Bool.and_eq_true_iff.mp h
  obtain ⟨h1, h2⟩ := Bool.and_eq_true_iff.mp h
  exact ⟨_, adOf_mem hc, hg, h0, eqb_ok h1, h2⟩
end
end Ma
/-! Ma112: an own instance called; a class's text read through an instance. -/
namespace Ma
open L2 PySem.W PySem.Spec PySem PyProof.Rows
/-- instances of these classes may be called -/
structure KnCs (P : Program) (w : World) (mg : Str → Option Value) (base : Heap) (T : Tab) (k : Nat) (tbl : List (Str × Fn)) : Prop where
  all : ∀ c F, tbl.lookup c = some F → ∀ A, T.ad c = some A → ∃ f : Addr, FnP P w mg base T k f F ∧ StX.CallO T.K A f
structure ConT (T : Tab) (f : Str) (tbl : List (Str × Str)) : Prop where
  all : ∀ c z, tbl.lookup c = some z → ∀ A, T.ad c = some A → Cls T.K A ∧ ∃ t, Con T.K A f (.str z) (.str z t)
section
variable {C : MC} {g g1 : Gh} {H H1 : Hp} {s : MS} {σ : L2.St} {e o ex fe : Expr} {es : List Expr} {a : ME} {ma : MA} {pos apos : Pos} {x c f : Str} {k : Nat} {F : Fn} {pins : List (Addr × Obj)} {sh : Shared} {tbl : List (Str × Fn)} {tbs : List (Str × Str)}
def callOf (tbl : List (Str × Fn)) (x : M) (s : MS) : Option Fn := match x with
  | .box n => match s.hp[n]? with
    | some (.ins c _) => tbl.lookup c
    | _ => none
  | _ => none
/-- the callee is looked at when its arguments stand -/
def mCallI (tbl : List (Str × Fn)) (a : ME) (ma : MA) : ME := fun s => (a s).bind fun x s1 => match callOf tbl x s1 with
  | none => .stuck
  | some _ => (ma s1).bind fun xs s2 => match callOf tbl x s2 with
    | some F => upF s2.env (F (x :: xs) s2.hp)
    | none => .stuck
theorem callOf_at {y : M} {v : V} {F : Fn} (I : Inv C.X pins σ H sh) (r : C.rel g s σ H) (rv : RV C.T g H y v) (h : callOf tbl y s = some F) (K : KnCs C.X.prog C.X.w C.X.mg C.X.base C.T k tbl) :
    ∃ p A dx fvs f, v = .ref p ∧ H p = some (.ins A dx fvs) ∧ FnP C.X.prog C.X.w C.X.mg C.X.base C.T k f F ∧ StX.CallO C.X.K A f := by
  unfold callOf at h
  split at h
  · rename_i n
    split at h
    · rename_i c fms hc
      obtain ⟨p, A, dx, fvs, _, _, rfl, ad, e, rf, _, _⟩ := ins_at I r hc rv
      obtain ⟨f, G, co⟩ := K.all c F h A ad
      exact ⟨p, A, dx, fvs, f, rfl, e, G, C.hK ▸ co⟩
    · cases h
  · cases h
theorem em_callI (K : KnCs C.X.prog C.X.w C.X.mg C.X.base C.T k tbl) (hr : RoomG k C.X.A) (tk : Takes C.X C.W) (ha : PMe C fe a) (hm : PMa C (e :: es) ma)
    (ht : eval (.Call fe (e :: es) [] pos) C.X.env = (do callWith pos (← eval fe C.X.env) [] (backTo pos (starEach (e :: es) C.X.env)) (backToKw pos (keywordEach [] C.X.env))) := by rfl)
    (he : starEach (e :: es) C.X.env = (false, eval e C.X.env) :: starEach es C.X.env := by rfl) (hpl : (backTo pos (starEach es C.X.env)).any (·.1) = false := by rfl) :
    PMe C (.Call fe (e :: es) [] pos) (mCallI tbl a ma) := by
  refine ⟨fun pins sh σ H Q I q => ?_⟩
  refine Call_ (thn (ha.run pins sh σ H _ I (rdE_bind q)) fun u s1 hh => ?_) ht
  obtain ⟨v, H1, I1, l1, y, ms1, g1, r1, ry, q1⟩ := hh
  split at q1
  · exact q1.elim
  · rename_i F0 h0
    obtain ⟨p, _, _, _, _, rfl, _, _, _⟩ := callOf_at I1 r1 ry h0 K
    obtain rfl : u = Value.ref p := l1
    refine StX.callO_with (thn (hm.run pos pins s1 σ H1 _ I1 (rdA_keep r1 ry q1)) fun us s2 hh => ?_) he hpl
    obtain ⟨vs, H2, I2, rvs, xs, ms2, g2, r2, rxs, ry2, q2⟩ := hh
    split at q2
    · rename_i F hF
      obtain ⟨p', A, dx, fvs, f, ep, eH, G, co⟩ := callOf_at I2 r2 ry2 hF K
      cases ep
      obtain ⟨ox, od, J, hd⟩ := StX.insC_at I2 (.inr ⟨dx, fvs, eH⟩)
      exact ⟨⟨A, ox, od, J, hd⟩, wpAny_call (kco_code I2.kIn J hd co.at_ co.fn co.fi (codeAny_mono (G.run C.X.A C.X.stack s2 H2 (Value.ref p :: us) (V.ref p :: vs) Q _ hr (C.hK ▸ I2.env0) (.cons rfl rvs) (sp_up r2 (.cons ry2 rxs) q2)) fun res s' hq => by
        cases res with
        | error x => exact tk x s' (XE.of_call I2 (fun _ _ _ z => z) hq)
        | ok fl =>
          cases fl with
          | ret u => exact I2.after hq
          | next => exact hq.elim
          | brk => exact hq.elim
          | cont => exact hq.elim))⟩
    · exact q2.elim
def conOf (f : Str) (tbs : List (Str × Str)) (x : M) (s : MS) : Option Str := match x with
  | .box n => match s.hp[n]? with
    | some (.ins c fms) => if fms.lookup f = none then tbs.lookup c else none
    | _ => none
  | _ => none
def mCon (f : Str) (tbs : List (Str × Str)) (a : ME) : ME := fun s => (a s).bind fun x s1 => match conOf f tbs x s1 with
  | some z => .ok (.str z) s1
  | none => .stuck
theorem em_con (K : ConT C.T f tbs) (h : PMe C ex a) (hb : attributeBase ex f C.X.env (eval ex C.X.env) = eval ex C.X.env := by rfl) : PMe C (.Attribute ex f pos) (mCon f tbs a) := by
  refine ⟨fun pins sh σ H Q I q => ?_⟩
  refine attr_of hb (thn (h.run pins sh σ H _ I (rdE_bind q)) fun u s1 hh => ?_)
  obtain ⟨v, H1, I1, l1, y, ms1, g1, r1, ry, q1⟩ := hh
  split at q1
  · rename_i z hz
    unfold conOf at hz
    split at hz
    · rename_i n
      split at hz
      · rename_i c fms hc
        split at hz
        · rename_i hn
          obtain ⟨p, A, dx, fvs, _, _, rfl, ad, eH, rf, _, _⟩ := ins_at I1 r1 hc ry
          obtain ⟨cl, t, co⟩ := K.all c z hz A ad
          obtain rfl : u = Value.ref p := l1
          exact getcon_ok I1 eH (C.hK ▸ cl) (C.hK ▸ co) (rfs_look_none rf hn) fun s2 I2 => ⟨.str z, H1, I2, co.rel, q1 _ _ _ (Mono.refl _ _) r1 (.str _)⟩
        · cases hz
      · cases hz
    · cases hz
  · exact q1.elim
end
end Ma
/-! Ma113: class methods called; a class in a name called; x += y by an own __iadd__; tuple(range(n)). -/
namespace Ma
open L2 PySem.W PySem.Spec PySem PyProof.Rows
/-! ### at the head -/
theorem cread_ok {K : Frag} {A : Addr} (h : readsIn K A (.type "type") = true) : ClX.CRead K A (.type "type") := by
  refine ⟨h, ?_⟩
  unfold readsIn at h
  obtain ⟨h, _⟩ := Bool.and_eq_true_iff.mp h
  obtain ⟨h, _⟩ := Bool.and_eq_true_iff.mp h
  obtain ⟨h, h3⟩ := Bool.and_eq_true_iff.mp h
  obtain ⟨_, h2⟩ := Bool.and_eq_true_iff.mp h
  unfold specialIn
  rw [beq_iff_eq.mp h2, Option.bind_some]
  exact beq_iff_eq.mp h3
end Ma
/-! Ma114: a dict != a tuple. -/
namespace PySem.SeqAt
open PySem.Spec PyProof PySem PyProof.Rows
end PySem.SeqAt
namespace Ma
open L2 PySem.W PySem.Spec PySem PyProof.Rows
end Ma
/-! Ma115: list comprehensions with two fors. -/
namespace Ma
open L2 PySem.Spec PySem PyProof.Rows
end Ma
/-! Ma116: comprehensions with two fors, as expressions and as statements. -/
namespace Ma
open L2 PySem.Spec PySem PyProof.Rows
end Ma
/-! Ma117: tuple(d.items()) kept in a box; walks over such tuples, len, ==, repr of what holds them; del d[k]; targets within a comprehension's targets. -/
namespace Ma
open L2 PySem.W PySem.Spec PySem PyProof.Rows
section
variable {C : MC} {g g1 : Gh} {H H1 : Hp} {s : MS} {σ : L2.St} {ea eb ex eo ei tg : Expr} {es : List Expr} {a b : ME} {ma : MA} {pos p apos cpos tpos : Pos} {x c name f : Str} {k : Nat} {F : Fn} {pins : List (Addr × Obj)} {sh : Shared} {T : Tab}
/-! ### tuple(d.items()) into a box -/
def oItemsB (m : M) (s : MS) : Res M := match dictL s.hp m with
  | some kms => if kms.length ≤ big then .ok (.box s.hp.length) ⟨s.env, s.hp ++ [.tP (itemsM kms)]⟩ else .stuck
  | none => .stuck
def mItemsB (a : ME) : ME := fun s => (a s).bind oItemsB
theorem em_tupItemsB (hc : C.X.calm = true) (he : PMe C ex a) (hm : C.X.mg "tuple" = none) (hg : Gl C.X "tuple" := by rfl) (hv : bootBuiltins "tuple" = some (.type "tuple") := by first | rfl | decide +kernel) (hbase : attributeBase ex "items" C.X.env (eval ex C.X.env) = eval ex C.X.env := by rfl) (hline : (apos.endLine == cpos.line) = true := by rfl)
    (hs : starEach [.Call (.Attribute ex "items" apos) [] [] cpos] C.X.env = (false, eval (.Call (.Attribute ex "items" apos) [] [] cpos) C.X.env) :: starEach [] C.X.env := by rfl) :
    PMe C (.Call (.Name "tuple" p) [.Call (.Attribute ex "items" apos) [] [] cpos] [] pos) (mItemsB a) := by
  refine ⟨fun pins sh σ H Q I hq => ?_⟩
  refine wpAny_Call_Name_kw (ld_blt I hg hm hv ?_)
  refine PyProof.Rows.callWith_type1 ?_ hs rfl
  rw [hs]
  show wpAny _ _ (spliced ((false, eval (.Call (.Attribute ex "items" apos) [] [] cpos) C.X.env) :: backTo pos (starEach [] C.X.env))) _ _ sh
  refine Calls.spliced_cons ?_
  refine wpAny_Call_method (T := "dict") (id := "dict.items") hbase rfl hline F.plainAttrs_dict F.slot_dict_items F.type_dict_items (thn (he.run pins sh σ H _ I (rdE_bind hq)) fun u s1 hh => ?_)
  obtain ⟨y, H1, I1, l1, m, s2, g1, r1, rm, q1⟩ := hh
  unfold oItemsB at q1
  split at q1
  · rename_i kms hd
    by_cases hl : kms.length ≤ big
    · rw [if_pos hl] at q1
      obtain ⟨n, d, kvs, rfl, hcl, rfl, hro, e, rf⟩ := dictL_at r1 hd rm
      obtain rfl : u = Value.ref d := l1
      obtain ⟨hz, hs0, vs, kv, hdo⟩ := I1.hok d _ e
      obtain ⟨ep, hat⟩ := hdo.dictAt
      have lk : kvs.length = vs.length := Paired.length kv
      have I2 : Inv C.X pins σ H1 { s1 with heap := s1.heap.push { cls := .type "dict_items", data := .fields #[.ref d] } } := I1.kept (t' := s1.toks) fun b ob q => Heap.get?_push_of_some _ q
      refine ⟨hdo.typeIs, hdo.mapOf.noDict, ?_⟩
      show wpAny _ _ (callWith cpos (.builtin "dict.items") [.ref d] [] []) _ C.X.xe s1
      refine method_meetsIn F.slot_dict_items F.entry_dict_items rfl (PySem.evalArgs_none ⟨rfl, hdo.typeIs, F.args_dict_items_1 _, _, meets_dict_items (mixKind C.X.prog C.X.w) d hs0, ⟨vs, hdo⟩, ?_⟩)
      refine Calls.spliced_nil ?_
      have gv : (s1.heap.push { cls := .type "dict_items", data := .fields #[.ref d] }).get? s1.heap.objs.size = some { cls := .type "dict_items", data := .fields #[.ref d] } := Heap.get?_push_size _ rfl
      refine code_tupItems (mixKind C.X.prog C.X.w) vs _ d ep (by omega) (I1.ok.hd hc) ⟨_, gv, rfl, rfl⟩ (hat.push _) ⟨_, gv, rfl⟩ fun h' tk as hk hla hG => ?_
      obtain ⟨nd, new, pr, J⟩ := tup_laid (tk := tk) I2 hz kv hk hla hG
      have lt : as.length = kvs.length := by omega
      have J2 : Inv C.X pins σ (upd (LiI.putT H1 as kvs) h'.objs.size (.frz { cls := .type "tuple", data := .seq (as.map Value.ref).toArray } (.tup (as.map V.ref)))) { s1 with heap := h'.push { cls := .type "tuple", data := .seq (as.map Value.ref).toArray }, toks := tk } :=
        J.laid (t' := tk) (fun b o e => Heap.get?_push_of_some _ e) (Nat.le_refl _) ⟨Heap.get?_push_size _ rfl, by rw [List.length_map]; omega, as.map Value.ref, LiI.vals_refs as, IsTup.new _ _⟩
      have hn : LiI.putT H1 as kvs h'.objs.size = none := J.hok.fresh (Nat.le_refl _)
      obtain ⟨r2, mo2⟩ := rel_putT (kvs := kvs) nd new r1
      obtain ⟨r3, mo3⟩ := r2.box (o := .frz { cls := .type "tuple", data := .seq (as.map Value.ref).toArray } (.tup (as.map V.ref))) (c := .tP (itemsM kms)) hn fun g' mo => by
        have pr2 : Paired (fun (t : Addr) (q : Key × V) => upd (LiI.putT H1 as kvs) h'.objs.size (.frz { cls := .type "tuple", data := .seq (as.map Value.ref).toArray } (.tup (as.map V.ref))) t = some (.tup [kV q.1, q.2])) as kvs := paired_imp (fun t q e => by
          rw [upd_ne (ne_of_none e hn)]; exact e) pr
        exact ⟨_, _, rfl, rfl, upd_same, itemsM_rv (rf.mono (mo2.trans mo)) pr2⟩
      exact ⟨.ref h'.objs.size, _, J2, rfl, q1 (g1.box h'.objs.size) _ _ (mo2.trans mo3) r3 (boxAt r1.h)⟩
    · rw [if_neg hl] at q1; exact q1.elim
  · exact q1.elim
/-! ### such a tuple in a box, read -/
def tpL (hp : List Cell) (x : M) : Option (List M) := match x with
  | .box n => match hp[n]? with
    | some (.tP ms) => some ms
    | _ => none
  | _ => none
theorem tpL_at {m : M} {ms : List M} {v : V} (r : C.rel g s σ H) (h : tpL s.hp m = some ms) (rv : RV C.T g H m v) : ∃ a o vs, v = .ref a ∧ H a = some (.frz o (.tup vs)) ∧ RVs C.T g H ms vs := by
  unfold tpL at h
  split at h
  · rename_i n
    split at h
    · rename_i xs hc
      cases h
      obtain ⟨a, e1, e2, o, vs, h1, h2, h3, rs⟩ := r.cellAt hc rv
      exact ⟨a, o, vs, e1, h3, rs⟩
    · cases h
  · cases h
def iSeqP (a : ME) : MI := fun s => (a s).bind fun m s1 => match tpL s1.hp m with
  | some ms => .ok ms s1
  | none => .stuck
theorem im_seqP (ha : PMe C ex a) : PMi C tg ex (iSeqP a) := by
  refine ⟨fun pins s σ H R I h => ?_⟩
  refine thn (ha.run pins s σ H _ I (rdE_bindI h)) fun u s1 ⟨x, H1, I1, rx, m, ms1, g1, r1, rv, q⟩ => ?_
  obtain ⟨items, hm, k⟩ : ∃ items, tpL ms1.hp m = some items ∧ ∀ (J : It), Wk C g1 H1 items J → R J H1 := by
    cases hm : tpL ms1.hp m with
    | none => rw [hm] at q; exact q.elim
    | some items => rw [hm] at q; exact ⟨items, rfl, fun J wk => q g1 H1 J (Mono.refl _ _) r1 wk⟩
  have fp1 : ∀ b ∈ [s1.heap.objs.size], FpOk C.X pins H1 b := fun b hb => by
    have e : b = s1.heap.objs.size := by simpa using hb
    subst e
    exact I1.fpOk (Nat.le_refl _) (I1.hok.fresh (Nat.le_refl _))
  obtain ⟨a, o, vs, rfl, e, rs⟩ := tpL_at r1 hm rv
  cases rx
  have hq : SqT C.X.K H1 a vs := .inl (.inr ⟨o, e⟩)
  obtain ⟨its, rv, pl, hz⟩ := I1.tuple hq
  refine wpAny_pyIter_tuple (show s1.heap.IsTuple a its.toArray from pl) ?_
  exact ⟨s1.heap.objs.size, [s1.heap.objs.size], _, _, H1, rfl, I1.kept (t' := s1.toks) fun b o e => Heap.get?_push_of_some _ e, turn_tuple a _, ⟨_, Heap.get?_push_size _ rfl, rfl, rfl⟩, fp1,
    k _ (wk_of (rs.length ▸ walk_tup (K := C.X.K) (a := a) (xs := vs)) (fun g2 H2 mo2 => .inl (.inr ⟨o, mo2.fr _ _ _ e⟩)) rs)⟩
def cLenP (o : List M → MS → Res M) (ms : List M) (s : MS) : Res M := match ms with
  | [x] => match tpL s.hp x with
    | some xs => .ok (.int xs.length) s
    | none => o ms s
  | _ => o ms s
theorem ok_lenP {o : List M → MS → Res M} (h : CallOk C (fun xs H Q => ∃ x n, xs = [x] ∧ LenV C.X.K x H n ∧ Q (.int n) H) o) : CallOk C (fun xs H Q => ∃ x n, xs = [x] ∧ LenV C.X.K x H n ∧ Q (.int n) H) (cLenP o) := fun σ H g s ms xs Q r rs q => by
  unfold cLenP at q
  split at q
  · rename_i x
    split at q
    · rename_i ys hy
      cases rs with
      | cons r1 r2 =>
        cases r2
        obtain ⟨a, ob, vs, rfl, e, rs⟩ := tpL_at r hy r1
        exact ⟨_, ys.length, rfl, .inr ⟨_, .inl (.inr ⟨ob, e⟩), rs.length⟩, q.same r (.int _)⟩
    · exact h σ H g s _ xs Q r rs q
  · exact h σ H g s ms xs Q r rs q
/-! ### data that holds such boxes -/
mutual
def datX (hp : List Cell) : M → Option PyData
  | .box n => match hp[n]? with
    | some (.tP ms) => (datL ms).map .tuple
    | some (.lst ms) => (datL ms).map .list
    | _ => none
  | .tup ms => (datXL hp ms).map .tuple
  | .lst ms => (datXL hp ms).map .list
  | m => dat m
def datXL (hp : List Cell) : List M → Option (List PyData)
  | [] => some []
  | m :: ms => match datX hp m, datXL hp ms with
    | some d, some ds => some (d :: ds)
    | _, _ => none
end
mutual
theorem datX_dp (r : C.rel g s σ H) : ∀ {m : M} {x : V} {d : PyData}, RV C.T g H m x → datX s.hp m = some d → Dp C.T.K H x d
  | _, _, _, @RV.tup _ _ _ a ms vs e rs, h => by
    unfold datX at h
    cases hd : datXL s.hp ms with
    | none => rw [hd] at h; cases h
    | some ds => rw [hd] at h; cases h; exact .tup (.inl (.inl e)) (datXL_dp r rs hd)
  | _, _, _, @RV.lst _ _ _ a ms vs f e rs, h => by
    unfold datX at h
    cases hd : datXL s.hp ms with
    | none => rw [hd] at h; cases h
    | some ds => rw [hd] at h; cases h; exact .lst (.inl (.inl e)) (datXL_dp r rs hd)
  | _, _, _, @RV.box _ _ _ n a e, h => by
    unfold datX at h
    split at h
    · rename_i ms hc
      obtain ⟨a', e1, e2, o, vs, h1, h2, h3, rs⟩ := r.cellAt hc (.box e)
      cases e1
      cases hd : datL ms with
      | none => rw [hd] at h; cases h
      | some ds => rw [hd] at h; cases h; exact .tup (.inl (.inr ⟨o, h3⟩)) (datL_dp rs hd)
    · rename_i ms hc
      obtain ⟨a', e1, e2, vs, h3, rs⟩ := r.cellAt hc (.box e)
      cases e1
      cases hd : datL ms with
      | none => rw [hd] at h; cases h
      | some ds => rw [hd] at h; cases h; exact .lst (.inl (.inl h3)) (datL_dp rs hd)
    · cases h
  | _, _, _, .non, h => dat_dp (g := g) .non h
  | _, _, _, .bl b, h => dat_dp (g := g) (.bl b) h
  | _, _, _, .int i, h => dat_dp (g := g) (.int i) h
  | _, _, _, .str z, h => dat_dp (g := g) (.str z) h
  | _, _, _, .byt b, h => dat_dp (g := g) (.byt b) h
  | _, _, _, .dct a b c d, h => dat_dp (g := g) (.dct a b c d) h
  | _, _, _, .scr f e, h => dat_dp (g := g) (.scr f e) h
  | _, _, _, .scrK e, h => dat_dp (g := g) (.scrK e) h
  | _, _, _, .exn a b c, h => dat_dp (g := g) (.exn a b c) h
  | _, _, _, .cls a, h => dat_dp (g := g) (.cls a) h
  | _, _, _, .ty a, h => dat_dp (g := g) (.ty a) h
  | _, _, _, .raw a, h => dat_dp (g := g) (.raw a) h
  | _, _, _, .set a b, h => dat_dp (g := g) (.set a b) h
theorem datXL_dp (r : C.rel g s σ H) : ∀ {ms : List M} {xs : List V} {ds : List PyData}, RVs C.T g H ms xs → datXL s.hp ms = some ds → DpAll C.T.K H xs ds
  | _, _, _, .nil, h => by cases h; exact .nil
  | _, _, _, @RVs.cons _ _ _ m v ms vs rr rs, h => by
    unfold datXL at h
    cases hd : datX s.hp m with
    | none => rw [hd] at h; cases h
    | some d =>
      cases hds : datXL s.hp ms with
      | none => rw [hd, hds] at h; cases h
      | some ds => rw [hd, hds] at h; cases h; exact .cons (datX_dp r rr hd) (datXL_dp r rs hds)
end
/-- repr of such data, or what o says -/
def cReprX (o : List M → MS → Res M) (ms : List M) (s : MS) : Res M := match ms with
  | [x] => match datX s.hp x with
    | some d => if (isSeqD d && d.showable && !d.hasDict && decide (d.depth ≤ 64) && decide (d.shown.length ≤ sizeLine)) = true then .ok (.str d.shown) s else .stuck
    | none => o ms s
  | _ => o ms s
theorem ok_reprX {R : RC} {o : List M → MS → Res M} (ho : CallOk C R o) : CallOk C (fun xs H Q => rReprD C.X.K xs H Q ∨ R xs H Q) (cReprX o) := fun σ H g s ms xs Q r rs h => by
  unfold cReprX at h
  split at h
  · rename_i x
    split at h
    · rename_i d hd
      by_cases hb : (isSeqD d && d.showable && !d.hasDict && decide (d.depth ≤ 64) && decide (d.shown.length ≤ sizeLine)) = true
      · rw [if_pos hb] at h
        simp only [Bool.and_eq_true, decide_eq_true_eq, Bool.not_eq_true'] at hb
        obtain ⟨⟨⟨⟨h0, h1⟩, h2⟩, h3⟩, h4⟩ := hb
        cases rs with
        | cons r1 r2 =>
          cases r2
          have d1 : Dp C.X.K H _ d := C.hK ▸ datX_dp r r1 hd
          obtain ⟨a, rfl⟩ := Dp.seq d1 h0
          exact .inl ⟨a, d, rfl, d1, h1, h2, h3, h4, h.same r (.str _)⟩
      · rw [if_neg hb] at h; exact h.elim
    · exact .inr (ho σ H g s _ xs Q r rs h)
  · exact .inr (ho σ H g s ms xs Q r rs h)
/-! ### del d[k] -/
def dropG (kms : List (Key × M)) (k : Key) : List (Key × M) := kms.filter fun kv => decide (kv.1 ≠ k)
theorem RFs.drop {fs : List (Key × M)} {vs : List (Key × V)} (r : RFs T g H fs vs) (k : Key) : RFs T g H (dropG fs k) (dropK vs k) := by
  unfold dropG dropK
  induction r with
  | nil => exact .nil
  | @cons j m v fs vs q t ih =>
    rw [List.filter_cons, List.filter_cons]
    by_cases e : j = k
    · have z : decide (j ≠ k) = false := by simp [e]
      simp only [z, Bool.false_eq_true, if_false]
      exact ih
    · have z : decide (j ≠ k) = true := by simp [e]
      simp only [z, if_true]
      exact .cons q ih
def fDel (x y : M) (s : MS) : Res Fl := match dictL s.hp x with
  | some kms => match keyM y with
    | some k => if (valG kms k).isSome = true then (match x with
      | .box n => .ok .nx ⟨s.env, s.hp.set n (.dK (dropG kms k))⟩
      | _ => .stuck) else .stuck
    | none => .stuck
  | none => .stuck
def sDel (a b : ME) : MStm := fun s => (a s).bind fun x s1 => (b s1).bind fun y s2 => fDel x y s2
theorem sm_del (ha : PMe C eo a) (hb : PMe C ei b) : PMs C (.Delete [.Subscript eo ei tpos] pos) (sDel a b) :=
  wkS (ps_ddel ha hb) fun D σ H ⟨g, s, r, q⟩ => by
    unfold sDel at q
    refine ⟨g, s, r, ?_⟩
    cases h : a s with
    | stuck => rw [h] at q; exact q.elim
    | err e s1 => rw [h] at q; exact fun g' H' cls d mo rl xr => q g' H' σ cls d mo rl xr
    | ok m s1 =>
      rw [h] at q
      intro g1 H1 v mo1 r1 rv
      refine ⟨g1, s1, r1, ?_⟩
      dsimp only [Res.bind] at q
      cases h2 : b s1 with
      | stuck => rw [h2] at q; exact q.elim
      | err e s2 => rw [h2] at q; exact fun g' H' cls d mo rl xr => q g' H' σ cls d (mo1.trans mo) rl xr
      | ok k s2 =>
        rw [h2] at q
        intro g2 H2 w mo2 r2 rw'
        dsimp only [Res.bind] at q
        have rv := rv.mono mo2
        unfold fDel at q
        split at q
        · rename_i kms hd
          split at q
          · rename_i ky hk
            by_cases hl : (valG kms ky).isSome = true
            · rw [if_pos hl] at q
              obtain ⟨n, d, kvs, rfl, hc, rfl, hro, e, rf⟩ := dictL_at r2 hd rv
              have ey := keyM_at hk rw'
              subst ey
              dsimp only at q
              obtain ⟨r4, mo⟩ := Rel.poke (c' := .dK (dropG kms ky)) (o := .dK (dropK kvs ky)) r2 hc hro trivial (fun ws z => by rw [e] at z; cases z) fun g' mo => ⟨_, upd_same, (rf.drop ky).mono mo⟩
              exact ⟨d, kvs, ky, rfl, e, rfl, by rw [valG_some rf ky]; exact hl, q g2 _ σ ((mo1.trans mo2).trans mo) r4⟩
            · rw [if_neg hl] at q; exact q.elim
          · exact q.elim
        · exact q.elim
/-! ### targets within the targets of a comprehension -/
end
/-! ### at the head: instances called, texts of classes, methods of bases -/
section
variable {P : Program} {w : World} {mg : Str → Option Value} {base : Heap} {K : Frag} {cs : List Str} {tb : List (Addr × Str)} {k : Nat} {F : Fn} {c : Str} {f : Addr}
def coB (K : Frag) (A f : Addr) : Bool := eqb (findIn K (.ref A) "__call__") (some (some (.ref f))) && (isFn K (.ref f) && fnIn K f)
theorem knCs_nil {T : Tab} : KnCs P w mg base T k [] := ⟨fun c F h => by cases h⟩
theorem knCs_cons {tbl : List (Str × Fn)} {k' : Nat} (h : coB K (He.ga K c) f = true) (fp : FnP P w mg base ⟨K, adOf K cs, tb⟩ k' f F) (le : ∀ A, RoomG k A → RoomG k' A) (t : KnCs P w mg base ⟨K, adOf K cs, tb⟩ k tbl) : KnCs P w mg base ⟨K, adOf K cs, tb⟩ k ((c, F) :: tbl) := ⟨fun c' F' e => by
  rw [List.lookup_cons] at e
  by_cases z : c' == c
  · rw [z] at e
    cases e
    rw [beq_iff_eq.mp z]
    intro A e
    rw [adOf_at (show adOf K cs c = some A from e)]
    obtain ⟨h1, h⟩ := Bool.and_eq_true_iff.mp h
    obtain ⟨h2, h3⟩ := Bool.and_eq_true_iff.mp h
    exact ⟨f, ⟨fun A' o s H us vs Q E hr => fp.run A' o s H us vs Q E (le _ hr)⟩, ⟨eqb_ok h1, h2, h3⟩⟩
  · rw [Bool.eq_false_iff.mpr z] at e
    exact t.all c' F' e⟩
def conB (K : Frag) (A : Addr) (f z : Str) : Bool := clsB K A && (match findIn K (.ref A) f with
  | some (some (.str y t)) => (y == z) && (eqb (specialIn K (.str y t) "__get__") (some none) && !(copiedNames.contains f))
  | _ => false)
theorem conT_nil {T : Tab} {f : Str} : ConT T f [] := ⟨fun c F h => by cases h⟩
theorem conT_cons {f z : Str} {tbl : List (Str × Str)} (h : conB K (He.ga K c) f z = true) (t : ConT ⟨K, adOf K cs, tb⟩ f tbl) : ConT ⟨K, adOf K cs, tb⟩ f ((c, z) :: tbl) := ⟨fun c' z' e => by
  rw [List.lookup_cons] at e
  by_cases y : c' == c
  · rw [y] at e
    cases e
    rw [beq_iff_eq.mp y]
    intro A e
    rw [adOf_at (show adOf K cs c = some A from e)]
    unfold conB at h
    obtain ⟨h0, h⟩ := Bool.and_eq_true_iff.mp h
    refine ⟨clsB_ok h0, ?_⟩
    split at h
    · rename_i y t hf
      obtain ⟨h1, h⟩ := Bool.and_eq_true_iff.mp h
      obtain ⟨h2, h3⟩ := Bool.and_eq_true_iff.mp h
      cases beq_iff_eq.mp h1
      exact ⟨t, hf, ⟨t, rfl⟩, eqb_ok h2, by simpa using h3⟩
    · cases h
  · rw [Bool.eq_false_iff.mpr y] at e
    exact t.all c' z' e⟩
end
end Ma
/-! Ma118: static methods called; x is True, x is not False. -/
namespace Ma
open L2 PySem.W PySem.Spec PySem PyProof.Rows
/-- the own class named c has a static method under this name -/
structure KnSm (P : Program) (w : World) (mg : Str → Option Value) (base : Heap) (T : Tab) (c m : Str) (k : Nat) (F : Fn) : Prop where
  ex : ∀ A, T.ad c = some A → ∃ p f : Addr, ClX.CRead T.K A (.type "type") ∧ findCls T.K (.ref A) (.type "type") m = some (.get (.builtin "staticmethod.__get__") (.ref p) .none (.ref A)) ∧
    (∃ rest, recIn T.K p "staticmethod" = some (.ref f :: rest)) ∧ keepIn T.K (.ref f) = true ∧ FnP P w mg base T k f F
section
variable {C : MC} {g g1 : Gh} {H H1 : Hp} {s : MS} {σ : L2.St} {e o ex fe : Expr} {es : List Expr} {a b : ME} {ma : MA} {pos apos p p2 pos2 : Pos} {x c m : Str} {k : Nat} {F : Fn} {pins : List (Addr × Obj)} {sh : Shared}
def mSm (c : Str) (F : Fn) (a : ME) (ma : MA) : ME := fun s => (a s).bind fun x s1 => match x with
  | .cls c' => if c' = c then (ma s1).bind fun xs s2 => upF s2.env (F xs s2.hp) else .stuck
  | _ => .stuck
theorem em_sm {pl : Sem Bool} (h : KnSm C.X.prog C.X.w C.X.mg C.X.base C.T c m k F) (hr : RoomG k C.X.A) (tk : Takes C.X C.W) (ha : PMe C o a) (hm : PMa C (e :: es) ma)
    (hst : starEach (e :: es) C.X.env = (false, eval e C.X.env) :: starEach es C.X.env := by rfl) (hpl : (backTo pos (starEach es C.X.env)).any (·.1) = false := by rfl)
    (ht : eval (.Call (.Attribute o m apos) (e :: es) [] pos) C.X.env = (do
      let ov ← eval o C.X.env
      standAt apos.atName
      let (f, first) ← PySem.holding [ov] (getMethod ov m pl)
      callWith pos f first (backTo pos (starEach (e :: es) C.X.env)) (backToKw pos (keywordEach [] C.X.env))) := by rfl) :
    PMe C (.Call (.Attribute o m apos) (e :: es) [] pos) (mSm c F a ma) := by
  refine ⟨fun pins sh σ H Q I q => ?_⟩
  refine PySem.W.methodCall_KW (pl := pl) (thn (ha.run pins sh σ H _ I (rdE_bind q)) fun u s1 hh => ?_) ht
  obtain ⟨v, H1, I1, l1, y, ms1, g1, r1, ry, q1⟩ := hh
  split at q1
  · rename_i c'
    split at q1
    · rename_i hc
      subst hc
      cases ry with
      | @cls _ A ad =>
        obtain ⟨p, f, cr, at_, ⟨rest, rc⟩, kp, G⟩ := h.ex A ad
        obtain rfl : u = Value.ref A := l1
        have cr : ClX.CRead C.X.K A (.type "type") := C.hK ▸ cr
        refine PySem.W.method_cls I1.kIn cr.ga (PySem.W.cls_bind I1.kIn cr.rd (C.hK ▸ at_) (wpAny_call (PySem.W.sm_get (s := { s1 with toks := s1.toks + 1 }) I1.kIn (C.hK ▸ rc) (PySem.W.handed_on rfl ?_))))
        have I2 : Inv C.X pins σ H1 { s1 with toks := s1.toks + 1 } := I1.tok _
        refine PySem.W.callWith_K (first := []) (h₀ := C.X.base) I2.ok.mod.kin (C.hK ▸ kp) (thn (hm.run pos pins _ σ H1 _ I2 (rdA_keep r1 (.cls ad) q1)) fun us s2 hh => ?_) hst hpl
        obtain ⟨vs, H2, I3, rvs, xs, ms2, g2, r2, rxs, ry2, q2⟩ := hh
        exact ⟨I3.kIn, run_p (us := us) G hr tk I3 r2 rxs rvs q2⟩
    · exact q1.elim
  · exact q1.elim
/-! ### x is True -/
end
/-! ### at the head -/
def smB (K : Frag) (A : Addr) (m : Str) : Bool := readsIn K A (.type "type") && (He5.wrapB K A "staticmethod" "staticmethod.__get__" m && keepIn K (.ref (He5.wf K A "staticmethod" m)))
section
variable {P : Program} {w : World} {mg : Str → Option Value} {base : Heap} {K : Frag} {cs : List Str} {tb : List (Addr × Str)} {k : Nat} {F : Fn} {c : Str}
theorem knSm_of {m : Str} (h : smB K (He.ga K c) m = true) (fp : FnP P w mg base ⟨K, adOf K cs, tb⟩ k (He5.wf K (He.ga K c) "staticmethod" m) F) : KnSm P w mg base ⟨K, adOf K cs, tb⟩ c m k F := ⟨fun A e => by
  rw [adOf_at (show adOf K cs c = some A from e)]
  obtain ⟨h0, h⟩ := Bool.and_eq_true_iff.mp h
  obtain ⟨h1, h2⟩ := Bool.and_eq_true_iff.mp h
  obtain ⟨h3, h4⟩ := He5.wrapB_ok h1
  exact ⟨_, _, cread_ok h0, h3, h4, h2, fp⟩⟩
end
end Ma
namespace HandSHeadRun
open PySem.W PySem.Spec PySem PyProof.Rows
theorem opt3 {α β γ δ : Type} {o : Option α} {f : α → β} {g : α → γ} {h : α → δ} {x : β} {y : γ} {z : δ} (h1 : o.map f = some x) (h2 : o.map g = some y) (h3 : o.map h = some z) : o.map (fun s => (f s, g s, h s)) = some (x, y, z) := by
  cases o with
  | none => cases h1
  | some s => cases h1; cases h2; cases h3; rfl
def RunB (r : OpenRow) (M : Nat) (w : World) : Prop := ∀ os : OsState, (endF (stepQ (denQ tabQ) r.prog w) M r.prog w os).map (fun s => looksF r.prog (boot_heap w.params) s.abs) = some true
def RunC (r : OpenRow) (q : Program) (M : Nat) (loose : List PySem.Str) (w : World) : Prop := ∀ os : OsState, (endF (stepQ (denQ tabQ) r.prog w) M r.prog w os).map (fun s => seenQ q loose (importedModules r.prog.main.body) (fun s => xlAt q [] s && recOk r.toRowW.records s) s.abs) = some (openGood q loose)
def RunD (r : OpenRow) (H : Hook) (ob : SharedT → H.α) (M : Nat) (w : World) : Prop := ∀ os : OsState, (endF (stepQ (denQ tabQ) r.prog w) M r.prog w os).map (fun s => ob s) = some (H.val w)
theorem run_of {r : OpenRow} {q : Program} {H : Hook} {ob : SharedT → H.α} {M : Nat} {loose : List PySem.Str} {w : World} (h1 : RunB r M w) (h2 : RunC r q M loose w) (h3 : RunD r H ob M w) : RunEq r q H ob M loose w := fun os => opt3 (h1 os) (h2 os) (h3 os)
end HandSHeadRun
namespace Lw
open L2 Ma PySem.Spec PySem PyProof.Rows
def top (i : Nat) : Stmt := PySem.Challenge.pw_rowclash_k04_statements_executed.main.body.getD i (.Pass ⟨0, 0, 0, 0⟩)
abbrev XS : List Str := ["RowError", "NotRow", "NotTable", "NotKey", "NotRows", "NotOrder", "NotRule", "Missing", "Twice", "TooMany"]
abbrev IS : List Str := ["Table", "Outcome", "Run", "Rule", "Stops", "Continues", "Undoes", "Leaves", "Removes", "Abort", "Fail", "Ignore", "Replace"]
def mros : List (Str × List Tg) := [("RowError", [.own "RowError", .bi "ValueError", .bi "Exception", .bi "BaseException", .bi "object"]), ("NotRow", [.own "NotRow", .own "RowError", .bi "ValueError", .bi "Exception", .bi "BaseException", .bi "object"]), ("NotTable", [.own "NotTable", .own "RowError", .bi "ValueError", .bi "Exception", .bi "BaseException", .bi "object"]), ("NotKey", [.own "NotKey", .own "RowError", .bi "ValueError", .bi "Exception", .bi "BaseException", .bi "object"]), ("NotRows", [.own "NotRows", .own "RowError", .bi "ValueError", .bi "Exception", .bi "BaseException", .bi "object"]), ("NotOrder", [.own "NotOrder", .own "RowError", .bi "ValueError", .bi "Exception", .bi "BaseException", .bi "object"]), ("NotRule", [.own "NotRule", .own "RowError", .bi "ValueError", .bi "Exception", .bi "BaseException", .bi "object"]), ("Missing", [.own "Missing", .own "RowError", .bi "ValueError", .bi "Exception", .bi "BaseException", .bi "object"]), ("Twice", [.own "Twice", .own "RowError", .bi "ValueError", .bi "Exception", .bi "BaseException", .bi "object"]), ("TooMany", [.own "TooMany", .own "RowError", .bi "ValueError", .bi "Exception", .bi "BaseException", .bi "object"]), ("Table", [.own "Table", .bi "object"]), ("Outcome", [.own "Outcome", .bi "object"]), ("Run", [.own "Run", .bi "object"]), ("Rule", [.own "Rule", .bi "object"]), ("Stops", [.own "Stops", .own "Rule", .bi "object"]), ("Continues", [.own "Continues", .own "Rule", .bi "object"]), ("Undoes", [.own "Undoes", .own "Rule", .bi "object"]), ("Leaves", [.own "Leaves", .own "Rule", .bi "object"]), ("Removes", [.own "Removes", .own "Rule", .bi "object"]), ("Abort", [.own "Abort", .own "Stops", .own "Undoes", .own "Rule", .bi "object"]), ("Fail", [.own "Fail", .own "Stops", .own "Leaves", .own "Rule", .bi "object"]), ("Ignore", [.own "Ignore", .own "Continues", .own "Leaves", .own "Rule", .bi "object"]), ("Replace", [.own "Replace", .own "Continues", .own "Removes", .own "Rule", .bi "object"])]
abbrev BI : List String := ["bool", "dict", "int", "list", "tuple"]
abbrev CS : List Str := ["RowError", "NotRow", "NotTable", "NotKey", "NotRows", "NotOrder", "NotRule", "Missing", "Twice", "TooMany", "Table", "Outcome", "Run", "Rule", "Stops", "Continues", "Undoes", "Leaves", "Removes", "Abort", "Fail", "Ignore", "Replace"]
abbrev isi : Tg → Tg → Option Bool := isiM mros BI
abbrev tbs_WORD : List (Str × Str) := [("Abort", "abort"), ("Fail", "fail"), ("Ignore", "ignore"), ("Replace", "replace")]
abbrev s__law_cell_at : Stmt := top 46
abbrev s__law_pen : Stmt := top 47
abbrev s__law_draw : Stmt := top 48
abbrev s__law_pick : Stmt := top 49
abbrev s__law_mixed : Stmt := top 50
abbrev s__law_pairs : Stmt := top 51
abbrev s_Table_rows : Stmt := clsMeth (top 26) 2
abbrev s_rows_to_add : Stmt := top 25
abbrev s_is_integer : Stmt := top 3
abbrev s_is_key : Stmt := top 4
abbrev s_is_pair : Stmt := top 5
abbrev s_check_rows : Stmt := top 23
abbrev s_new_keys : Stmt := top 24
abbrev s_Table___init__ : Stmt := clsMeth (top 26) 0
abbrev s_Table___add__ : Stmt := clsMeth (top 26) 10
abbrev s__law_rule : Stmt := top 54
abbrev s_Rule_named : Stmt := clsMeth (top 35) 0
abbrev s__law_ends : Stmt := top 52
abbrev s__law_run : Stmt := top 53
abbrev s_check_table : Stmt := top 28
abbrev s_Table___contains__ : Stmt := clsMeth (top 26) 5
abbrev s_are_rows : Stmt := top 6
abbrev s_Table___len__ : Stmt := clsMeth (top 26) 7
abbrev s_is_order : Stmt := top 9
abbrev s_check_order : Stmt := top 29
abbrev s_Run_start_again : Stmt := clsMeth (top 33) 1
abbrev s_Run___init__ : Stmt := clsMeth (top 33) 0
abbrev s_Run_move : Stmt := clsMeth (top 33) 3
abbrev s_Run_visit : Stmt := clsMeth (top 33) 2
abbrev s_Undoes_settle : Stmt := clsMeth (top 38) 0
abbrev s_Leaves_settle : Stmt := clsMeth (top 39) 0
abbrev s_Run_take_out : Stmt := clsMeth (top 33) 4
abbrev s_Removes_settle : Stmt := clsMeth (top 40) 0
abbrev s_Stops_goes_on : Stmt := clsMeth (top 36) 0
abbrev s_Continues_goes_on : Stmt := clsMeth (top 37) 0
abbrev s_Rule_visit_all : Stmt := clsMeth (top 35) 2
abbrev s_Outcome___init__ : Stmt := clsMeth (top 31) 0
abbrev s_Run_held_by_rows : Stmt := clsMeth (top 33) 5
abbrev s_Rule___call__ : Stmt := clsMeth (top 35) 1
abbrev s_Outcome_ends : Stmt := clsMeth (top 31) 3
abbrev s_Outcome___len__ : Stmt := clsMeth (top 31) 9
abbrev s_Outcome_held : Stmt := clsMeth (top 31) 6
abbrev s_Outcome_left : Stmt := clsMeth (top 31) 5
abbrev s_Outcome_rows : Stmt := clsMeth (top 31) 1
abbrev s_Outcome_moved : Stmt := clsMeth (top 31) 4
abbrev s_Outcome_stop : Stmt := clsMeth (top 31) 2
abbrev s__law_same : Stmt := top 55
abbrev s_Outcome___getitem__ : Stmt := clsMeth (top 31) 7
abbrev s__law_outcome_right : Stmt := top 56
abbrev s_Table___setitem__ : Stmt := clsMeth (top 26) 4
abbrev s_law : Stmt := top 57
end Lw
namespace Lw
open L2 Ma PySem.Spec PySem PyProof.Rows
open PySem.W
def fns : List He5.DefA := [⟨fun K => He.ga K "_law_cell_at", "_law_cell_at", "_law_cell_at", defArgs s__law_cell_at, defBody s__law_cell_at, defScope s__law_cell_at, [], []⟩, ⟨fun K => He.ga K "_law_pen", "_law_pen", "_law_pen", defArgs s__law_pen, defBody s__law_pen, defScope s__law_pen, [], []⟩, ⟨fun K => He.ga K "_law_draw", "_law_draw", "_law_draw", defArgs s__law_draw, defBody s__law_draw, defScope s__law_draw, [], []⟩, ⟨fun K => He.ga K "_law_pick", "_law_pick", "_law_pick", defArgs s__law_pick, defBody s__law_pick, defScope s__law_pick, [], []⟩, ⟨fun K => He.ga K "_law_mixed", "_law_mixed", "_law_mixed", defArgs s__law_mixed, defBody s__law_mixed, defScope s__law_mixed, [], []⟩, ⟨fun K => He.ga K "_law_pairs", "_law_pairs", "_law_pairs", defArgs s__law_pairs, defBody s__law_pairs, defScope s__law_pairs, [], []⟩, ⟨fun K => He5.wf K (He.ga K "Table") "property" "rows", "rows", "Table.rows", defArgs s_Table_rows, defBody s_Table_rows, defScope s_Table_rows, [], []⟩, ⟨fun K => He.ga K "rows_to_add", "rows_to_add", "rows_to_add", defArgs s_rows_to_add, defBody s_rows_to_add, defScope s_rows_to_add, [], []⟩, ⟨fun K => He.ga K "is_integer", "is_integer", "is_integer", defArgs s_is_integer, defBody s_is_integer, defScope s_is_integer, [], []⟩, ⟨fun K => He.ga K "is_key", "is_key", "is_key", defArgs s_is_key, defBody s_is_key, defScope s_is_key, [], []⟩, ⟨fun K => He.ga K "is_pair", "is_pair", "is_pair", defArgs s_is_pair, defBody s_is_pair, defScope s_is_pair, [], []⟩, ⟨fun K => He.ga K "check_rows", "check_rows", "check_rows", defArgs s_check_rows, defBody s_check_rows, defScope s_check_rows, [], []⟩, ⟨fun K => He.ga K "new_keys", "new_keys", "new_keys", defArgs s_new_keys, defBody s_new_keys, defScope s_new_keys, [], []⟩, ⟨fun K => He.ma K (He.ga K "Table") "__init__", "__init__", "Table.__init__", defArgs s_Table___init__, defBody s_Table___init__, defScope s_Table___init__, [], []⟩, ⟨fun K => He.ma K (He.ga K "Table") "__add__", "__add__", "Table.__add__", defArgs s_Table___add__, defBody s_Table___add__, defScope s_Table___add__, [], []⟩, ⟨fun K => He.ga K "_law_rule", "_law_rule", "_law_rule", defArgs s__law_rule, defBody s__law_rule, defScope s__law_rule, [], []⟩, ⟨fun K => He5.wf K (He.ga K "Rule") "staticmethod" "named", "named", "Rule.named", defArgs s_Rule_named, defBody s_Rule_named, defScope s_Rule_named, [], []⟩, ⟨fun K => He.ga K "_law_ends", "_law_ends", "_law_ends", defArgs s__law_ends, defBody s__law_ends, defScope s__law_ends, [], []⟩, ⟨fun K => He.ga K "_law_run", "_law_run", "_law_run", defArgs s__law_run, defBody s__law_run, defScope s__law_run, [], []⟩, ⟨fun K => He.ga K "check_table", "check_table", "check_table", defArgs s_check_table, defBody s_check_table, defScope s_check_table, [], []⟩, ⟨fun K => He.ma K (He.ga K "Table") "__contains__", "__contains__", "Table.__contains__", defArgs s_Table___contains__, defBody s_Table___contains__, defScope s_Table___contains__, [], []⟩, ⟨fun K => He.ga K "are_rows", "are_rows", "are_rows", defArgs s_are_rows, defBody s_are_rows, defScope s_are_rows, [], []⟩, ⟨fun K => He.ma K (He.ga K "Table") "__len__", "__len__", "Table.__len__", defArgs s_Table___len__, defBody s_Table___len__, defScope s_Table___len__, [], []⟩, ⟨fun K => He.ga K "is_order", "is_order", "is_order", defArgs s_is_order, defBody s_is_order, defScope s_is_order, [], []⟩, ⟨fun K => He.ga K "check_order", "check_order", "check_order", defArgs s_check_order, defBody s_check_order, defScope s_check_order, [], []⟩, ⟨fun K => He.ma K (He.ga K "Run") "start_again", "start_again", "Run.start_again", defArgs s_Run_start_again, defBody s_Run_start_again, defScope s_Run_start_again, [], []⟩, ⟨fun K => He.ma K (He.ga K "Run") "__init__", "__init__", "Run.__init__", defArgs s_Run___init__, defBody s_Run___init__, defScope s_Run___init__, [], []⟩, ⟨fun K => He.ma K (He.ga K "Run") "move", "move", "Run.move", defArgs s_Run_move, defBody s_Run_move, defScope s_Run_move, [], []⟩, ⟨fun K => He.ma K (He.ga K "Run") "visit", "visit", "Run.visit", defArgs s_Run_visit, defBody s_Run_visit, defScope s_Run_visit, [], []⟩, ⟨fun K => He.ma K (He.ga K "Undoes") "settle", "settle", "Undoes.settle", defArgs s_Undoes_settle, defBody s_Undoes_settle, defScope s_Undoes_settle, [], []⟩, ⟨fun K => He.ma K (He.ga K "Leaves") "settle", "settle", "Leaves.settle", defArgs s_Leaves_settle, defBody s_Leaves_settle, defScope s_Leaves_settle, [], []⟩, ⟨fun K => He.ma K (He.ga K "Run") "take_out", "take_out", "Run.take_out", defArgs s_Run_take_out, defBody s_Run_take_out, defScope s_Run_take_out, [], []⟩, ⟨fun K => He.ma K (He.ga K "Removes") "settle", "settle", "Removes.settle", defArgs s_Removes_settle, defBody s_Removes_settle, defScope s_Removes_settle, [], []⟩, ⟨fun K => He.ma K (He.ga K "Stops") "goes_on", "goes_on", "Stops.goes_on", defArgs s_Stops_goes_on, defBody s_Stops_goes_on, defScope s_Stops_goes_on, [], []⟩, ⟨fun K => He.ma K (He.ga K "Continues") "goes_on", "goes_on", "Continues.goes_on", defArgs s_Continues_goes_on, defBody s_Continues_goes_on, defScope s_Continues_goes_on, [], []⟩, ⟨fun K => He.ma K (He.ga K "Rule") "visit_all", "visit_all", "Rule.visit_all", defArgs s_Rule_visit_all, defBody s_Rule_visit_all, defScope s_Rule_visit_all, [], []⟩, ⟨fun K => He.ma K (He.ga K "Outcome") "__init__", "__init__", "Outcome.__init__", defArgs s_Outcome___init__, defBody s_Outcome___init__, defScope s_Outcome___init__, [], []⟩, ⟨fun K => He.ma K (He.ga K "Run") "held_by_rows", "held_by_rows", "Run.held_by_rows", defArgs s_Run_held_by_rows, defBody s_Run_held_by_rows, defScope s_Run_held_by_rows, [], []⟩, ⟨fun K => He.ma K (He.ga K "Rule") "__call__", "__call__", "Rule.__call__", defArgs s_Rule___call__, defBody s_Rule___call__, defScope s_Rule___call__, [], []⟩, ⟨fun K => He5.wf K (He.ga K "Outcome") "property" "ends", "ends", "Outcome.ends", defArgs s_Outcome_ends, defBody s_Outcome_ends, defScope s_Outcome_ends, [], []⟩, ⟨fun K => He.ma K (He.ga K "Outcome") "__len__", "__len__", "Outcome.__len__", defArgs s_Outcome___len__, defBody s_Outcome___len__, defScope s_Outcome___len__, [], []⟩, ⟨fun K => He5.wf K (He.ga K "Outcome") "property" "held", "held", "Outcome.held", defArgs s_Outcome_held, defBody s_Outcome_held, defScope s_Outcome_held, [], []⟩, ⟨fun K => He5.wf K (He.ga K "Outcome") "property" "left", "left", "Outcome.left", defArgs s_Outcome_left, defBody s_Outcome_left, defScope s_Outcome_left, [], []⟩, ⟨fun K => He5.wf K (He.ga K "Outcome") "property" "rows", "rows", "Outcome.rows", defArgs s_Outcome_rows, defBody s_Outcome_rows, defScope s_Outcome_rows, [], []⟩, ⟨fun K => He5.wf K (He.ga K "Outcome") "property" "moved", "moved", "Outcome.moved", defArgs s_Outcome_moved, defBody s_Outcome_moved, defScope s_Outcome_moved, [], []⟩, ⟨fun K => He5.wf K (He.ga K "Outcome") "property" "stop", "stop", "Outcome.stop", defArgs s_Outcome_stop, defBody s_Outcome_stop, defScope s_Outcome_stop, [], []⟩, ⟨fun K => He.ga K "_law_same", "_law_same", "_law_same", defArgs s__law_same, defBody s__law_same, defScope s__law_same, [], []⟩, ⟨fun K => He.ma K (He.ga K "Outcome") "__getitem__", "__getitem__", "Outcome.__getitem__", defArgs s_Outcome___getitem__, defBody s_Outcome___getitem__, defScope s_Outcome___getitem__, [], []⟩, ⟨fun K => He.ga K "_law_outcome_right", "_law_outcome_right", "_law_outcome_right", defArgs s__law_outcome_right, defBody s__law_outcome_right, defScope s__law_outcome_right, [], []⟩, ⟨fun K => He.ma K (He.ga K "Table") "__setitem__", "__setitem__", "Table.__setitem__", defArgs s_Table___setitem__, defBody s_Table___setitem__, defScope s_Table___setitem__, [], []⟩, ⟨fun K => He.ga K "law", "law", "law", defArgs s_law, defBody s_law, defScope s_law, [], []⟩]
def tbs (K : PySem.W.Frag) : List (Addr × Addr) := []
abbrev qs : List Str := []
def fas : List He.Fa := [.glo "_law_cell_at", .glo "_law_pen", .glo "_law_draw", .glo "_law_pick", .glo "_law_mixed", .glo "_law_pairs", .glo "rows_to_add", .glo "is_integer", .glo "is_key", .glo "is_pair", .glo "check_rows", .glo "new_keys", .glo "_law_rule", .glo "_law_ends", .glo "_law_run", .glo "check_table", .glo "are_rows", .glo "is_order", .glo "check_order", .glo "_law_same", .glo "_law_outcome_right", .glo "law", .glo "Missing", .glo "NotKey", .glo "NotOrder", .glo "NotRow", .glo "NotRule", .glo "NotTable", .glo "Outcome", .glo "Rule", .glo "Run", .glo "Table", .glo "TooMany", .glo "Twice", .free "all", .free "bool", .free "dict", .free "enumerate", .free "int", .free "isinstance", .free "len", .free "list", .free "max", .free "range", .free "repr", .free "set", .free "sorted", .free "super", .free "tuple", .int "KEY_BOUND" 1000000000000000000000000000000, .int "MOST_ROWS" 40, .glo "Abort", .glo "Fail", .glo "Ignore", .glo "Replace"]
abbrev mt_TooMany : Stmt := clsMeth (top 20) 0
abbrev di_TooMany : IniD := ⟨"TooMany", defArgs mt_TooMany, defBody mt_TooMany, defScope mt_TooMany⟩
abbrev mt_Twice : Stmt := clsMeth (top 19) 0
abbrev di_Twice : IniD := ⟨"Twice", defArgs mt_Twice, defBody mt_Twice, defScope mt_Twice⟩
def nis : List IniD := [di_TooMany, di_Twice]
abbrev PP : Program := PySem.Challenge.rw_rowclash_k04_statements_executed.prog
def exL : List (PySem.W.Frag → Bool) := [fun K => (XS.all fun c => excB K (He.ga K c)), fun K => (IS.all fun c => insB K (He.ga K c)), fun K => isiB K CS mros BI, fun K => exkB K (He.ga K "Missing"), fun K => exkB K (He.ga K "NotKey"), fun K => exkB K (He.ga K "NotOrder"), fun K => exkB K (He.ga K "NotRow"), fun K => exkB K (He.ga K "NotRule"), fun K => exkB K (He.ga K "NotTable"), fun K => stB K (He.ga K "TooMany") "many", fun K => stB K (He.ga K "TooMany") "most", fun K => iniB PP K (He.ga K "TooMany") (iniAd K "TooMany"), fun K => stB K (He.ga K "Twice") "key", fun K => iniB PP K (He.ga K "Twice") (iniAd K "Twice"), fun K => clsB K (He.ga K "Run"), fun K => noB K (He.ga K "Run") "_holders", fun K => noB K (He.ga K "Run") "_keys", fun K => clsB K (He.ga K "Table"), fun K => noB K (He.ga K "Table") "_new_keys", fun K => noB K (He.ga K "Run") "_rows", fun K => clsB K (He.ga K "Outcome"), fun K => noB K (He.ga K "Outcome") "_triple", fun K => noB K (He.ga K "Run") "_wanted", fun K => binB K (He.ga K "Table") .Add "tuple", fun K => conB K (He.ga K "Replace") "WORD" "replace", fun K => conB K (He.ga K "Ignore") "WORD" "ignore", fun K => conB K (He.ga K "Fail") "WORD" "fail", fun K => conB K (He.ga K "Abort") "WORD" "abort", fun K => mkOB K (He.ga K "Abort"), fun K => mkOB K (He.ga K "Fail"), fun K => mkOB K (He.ga K "Ignore"), fun K => mkOB K (He.ga K "Replace"), fun K => noSeq K (He.ga K "Table"), fun K => raiB K (He.ga K "Missing"), fun K => raiB K (He.ga K "NotKey"), fun K => raiB K (He.ga K "NotOrder"), fun K => raiB K (He.ga K "NotRow"), fun K => raiB K (He.ga K "NotRule"), fun K => raiB K (He.ga K "NotTable"), fun K => raiB K (He.ga K "TooMany"), fun K => raiB K (He.ga K "Twice"), fun K => propB K (He.ga K "Table") "rows", fun K => mkB K (He.ga K "Table"), fun K => methB K (He.ga K "Table") "__contains__", fun K => methB K (He.ga K "Table") "__len__", fun K => meB K (He.ga K "Run") "start_again" (He.ma K (He.ga K "Run") "start_again"), fun K => meB K (He.ga K "Run") "move" (He.ma K (He.ga K "Run") "move"), fun K => meB K (He.ga K "Run") "take_out" (He.ma K (He.ga K "Run") "take_out"), fun K => meB K (He.ga K "Run") "visit" (He.ma K (He.ga K "Run") "visit"), fun K => meB K (He.ga K "Replace") "settle" (He.ma K (He.ga K "Removes") "settle"), fun K => meB K (He.ga K "Ignore") "settle" (He.ma K (He.ga K "Leaves") "settle"), fun K => meB K (He.ga K "Fail") "settle" (He.ma K (He.ga K "Leaves") "settle"), fun K => meB K (He.ga K "Abort") "settle" (He.ma K (He.ga K "Undoes") "settle"), fun K => meB K (He.ga K "Replace") "goes_on" (He.ma K (He.ga K "Continues") "goes_on"), fun K => meB K (He.ga K "Ignore") "goes_on" (He.ma K (He.ga K "Continues") "goes_on"), fun K => meB K (He.ga K "Fail") "goes_on" (He.ma K (He.ga K "Stops") "goes_on"), fun K => meB K (He.ga K "Abort") "goes_on" (He.ma K (He.ga K "Stops") "goes_on"), fun K => mkB K (He.ga K "Run"), fun K => meB K (He.ga K "Replace") "visit_all" (He.ma K (He.ga K "Rule") "visit_all"), fun K => meB K (He.ga K "Ignore") "visit_all" (He.ma K (He.ga K "Rule") "visit_all"), fun K => meB K (He.ga K "Fail") "visit_all" (He.ma K (He.ga K "Rule") "visit_all"), fun K => meB K (He.ga K "Abort") "visit_all" (He.ma K (He.ga K "Rule") "visit_all"), fun K => mkB K (He.ga K "Outcome"), fun K => meB K (He.ga K "Run") "held_by_rows" (He.ma K (He.ga K "Run") "held_by_rows"), fun K => propB K (He.ga K "Outcome") "ends", fun K => propB K (He.ga K "Outcome") "rows", fun K => methB K (He.ga K "Outcome") "__len__", fun K => propB K (He.ga K "Outcome") "held", fun K => propB K (He.ga K "Outcome") "left", fun K => propB K (He.ga K "Outcome") "moved", fun K => propB K (He.ga K "Outcome") "stop", fun K => methB K (He.ga K "Outcome") "__getitem__", fun K => methB K (He.ga K "Table") "__add__", fun K => smB K (He.ga K "Rule") "named", fun K => coB K (He.ga K "Replace") (He.ma K (He.ga K "Rule") "__call__"), fun K => coB K (He.ga K "Ignore") (He.ma K (He.ga K "Rule") "__call__"), fun K => coB K (He.ga K "Fail") (He.ma K (He.ga K "Rule") "__call__"), fun K => coB K (He.ga K "Abort") (He.ma K (He.ga K "Rule") "__call__"), fun K => methB K (He.ga K "Table") "__setitem__"]
def exs (K : PySem.W.Frag) : Bool := exL.all fun b => b K
end Lw
namespace Lw
open L2 PySem.W Ma PySem.Spec PySem PyProof.Rows
abbrev R : OpenRow := OpenLaw.row PySem.Challenge.rw_rowclash_k04_statements_executed
abbrev asL : List Addr := ([2, 3, 6, 4, 21, 28, 35, 42, 47, 52, 59, 66] : List Addr) ++ ([76, 89, 101, 113, 125, 137, 149, 161, 182, 203, 210, 215] : List Addr) ++ ([222, 323, 334, 341, 463, 517, 583, 604, 623, 642, 661, 680] : List Addr) ++ ([692, 704, 716, 728, 737, 744, 751, 758, 765, 772, 777, 782] : List Addr) ++ ([789, 796, 801, 806, 0, 20, 27, 34, 41, 46, 51, 58] : List Addr) ++ ([65, 75, 88, 100, 112, 124, 136, 148, 160, 181, 202, 209] : List Addr) ++ ([214, 221, 322, 333, 340, 462, 516, 582, 603, 622, 641, 660] : List Addr) ++ ([679, 691, 703, 715, 727, 736, 743, 750, 757, 764, 771, 776] : List Addr) ++ ([781, 788, 795, 800, 805, 15, 17, 18, 19, 22, 24, 25] : List Addr) ++ ([26, 29, 31, 32, 33, 36, 38, 39, 40, 43, 45, 48] : List Addr) ++ ([50, 53, 55, 56, 57, 60, 62, 63, 64, 74, 77, 87] : List Addr) ++ ([99, 111, 123, 135, 147, 159, 179, 180, 200, 201, 206, 208] : List Addr) ++ ([211, 213, 216, 218, 219, 220, 236, 245, 254, 261, 268, 275] : List Addr) ++ ([282, 289, 296, 301, 308, 315, 320, 321, 324, 325, 328, 330] : List Addr) ++ ([331, 332, 335, 337, 338, 339, 355, 363, 371, 379, 385, 391] : List Addr) ++ ([397, 404, 411, 418, 425, 432, 439, 446, 453, 460, 461, 464] : List Addr) ++ ([465, 481, 486, 493, 500, 507, 514, 515, 518, 519, 537, 545] : List Addr) ++ ([552, 559, 566, 573, 580, 581, 584, 585, 601, 602, 620, 621] : List Addr) ++ ([639, 640, 658, 659, 677, 678, 690, 702, 714, 726, 731, 733] : List Addr) ++ ([734, 735, 738, 740, 741, 742, 745, 747, 748, 749, 752, 754] : List Addr) ++ ([755, 756, 759, 761, 762, 763, 766, 768, 769, 770, 773, 775] : List Addr) ++ ([778, 780, 783, 785, 786, 787, 790, 792, 793, 794, 797, 799] : List Addr) ++ ([802, 804, 178, 167, 199, 188, 235, 243, 244, 253, 260, 267] : List Addr) ++ ([274, 281, 288, 295, 300, 307, 314, 319, 354, 362, 370, 378] : List Addr) ++ ([384, 390, 396, 403, 410, 417, 424, 431, 438, 445, 452, 459] : List Addr) ++ ([480, 485, 492, 499, 506, 513, 535, 536, 544, 551, 558, 565] : List Addr) ++ ([572, 579, 600, 619, 638, 657, 676, 173, 175, 176, 177, 194] : List Addr) ++ ([196, 197, 198, 230, 232, 233, 234, 242, 246, 252, 255, 257] : List Addr) ++ ([258, 259, 262, 264, 265, 266, 269, 271, 272, 273, 276, 278] : List Addr) ++ ([279, 280, 283, 285, 286, 287, 290, 292, 293, 294, 297, 299] : List Addr) ++ ([302, 304, 305, 306, 309, 311, 312, 313, 316, 318, 349, 351] : List Addr) ++ ([352, 353, 361, 369, 377, 383, 389, 395, 398, 400, 401, 402] : List Addr) ++ ([405, 407, 408, 409, 412, 414, 415, 416, 419, 421, 422, 423] : List Addr) ++ ([426, 428, 429, 430, 433, 435, 436, 437, 440, 442, 443, 444] : List Addr) ++ ([447, 449, 450, 451, 454, 456, 457, 458, 475, 477, 478, 479] : List Addr) ++ ([482, 484, 487, 489, 490, 491, 494, 496, 497, 498, 501, 503] : List Addr) ++ ([504, 505, 508, 510, 511, 512, 534, 538, 539, 541, 542, 543] : List Addr) ++ ([546, 548, 549, 550, 553, 555, 556, 557, 560, 562, 563, 564] : List Addr) ++ ([567, 569, 570, 571, 574, 576, 577, 578, 595, 597, 598, 599] : List Addr) ++ ([614, 616, 617, 618, 633, 635, 636, 637, 652, 654, 655, 656] : List Addr) ++ ([671, 673, 674, 675, 237, 239, 240, 241, 247, 249, 250, 251] : List Addr) ++ ([356, 358, 359, 360, 364, 366, 367, 368, 372, 374, 375, 376] : List Addr) ++ ([380, 382, 386, 388, 392, 394, 529, 531, 532, 533] : List Addr)
abbrev hk : Hook := hookL asL fas fns nis exs tbs
def ob (s : SharedT) : AlM := obsLG asL fas fns nis exs tbs (HandSHeadRun.getT s)
theorem ob_eq (s : SharedT) : ob s = hk.obs s.abs := obsLG_eq (HandSHeadRun.getT_eq s)
abbrev loose : List Str := (["_wall", "KEY_BOUND", "is_integer", "is_key", "is_pair", "are_rows", "is_ascending", "is_set_of_rows", "is_order", "RowError", "NotRow", "NotTable"] : List Str) ++ (["NotKey", "NotRows", "NotOrder", "NotRule", "Missing", "Twice", "TooMany", "MOST_ROWS", "check_rows", "new_keys", "rows_to_add", "Table"] : List Str) ++ (["check_table", "check_order", "Outcome", "Run", "Rule", "Stops", "Continues", "Undoes", "Leaves", "Removes", "Abort", "Fail"] : List Str) ++ (["Ignore", "Replace", "_law_cell_at", "_law_pen", "_law_draw", "_law_pick", "_law_mixed", "_law_pairs", "_law_ends", "_law_run", "_law_rule", "_law_same"] : List Str) ++ (["_law_outcome_right"] : List Str)
theorem run_b (w : World) : HandSHeadRun.RunB R 15000 w := by
  intro os
  kernel_rfl
theorem run_c (w : World) : HandSHeadRun.RunC R (view R.prog [57]) 15000 loose w := by
  intro os
  kernel_rfl
theorem run_d (w : World) : HandSHeadRun.RunD R hk ob 15000 w := by
  intro os
  kernel_rfl
theorem run (w : World) : HandSHeadRun.RunEq R (view R.prog [57]) hk ob 15000 loose w := HandSHeadRun.run_of (run_b w) (run_c w) (run_d w)
end Lw
namespace Lw
open L2 Ma PySem.Spec PySem PyProof.Rows
structure Bt (P : Program) (w : World) (mg : Str → Option Value) (T : Tab) : Prop where
  b_all : mg "all" = none
  b_bool : mg "bool" = none
  b_dict : mg "dict" = none
  b_enumerate : mg "enumerate" = none
  b_int : mg "int" = none
  b_isinstance : mg "isinstance" = none
  b_len : mg "len" = none
  b_list : mg "list" = none
  b_max : mg "max" = none
  b_range : mg "range" = none
  b_repr : mg "repr" = none
  b_set : mg "set" = none
  b_sorted : mg "sorted" = none
  b_tuple : mg "tuple" = none
  c_KEY_BOUND : ∃ t, mg "KEY_BOUND" = some (.int 1000000000000000000000000000000 t)
  c_MOST_ROWS : ∃ t, mg "MOST_ROWS" = some (.int 40 t)
  kc_Rule : KnC mg T "Rule"
  kc_Table : KnC mg T "Table"
  ke_Missing : KnE mg T "Missing"
  ke_NotKey : KnE mg T "NotKey"
  ke_NotOrder : KnE mg T "NotOrder"
  ke_NotRow : KnE mg T "NotRow"
  ke_NotRule : KnE mg T "NotRule"
  ke_NotTable : KnE mg T "NotTable"
  ki_TooMany : KnI P w mg T "TooMany" ["many", "most"] [.inr 0, .inl " are too many, ", .inr 1, .inl " is the most"]
  ki_Twice : KnI P w mg T "Twice" ["key"] [.inl "two rows have the key ", .inr 0]
  f__holders : FldK T ["Run"] [] "_holders"
  f__keys : FldK T ["Run"] [] "_keys"
  f__new_keys : FldK T ["Table"] [] "_new_keys"
  f__rows : FldK T ["Run"] [] "_rows"
  f__triple : FldK T ["Outcome"] [] "_triple"
  f__wanted : FldK T ["Run"] [] "_wanted"
  bk_Table_add : BinK T "Table" .Add "tuple"
  con_WORD : ConT T "WORD" tbs_WORD
  fc_Outcome__triple : FldC T "Outcome" "_triple"
  fc_Run__holders : FldC T "Run" "_holders"
  fc_Run__keys : FldC T "Run" "_keys"
  fc_Run__rows : FldC T "Run" "_rows"
  fc_Run__wanted : FldC T "Run" "_wanted"
  fc_Table__new_keys : FldC T "Table" "_new_keys"
  ko_Abort : KnO mg T "Abort"
  ko_Fail : KnO mg T "Fail"
  ko_Ignore : KnO mg T "Ignore"
  ko_Replace : KnO mg T "Replace"
  ns_Table : NoS T "Table"
  ra_Missing : RaiF T "Missing"
  ra_NotKey : RaiF T "NotKey"
  ra_NotOrder : RaiF T "NotOrder"
  ra_NotRow : RaiF T "NotRow"
  ra_NotRule : RaiF T "NotRule"
  ra_NotTable : RaiF T "NotTable"
  ra_TooMany : RaiF T "TooMany"
  ra_Twice : RaiF T "Twice"
  x : Cx0 T IS XS isi
theorem sc__law_cell_at : FnScope ["_law_script", "_law_k"] ["_law_script", "_law_k"] (defScope s__law_cell_at) := ⟨rfl, rfl, rfl, by decide +kernel, rfl, by decide +kernel, by decide +kernel⟩
def m__law_cell_at : MStm := (sSeq (sIf (mB (m2 oLt (mv 1) (mCall (mCons (mv 0) mNil) (cLenD cLen)))) (sRet (m2 (oIxD oIx) (mv 0) (mv 1))) sNx) (sRet (mc (.int 0))))
def F__law_cell_at : Fn := posF 2 [] (bodyF 2 2 m__law_cell_at)
theorem d__law_cell_at {P : Program} {w : World} {mg : Str → Option Value} {base : Heap} {T : Tab} (B : Bt P w mg T)  {f : Addr} {cdv : Value} {A : Around} {outer : List Env} {s : Shared} {H : Hp} {E : XK} {g : Gh}  (hr : RoomG 0 (A.deeper (envOfC "_law_cell_at" (defScope s__law_cell_at) s.heap.objs.size f cdv))) :
    PMb (cAt P w mg base T ["_law_script", "_law_k"] "_law_cell_at" (defScope s__law_cell_at) f cdv A outer s H E g) (defBody s__law_cell_at) m__law_cell_at :=
  have nd := sc__law_cell_at.nd
  have hu := hr.toRoom.units
  have hu2 := room65 hr
  have hgd := hr.gs
  (bm_cons (sm_if (tm_cmp ok_lt (em_v 1) (em_callG (callG_lenD (CallG.of call_len ok_len)) B.b_len (am_cons (em_v 0) am_nil)) (nomark _)) (bm_one (sm_ret (em_ixG (ixG_dict (room1 hu) ixG_seq) (em_v 0) (em_v 1) ⟨fun _ _ => rfl, fun _ _ => rfl⟩))) bm_nil) (bm_one (sm_ret em_int)))
theorem k__law_cell_at {P : Program} {w : World} {mg : Str → Option Value} {base : Heap} {T : Tab} (B : Bt P w mg T)  {f : Addr} {fd : FuncData} (F : Fun T.K "_law_cell_at" "_law_cell_at" s__law_cell_at f fd) (hm : mg "_law_cell_at" = some (.ref f)) : Kn P w mg base T "_law_cell_at" 1 F__law_cell_at :=
  ⟨f, FnP.of (dms := []) (fnG_of F sc__law_cell_at fun cdv A outer s H E g hr => d__law_cell_at B  hr) (F.binds (fun _ _ _ _ _ _ us hl => match us, hl with | [_, _], _ => rfl)) .nil (fun _ _ => .nil), hm, F.kp⟩
theorem sc__law_pen : FnScope ["_law_cell"] ["_law_cell"] (defScope s__law_pen) := ⟨rfl, rfl, rfl, by decide +kernel, rfl, by decide +kernel, by decide +kernel⟩
def m__law_pen : MStm := (sRet (mLstB (mCons (mCall (mCons (mc (.int 0)) (mCons (m2 oSub (mv 0) (m2 oPow (mc (.int 10)) (mc (.int 18)))) mNil)) cMax) (mCons (m2 oMod (mCall (mCons (mv 0) mNil) cInt) (mc (.int 2147483629))) (mCons (mc (.int 1)) mNil)))))
def F__law_pen : Fn := posF 1 [] (bodyF 1 1 m__law_pen)
theorem d__law_pen {P : Program} {w : World} {mg : Str → Option Value} {base : Heap} {T : Tab} (B : Bt P w mg T)  {f : Addr} {cdv : Value} {A : Around} {outer : List Env} {s : Shared} {H : Hp} {E : XK} {g : Gh}  (hr : RoomG 0 (A.deeper (envOfC "_law_pen" (defScope s__law_pen) s.heap.objs.size f cdv))) :
    PMb (cAt P w mg base T ["_law_cell"] "_law_pen" (defScope s__law_pen) f cdv A outer s H E g) (defBody s__law_pen) m__law_pen :=
  have nd := sc__law_pen.nd
  have hu := hr.toRoom.units
  have hu2 := room65 hr
  have hgd := hr.gs
  (bm_one (sm_ret (em_lstB (am_cons (em_callB (call_max2 rfl) ok_max2 B.b_max (am_cons em_int (am_cons (em_bin ok_sub (em_v 0) (em_bin ok_pow em_int em_int)) am_nil))) (am_cons (em_bin ok_mod (em_callT call_int1 ok_int B.b_int (am_cons (em_v 0) am_nil)) em_int) (am_cons em_int am_nil))))))
theorem k__law_pen {P : Program} {w : World} {mg : Str → Option Value} {base : Heap} {T : Tab} (B : Bt P w mg T)  {f : Addr} {fd : FuncData} (F : Fun T.K "_law_pen" "_law_pen" s__law_pen f fd) (hm : mg "_law_pen" = some (.ref f)) : Kn P w mg base T "_law_pen" 1 F__law_pen :=
  ⟨f, FnP.of (dms := []) (fnG_of F sc__law_pen fun cdv A outer s H E g hr => d__law_pen B  hr) (F.binds (fun _ _ _ _ _ _ us hl => match us, hl with | [_], _ => rfl)) .nil (fun _ _ => .nil), hm, F.kp⟩
theorem sc__law_draw : FnScope ["_law_pen_here", "_law_many", "_law_stirred", "_law_digit"] ["_law_pen_here", "_law_many"] (defScope s__law_draw) := ⟨rfl, rfl, rfl, by decide +kernel, rfl, by decide +kernel, by decide +kernel⟩
def m__law_draw : MStm := (sSeq (sIf (mB (m2 oGt (m2 (oIxD oIx) (mv 0) (mc (.int 0))) (mc (.int 0)))) (sSeq (sSet 3 (m2 oMod (mCall (mCons (m2 (oIxD oIx) (mv 0) (mc (.int 0))) mNil) cInt) (mv 1))) (sSeq (sAsg (m2 oDivW (m2 (oIxD oIx) (mv 0) (mc (.int 0))) (mv 1)) (gSub (mv 0) (mc (.int 0)) (fSetD fSetL))) (sRet (mv 3)))) sNx) (sSeq (sAsg (m2 oAdd (m2 (oIxD oIx) (mv 0) (mc (.int 2))) (mc (.int 1))) (gSub (mv 0) (mc (.int 2)) (fSetD fSetL))) (sSeq (sAsg (m2 oMod (mCall (mCons (m2 oAdd (m2 oAdd (m2 oMul (m2 (oIxD oIx) (mv 0) (mc (.int 1))) (mc (.int 48271))) (m2 oMul (mc (.int 7919)) (m2 (oIxD oIx) (mv 0) (mc (.int 2))))) (mc (.int 11))) mNil) cInt) (mc (.int 2147483647))) (gSub (mv 0) (mc (.int 1)) (fSetD fSetL))) (sSeq (sSet 2 (m2 oMod (mCall (mCons (m2 oAdd (m2 oAdd (m2 oMul (m2 (oIxD oIx) (mv 0) (mc (.int 1))) (m2 (oIxD oIx) (mv 0) (mc (.int 1)))) (m2 oMul (mc (.int 40014)) (m2 (oIxD oIx) (mv 0) (mc (.int 1))))) (m2 (oIxD oIx) (mv 0) (mc (.int 2)))) mNil) cInt) (mc (.int 2147483563)))) (sRet (m2 oMod (mCall (mCons (m2 oDivW (m2 oMod (mCall (mCons (m2 oMul (mv 2) (mc (.int 16807))) mNil) cInt) (mc (.int 2147483647))) (mc (.int 64))) mNil) cInt) (mv 1)))))))
def F__law_draw : Fn := posF 2 [] (bodyF 2 4 m__law_draw)
theorem d__law_draw {P : Program} {w : World} {mg : Str → Option Value} {base : Heap} {T : Tab} (B : Bt P w mg T)  {f : Addr} {cdv : Value} {A : Around} {outer : List Env} {s : Shared} {H : Hp} {E : XK} {g : Gh}  (hr : RoomG 0 (A.deeper (envOfC "_law_draw" (defScope s__law_draw) s.heap.objs.size f cdv))) :
    PMb (cAt P w mg base T ["_law_pen_here", "_law_many", "_law_stirred", "_law_digit"] "_law_draw" (defScope s__law_draw) f cdv A outer s H E g) (defBody s__law_draw) m__law_draw :=
  have nd := sc__law_draw.nd
  have hu := hr.toRoom.units
  have hu2 := room65 hr
  have hgd := hr.gs
  (bm_cons (sm_if (tm_cmp ok_gt (em_ixG (ixG_dict (room1 hu) ixG_seq) (em_v 0) em_int ⟨fun _ _ => rfl, fun _ _ => rfl⟩) em_int (nomark _)) (bm_cons (sm_set 3 nd rfl (Or.inl rfl) (em_bin ok_mod (em_callT call_int1 ok_int B.b_int (am_cons (em_ixG (ixG_dict (room1 hu) ixG_seq) (em_v 0) em_int ⟨fun _ _ => rfl, fun _ _ => rfl⟩) am_nil)) (em_v 1))) (bm_cons (sm_asg (em_bin ok_divW (em_ixG (ixG_dict (room1 hu) ixG_seq) (em_v 0) em_int ⟨fun _ _ => rfl, fun _ _ => rfl⟩) (em_v 1)) (gm_subG (setG_dict (room1 hu) (setG_list set_list)) (em_v 0) em_int)) (bm_one (sm_ret (em_v 3))))) bm_nil) (bm_cons (sm_asg (em_bin ok_add (em_ixG (ixG_dict (room1 hu) ixG_seq) (em_v 0) em_int ⟨fun _ _ => rfl, fun _ _ => rfl⟩) em_int) (gm_subG (setG_dict (room1 hu) (setG_list set_list)) (em_v 0) em_int)) (bm_cons (sm_asg (em_bin ok_mod (em_callT call_int1 ok_int B.b_int (am_cons (em_bin ok_add (em_bin ok_add (em_bin ok_mul (em_ixG (ixG_dict (room1 hu) ixG_seq) (em_v 0) em_int ⟨fun _ _ => rfl, fun _ _ => rfl⟩) em_int) (em_bin ok_mul em_int (em_ixG (ixG_dict (room1 hu) ixG_seq) (em_v 0) em_int ⟨fun _ _ => rfl, fun _ _ => rfl⟩))) em_int) am_nil)) em_int) (gm_subG (setG_dict (room1 hu) (setG_list set_list)) (em_v 0) em_int)) (bm_cons (sm_set 2 nd rfl (Or.inl rfl) (em_bin ok_mod (em_callT call_int1 ok_int B.b_int (am_cons (em_bin ok_add (em_bin ok_add (em_bin ok_mul (em_ixG (ixG_dict (room1 hu) ixG_seq) (em_v 0) em_int ⟨fun _ _ => rfl, fun _ _ => rfl⟩) (em_ixG (ixG_dict (room1 hu) ixG_seq) (em_v 0) em_int ⟨fun _ _ => rfl, fun _ _ => rfl⟩)) (em_bin ok_mul em_int (em_ixG (ixG_dict (room1 hu) ixG_seq) (em_v 0) em_int ⟨fun _ _ => rfl, fun _ _ => rfl⟩))) (em_ixG (ixG_dict (room1 hu) ixG_seq) (em_v 0) em_int ⟨fun _ _ => rfl, fun _ _ => rfl⟩)) am_nil)) em_int)) (bm_one (sm_ret (em_bin ok_mod (em_callT call_int1 ok_int B.b_int (am_cons (em_bin ok_divW (em_bin ok_mod (em_callT call_int1 ok_int B.b_int (am_cons (em_bin ok_mul (em_v 2) em_int) am_nil)) em_int) em_int) am_nil)) (em_v 1))))))))
theorem k__law_draw {P : Program} {w : World} {mg : Str → Option Value} {base : Heap} {T : Tab} (B : Bt P w mg T)  {f : Addr} {fd : FuncData} (F : Fun T.K "_law_draw" "_law_draw" s__law_draw f fd) (hm : mg "_law_draw" = some (.ref f)) : Kn P w mg base T "_law_draw" 1 F__law_draw :=
  ⟨f, FnP.of (dms := []) (fnG_of F sc__law_draw fun cdv A outer s H E g hr => d__law_draw B  hr) (F.binds (fun _ _ _ _ _ _ us hl => match us, hl with | [_, _], _ => rfl)) .nil (fun _ _ => .nil), hm, F.kp⟩
theorem sc__law_pick : FnScope ["_law_pen_here", "_law_things"] ["_law_pen_here", "_law_things"] (defScope s__law_pick) := ⟨rfl, rfl, rfl, by decide +kernel, rfl, by decide +kernel, by decide +kernel⟩
def m__law_pick : MStm := (sRet (m2 (oIxD oIx) (mv 1) (mFn (mCons (mv 0) (mCons (mCall (mCons (mv 1) mNil) (cLenD cLen)) mNil)) F__law_draw)))
def F__law_pick : Fn := posF 2 [] (bodyF 2 2 m__law_pick)
theorem d__law_pick {P : Program} {w : World} {mg : Str → Option Value} {base : Heap} {T : Tab} (B : Bt P w mg T) (h__law_draw : Kn P w mg base T "_law_draw" 1 F__law_draw) {f : Addr} {cdv : Value} {A : Around} {outer : List Env} {s : Shared} {H : Hp} {E : XK} {g : Gh}  (hr : RoomG 1 (A.deeper (envOfC "_law_pick" (defScope s__law_pick) s.heap.objs.size f cdv))) :
    PMb (cAt P w mg base T ["_law_pen_here", "_law_things"] "_law_pick" (defScope s__law_pick) f cdv A outer s H E g) (defBody s__law_pick) m__law_pick :=
  have nd := sc__law_pick.nd
  have hu := hr.toRoom.units
  have hu2 := room65 hr
  have hgd := hr.gs
  (bm_one (sm_ret (em_ixG (ixG_dict (room1 hu) ixG_seq) (em_v 1) (em_kn h__law_draw (hr.less (by decide)) cAt_takes (am_cons (em_v 0) (am_cons (em_callG (callG_lenD (CallG.of call_len ok_len)) B.b_len (am_cons (em_v 1) am_nil)) am_nil))) ⟨fun _ _ => rfl, fun _ _ => rfl⟩)))
theorem k__law_pick {P : Program} {w : World} {mg : Str → Option Value} {base : Heap} {T : Tab} (B : Bt P w mg T) (h__law_draw : Kn P w mg base T "_law_draw" 1 F__law_draw) {f : Addr} {fd : FuncData} (F : Fun T.K "_law_pick" "_law_pick" s__law_pick f fd) (hm : mg "_law_pick" = some (.ref f)) : Kn P w mg base T "_law_pick" 2 F__law_pick :=
  ⟨f, FnP.of (dms := []) (fnG_of F sc__law_pick fun cdv A outer s H E g hr => d__law_pick B h__law_draw hr) (F.binds (fun _ _ _ _ _ _ us hl => match us, hl with | [_, _], _ => rfl)) .nil (fun _ _ => .nil), hm, F.kp⟩
theorem sc__law_mixed : FnScope ["_law_pen_here", "_law_things", "_law_left", "_law_found"] ["_law_pen_here", "_law_things"] (defScope s__law_mixed) := ⟨rfl, rfl, rfl, by decide +kernel, rfl, by decide +kernel, by decide +kernel⟩
def m__law_mixed : MStm := (sSeq (sPar2 2 3 (mCons (mCall (mCons (mv 1) mNil) cListB) (mCons (mLstB mNil) mNil))) (sSeq (sWh (mB (m2 (oEqK true (oEqD true)) (mv 2) (mLst mNil))) (sExpr (mAppend (mv 3) (mPopAt (mv 2) (mFn (mCons (mv 0) (mCons (mCall (mCons (mv 2) mNil) (cLenD cLen)) mNil)) F__law_draw)))) 1000000) (sRet (mFrz (mv 3)))))
def F__law_mixed : Fn := posF 2 [] (bodyF 2 4 m__law_mixed)
theorem d__law_mixed {P : Program} {w : World} {mg : Str → Option Value} {base : Heap} {T : Tab} (B : Bt P w mg T) (h__law_draw : Kn P w mg base T "_law_draw" 1 F__law_draw) {f : Addr} {cdv : Value} {A : Around} {outer : List Env} {s : Shared} {H : Hp} {E : XK} {g : Gh}  (hr : RoomG 1 (A.deeper (envOfC "_law_mixed" (defScope s__law_mixed) s.heap.objs.size f cdv))) :
    PMb (cAt P w mg base T ["_law_pen_here", "_law_things", "_law_left", "_law_found"] "_law_mixed" (defScope s__law_mixed) f cdv A outer s H E g) (defBody s__law_mixed) m__law_mixed :=
  have nd := sc__law_mixed.nd
  have hu := hr.toRoom.units
  have hu2 := room65 hr
  have hgd := hr.gs
  (bm_cons (sm_par2 2 3 rfl nd (am_cons (em_callT call_list_of ok_listB B.b_list (am_cons (em_v 1) am_nil)) (am_cons (em_lstB am_nil) am_nil))) (bm_cons (sm_while 1000000 (passes_of rfl) (tm_cmp (op_neK (room0 hu) (ok_neD hu)) (em_v 2) (em_lst am_nil) (nomark _)) (bm_one (sm_expr (em_append (em_v 3) (em_popAt (em_v 2) (em_kn h__law_draw (hr.less (by decide)) cAt_takes (am_cons (em_v 0) (am_cons (em_callG (callG_lenD (CallG.of call_len ok_len)) B.b_len (am_cons (em_v 2) am_nil)) am_nil)))))))) (bm_one (sm_ret (em_frz (em_v 3))))))
theorem k__law_mixed {P : Program} {w : World} {mg : Str → Option Value} {base : Heap} {T : Tab} (B : Bt P w mg T) (h__law_draw : Kn P w mg base T "_law_draw" 1 F__law_draw) {f : Addr} {fd : FuncData} (F : Fun T.K "_law_mixed" "_law_mixed" s__law_mixed f fd) (hm : mg "_law_mixed" = some (.ref f)) : Kn P w mg base T "_law_mixed" 2 F__law_mixed :=
  ⟨f, FnP.of (dms := []) (fnG_of F sc__law_mixed fun cdv A outer s H E g hr => d__law_mixed B h__law_draw hr) (F.binds (fun _ _ _ _ _ _ us hl => match us, hl with | [_, _], _ => rfl)) .nil (fun _ _ => .nil), hm, F.kp⟩
theorem sc__law_pairs : FnScope ["_law_pen_here", "_law_most", "_law_many", "_law_spots", "_law_pairs_here", "_law_scale", "_law_shift", "_law_way", "_law_keys", "_law_free", "_law_turned", "_law_at", "_law_key", "_law_to"] ["_law_pen_here", "_law_most"] (defScope s__law_pairs) := ⟨rfl, rfl, rfl, by decide +kernel, rfl, by decide +kernel, by decide +kernel⟩
def m__law_pairs : MStm := (sSeq (sSet 2 (mFn (mCons (mv 0) (mCons (m2 oAdd (mv 1) (mc (.int 1))) mNil)) F__law_draw)) (sSeq (sPar3 5 6 7 (mCons (mFn (mCons (mv 0) (mCons (mLst (mCons (mc (.int 1)) (mCons (mc (.int 1)) (mCons (mc (.int 3)) (mCons (m2 oPow (mc (.int 10)) (mc (.int 9))) (mCons (m2 oPow (mc (.int 10)) (mc (.int 28))) mNil)))))) mNil)) F__law_pick) (mCons (mFn (mCons (mv 0) (mCons (m2 oAdd (m2 oMul (mc (.int 2)) (mv 2)) (mc (.int 2))) mNil)) F__law_draw) (mCons (mFn (mCons (mv 0) (mCons (mc (.int 7)) mNil)) F__law_draw) mNil)))) (sSeq (sSet 3 (mFn (mCons (mv 0) (mCons (mListRange (m2 oAdd (m2 oMul (mc (.int 2)) (mv 2)) (mc (.int 2)))) mNil)) F__law_mixed)) (sSeq (sPar3 8 9 10 (mCons (mSl (mv 3) oNo (oSome (mv 2))) (mCons (mSl (mv 3) (oSome (mv 2)) oNo) (mCons (mFn (mCons (mv 0) (mCons (mSl (mv 3) oNo (oSome (mv 2))) mNil)) F__law_mixed) mNil)))) (sSeq (sSet 4 (mLstB mNil)) (sSeq (sForI (iEnum (mCons (mv 8) mNil)) (gUnpN [11, 12]) (sSeq (sSet 13 (mFn (mCons (mv 0) (mCons (mLst (mCons (mFn (mCons (mv 0) (mCons (mv 3) mNil)) F__law_pick) (mCons (mFn (mCons (mv 0) (mCons (mv 9) mNil)) F__law_pick) (mCons (mv 12) (mCons (mFn (mCons (mv 0) (mCons (mv 8) mNil)) F__law_pick) mNil))))) mNil)) F__law_pick)) (sSeq (sIf (mB (m2 (oEqK false (oEqD false)) (mv 7) (mc (.int 1)))) (sSet 13 (m2 (oIxD oIx) (mv 10) (mv 11))) sNx) (sSeq (sIf (mAnd (mB (m2 (oEqK false (oEqD false)) (mv 7) (mc (.int 2)))) (mB (m2 oGt (mFn (mCons (mv 0) (mCons (mc (.int 8)) mNil)) F__law_draw) (mc (.int 0))))) (sSet 13 (m2 (oIxD oIx) (m2 oAdd (mv 8) (mv 9)) (m2 oAdd (mv 11) (mc (.int 1))))) sNx) (sSeq (sIf (mB (m2 (oEqK false (oEqD false)) (mv 7) (mc (.int 3)))) (sSet 13 (m2 (oIxD oIx) (m2 oAdd (mv 8) (mv 9)) (m2 oSub (m2 oAdd (mv 11) (mc (.int 1))) (m2 oMul (mFn (mCons (mv 0) (mCons (mc (.int 2)) mNil)) F__law_draw) (mv 11))))) sNx) (sSeq (sIf (mB (m2 (oEqK false (oEqD false)) (mv 7) (mc (.int 4)))) (sSet 13 (m2 (oIxD oIx) (m2 oAdd (mSl (mv 9) oNo (oSome (mc (.int 1)))) (mv 8)) (mCall (mCons (mc (.int 0)) (mCons (m2 oSub (mv 11) (mFn (mCons (mv 0) (mCons (mc (.int 4)) mNil)) F__law_draw)) mNil)) cMax))) sNx) (sSeq (sIf (mAnd (mB (m2 (oEqK false (oEqD false)) (mv 7) (mc (.int 5)))) (mB (m2 oGt (mv 11) (mc (.int 0))))) (sSet 13 (mFn (mCons (mv 0) (mCons (m2 oAdd (mSl (mv 8) oNo (oSome (mv 11))) (mSl (mv 9) oNo (oSome (mc (.int 2))))) mNil)) F__law_pick)) sNx) (sExpr (mAppend (mv 4) (mTup (mCons (m2 oMul (m2 oSub (mv 12) (mv 6)) (mv 5)) (mCons (m2 oMul (m2 oSub (mv 13) (mv 6)) (mv 5)) mNil)))))))))))) (sRet (mFrz (mv 4)))))))))
def F__law_pairs : Fn := posF 2 [] (bodyF 2 14 m__law_pairs)
theorem d__law_pairs {P : Program} {w : World} {mg : Str → Option Value} {base : Heap} {T : Tab} (B : Bt P w mg T) (h__law_draw : Kn P w mg base T "_law_draw" 1 F__law_draw) (h__law_pick : Kn P w mg base T "_law_pick" 2 F__law_pick) (h__law_mixed : Kn P w mg base T "_law_mixed" 2 F__law_mixed) {f : Addr} {cdv : Value} {A : Around} {outer : List Env} {s : Shared} {H : Hp} {E : XK} {g : Gh}  (hr : RoomG 2 (A.deeper (envOfC "_law_pairs" (defScope s__law_pairs) s.heap.objs.size f cdv))) :
    PMb (cAt P w mg base T ["_law_pen_here", "_law_most", "_law_many", "_law_spots", "_law_pairs_here", "_law_scale", "_law_shift", "_law_way", "_law_keys", "_law_free", "_law_turned", "_law_at", "_law_key", "_law_to"] "_law_pairs" (defScope s__law_pairs) f cdv A outer s H E g) (defBody s__law_pairs) m__law_pairs :=
  have nd := sc__law_pairs.nd
  have hu := hr.toRoom.units
  have hu2 := room65 hr
  have hgd := hr.gs
  (bm_cons (sm_set 2 nd rfl (Or.inl rfl) (em_kn h__law_draw (hr.less (by decide)) cAt_takes (am_cons (em_v 0) (am_cons (em_bin ok_add (em_v 1) em_int) am_nil)))) (bm_cons (sm_par3 5 6 7 rfl nd (am_cons (em_kn h__law_pick (hr.less (by decide)) cAt_takes (am_cons (em_v 0) (am_cons (em_lst (am_cons em_int (am_cons em_int (am_cons em_int (am_cons (em_bin ok_pow em_int em_int) (am_cons (em_bin ok_pow em_int em_int) am_nil)))))) am_nil))) (am_cons (em_kn h__law_draw (hr.less (by decide)) cAt_takes (am_cons (em_v 0) (am_cons (em_bin ok_add (em_bin ok_mul em_int (em_v 2)) em_int) am_nil))) (am_cons (em_kn h__law_draw (hr.less (by decide)) cAt_takes (am_cons (em_v 0) (am_cons em_int am_nil))) am_nil)))) (bm_cons (sm_set 3 nd rfl (Or.inl rfl) (em_kn h__law_mixed (hr.less (by decide)) cAt_takes (am_cons (em_v 0) (am_cons (em_listRange rfl B.b_list B.b_range (em_bin ok_add (em_bin ok_mul em_int (em_v 2)) em_int)) am_nil)))) (bm_cons (sm_par3 8 9 10 rfl nd (am_cons (em_sl (em_v 3) om_none (om_some (em_v 2))) (am_cons (em_sl (em_v 3) (om_some (em_v 2)) om_none) (am_cons (em_kn h__law_mixed (hr.less (by decide)) cAt_takes (am_cons (em_v 0) (am_cons (em_sl (em_v 3) om_none (om_some (em_v 2))) am_nil))) am_nil)))) (bm_cons (sm_set 4 nd rfl (Or.inl rfl) (em_lstB am_nil)) (bm_cons (sm_for (passes_of rfl) rfl (im_enum (am_cons (em_v 8) am_nil) B.b_enumerate) (gm_unpN (is := [11, 12]) rfl (pgs_cons (pg_name (i := 11) nd rfl (Or.inl rfl)) (pgs_cons (pg_name (i := 12) nd rfl (Or.inl rfl)) pgs_nil))) (bm_cons (sm_set 13 nd rfl (Or.inl rfl) (em_kn h__law_pick (hr.less (by decide)) cAt_takes (am_cons (em_v 0) (am_cons (em_lst (am_cons (em_kn h__law_pick (hr.less (by decide)) cAt_takes (am_cons (em_v 0) (am_cons (em_v 3) am_nil))) (am_cons (em_kn h__law_pick (hr.less (by decide)) cAt_takes (am_cons (em_v 0) (am_cons (em_v 9) am_nil))) (am_cons (em_v 12) (am_cons (em_kn h__law_pick (hr.less (by decide)) cAt_takes (am_cons (em_v 0) (am_cons (em_v 8) am_nil))) am_nil))))) am_nil)))) (bm_cons (sm_if (tm_cmp (op_eqK (room0 hu) (ok_eqD hu)) (em_v 7) em_int (nomark _)) (bm_one (sm_set 13 nd rfl (Or.inl rfl) (em_ixG (ixG_dict (room1 hu) ixG_seq) (em_v 10) (em_v 11) ⟨fun _ _ => rfl, fun _ _ => rfl⟩))) bm_nil) (bm_cons (sm_if (tm_w (wm_and (tm_cmp (op_eqK (room0 hu) (ok_eqD hu)) (em_v 7) em_int (nomark _)) (wm_and1 (tm_cmp ok_gt (em_kn h__law_draw (hr.less (by decide)) cAt_takes (am_cons (em_v 0) (am_cons em_int am_nil))) em_int (nomark _))))) (bm_one (sm_set 13 nd rfl (Or.inl rfl) (em_ixG (ixG_dict (room1 hu) ixG_seq) (em_bin ok_add (em_v 8) (em_v 9)) (em_bin ok_add (em_v 11) em_int) ⟨fun _ _ => rfl, fun _ _ => rfl⟩))) bm_nil) (bm_cons (sm_if (tm_cmp (op_eqK (room0 hu) (ok_eqD hu)) (em_v 7) em_int (nomark _)) (bm_one (sm_set 13 nd rfl (Or.inl rfl) (em_ixG (ixG_dict (room1 hu) ixG_seq) (em_bin ok_add (em_v 8) (em_v 9)) (em_bin ok_sub (em_bin ok_add (em_v 11) em_int) (em_bin ok_mul (em_kn h__law_draw (hr.less (by decide)) cAt_takes (am_cons (em_v 0) (am_cons em_int am_nil))) (em_v 11))) ⟨fun _ _ => rfl, fun _ _ => rfl⟩))) bm_nil) (bm_cons (sm_if (tm_cmp (op_eqK (room0 hu) (ok_eqD hu)) (em_v 7) em_int (nomark _)) (bm_one (sm_set 13 nd rfl (Or.inl rfl) (em_ixG (ixG_dict (room1 hu) ixG_seq) (em_bin ok_add (em_sl (em_v 9) om_none (om_some em_int)) (em_v 8)) (em_callB (call_max2 rfl) ok_max2 B.b_max (am_cons em_int (am_cons (em_bin ok_sub (em_v 11) (em_kn h__law_draw (hr.less (by decide)) cAt_takes (am_cons (em_v 0) (am_cons em_int am_nil)))) am_nil))) ⟨fun _ _ => rfl, fun _ _ => rfl⟩))) bm_nil) (bm_cons (sm_if (tm_w (wm_and (tm_cmp (op_eqK (room0 hu) (ok_eqD hu)) (em_v 7) em_int (nomark _)) (wm_and1 (tm_cmp ok_gt (em_v 11) em_int (nomark _))))) (bm_one (sm_set 13 nd rfl (Or.inl rfl) (em_kn h__law_pick (hr.less (by decide)) cAt_takes (am_cons (em_v 0) (am_cons (em_bin ok_add (em_sl (em_v 8) om_none (om_some (em_v 11))) (em_sl (em_v 9) om_none (om_some em_int))) am_nil))))) bm_nil) (bm_one (sm_expr (em_append (em_v 4) (em_tup (am_cons (em_bin ok_mul (em_bin ok_sub (em_v 12) (em_v 6)) (em_v 5)) (am_cons (em_bin ok_mul (em_bin ok_sub (em_v 13) (em_v 6)) (em_v 5)) am_nil))))))))))))) (bm_one (sm_ret (em_frz (em_v 4))))))))))
theorem k__law_pairs {P : Program} {w : World} {mg : Str → Option Value} {base : Heap} {T : Tab} (B : Bt P w mg T) (h__law_draw : Kn P w mg base T "_law_draw" 1 F__law_draw) (h__law_pick : Kn P w mg base T "_law_pick" 2 F__law_pick) (h__law_mixed : Kn P w mg base T "_law_mixed" 2 F__law_mixed) {f : Addr} {fd : FuncData} (F : Fun T.K "_law_pairs" "_law_pairs" s__law_pairs f fd) (hm : mg "_law_pairs" = some (.ref f)) : Kn P w mg base T "_law_pairs" 3 F__law_pairs :=
  ⟨f, FnP.of (dms := []) (fnG_of F sc__law_pairs fun cdv A outer s H E g hr => d__law_pairs B h__law_draw h__law_pick h__law_mixed hr) (F.binds (fun _ _ _ _ _ _ us hl => match us, hl with | [_, _], _ => rfl)) .nil (fun _ _ => .nil), hm, F.kp⟩
theorem sc_Table_rows : FnScope ["self"] ["self"] (defScope s_Table_rows) := ⟨rfl, rfl, rfl, by decide +kernel, rfl, by decide +kernel, by decide +kernel⟩
def m_Table_rows : MStm := (sRet (mItems (mFld ["Table"] [] "_new_keys" (mv 0))))
def F_Table_rows : Fn := posF 1 [] (bodyF 1 1 m_Table_rows)
theorem d_Table_rows {P : Program} {w : World} {mg : Str → Option Value} {base : Heap} {T : Tab} (B : Bt P w mg T)  {f : Addr} {cdv : Value} {A : Around} {outer : List Env} {s : Shared} {H : Hp} {E : XK} {g : Gh}  (hr : RoomG 0 (A.deeper (envOfC "Table.rows" (defScope s_Table_rows) s.heap.objs.size f cdv))) :
    PMb (cAt P w mg base T ["self"] "Table.rows" (defScope s_Table_rows) f cdv A outer s H E g) (defBody s_Table_rows) m_Table_rows :=
  have nd := sc_Table_rows.nd
  have hu := hr.toRoom.units
  have hu2 := room65 hr
  have hgd := hr.gs
  (bm_one (sm_ret (em_tupItems rfl (em_kf B.f__new_keys (em_v 0)) B.b_tuple)))
def m_Table_rows_b : MStm := (sRet (mItemsB (mFld ["Table"] [] "_new_keys" (mv 0))))
def F_Table_rows_b : Fn := posF 1 [] (bodyF 1 1 m_Table_rows_b)
theorem d_Table_rows_b {P : Program} {w : World} {mg : Str → Option Value} {base : Heap} {T : Tab} (B : Bt P w mg T)  {f : Addr} {cdv : Value} {A : Around} {outer : List Env} {s : Shared} {H : Hp} {E : XK} {g : Gh}  (hr : RoomG 0 (A.deeper (envOfC "Table.rows" (defScope s_Table_rows) s.heap.objs.size f cdv))) :
    PMb (cAt P w mg base T ["self"] "Table.rows" (defScope s_Table_rows) f cdv A outer s H E g) (defBody s_Table_rows) m_Table_rows_b :=
  have nd := sc_Table_rows.nd
  have hu := hr.toRoom.units
  have hu2 := room65 hr
  have hgd := hr.gs
  (bm_one (sm_ret (em_tupItemsB rfl (em_kf B.f__new_keys (em_v 0)) B.b_tuple)))
theorem k_Table_rows_b {P : Program} {w : World} {mg : Str → Option Value} {base : Heap} {T : Tab} (B : Bt P w mg T)  {f : Addr} {fd : FuncData} (F : Fun T.K "rows" "Table.rows" s_Table_rows f fd) : FnP P w mg base T 1 f F_Table_rows_b :=
  FnP.of (dms := []) (fnG_of F sc_Table_rows fun cdv A outer s H E g hr => d_Table_rows_b B  hr) (F.binds (fun _ _ _ _ _ _ us hl => match us, hl with | [_], _ => rfl)) .nil (fun _ _ => .nil)
theorem k_Table_rows {P : Program} {w : World} {mg : Str → Option Value} {base : Heap} {T : Tab} (B : Bt P w mg T)  {f : Addr} {fd : FuncData} (F : Fun T.K "rows" "Table.rows" s_Table_rows f fd) : FnP P w mg base T 1 f F_Table_rows :=
  FnP.of (dms := []) (fnG_of F sc_Table_rows fun cdv A outer s H E g hr => d_Table_rows B  hr) (F.binds (fun _ _ _ _ _ _ us hl => match us, hl with | [_], _ => rfl)) .nil (fun _ _ => .nil)
theorem sc_rows_to_add : FnScope ["other"] ["other"] (defScope s_rows_to_add) := ⟨rfl, rfl, rfl, by decide +kernel, rfl, by decide +kernel, by decide +kernel⟩
def m_rows_to_add : MStm := (sSeq (sIf (mB (mCall (mCons (mv 0) (mCons (mc (.cls "Table")) mNil)) (cIsi IS XS isi))) (sRet (mAt (mv 0) (oPrp "Table" F_Table_rows (fun _ _ => .stuck)))) sNx) (sSeq (sIf (mNot (mB (mCall (mCons (mv 0) (mCons (mc (.ty "tuple")) mNil)) (cIsi IS XS isi)))) (sRai "NotRow" (mCons (mc (.str "only a table or a tuple of pairs can be added to a table")) mNil)) sNx) (sRet (mv 0))))
def F_rows_to_add : Fn := posF 1 [] (bodyF 1 1 m_rows_to_add)
theorem d_rows_to_add {P : Program} {w : World} {mg : Str → Option Value} {base : Heap} {T : Tab} (B : Bt P w mg T) (hP_Table_rows : PrK T "Table" "rows" P w mg base 1 F_Table_rows) {f : Addr} {cdv : Value} {A : Around} {outer : List Env} {s : Shared} {H : Hp} {E : XK} {g : Gh}  (hr : RoomG 2 (A.deeper (envOfC "rows_to_add" (defScope s_rows_to_add) s.heap.objs.size f cdv))) :
    PMb (cAt P w mg base T ["other"] "rows_to_add" (defScope s_rows_to_add) f cdv A outer s H E g) (defBody s_rows_to_add) m_rows_to_add :=
  have nd := sc_rows_to_add.nd
  have hu := hr.toRoom.units
  have hu2 := room65 hr
  have hgd := hr.gs
  (bm_cons (sm_if (tm_val (em_callB call_isA (ok_isK B.x) B.b_isinstance (am_cons (em_v 0) (am_cons (em_kc B.kc_Table) am_nil)))) (bm_one (sm_ret (em_atG (atG_prp hP_Table_rows (hr.less (by decide)) cAt_takes atG_none) (em_v 0)))) bm_nil) (bm_cons (sm_if (tm_not (tm_val (em_callB call_isA (ok_isK B.x) B.b_isinstance (am_cons (em_v 0) (am_cons (em_ty B.b_tuple) am_nil))))) (bm_one (sm_raiK B.ke_NotRow B.ra_NotRow rfl cAt_takes (am_cons em_str am_nil))) bm_nil) (bm_one (sm_ret (em_v 0)))))
theorem k_rows_to_add {P : Program} {w : World} {mg : Str → Option Value} {base : Heap} {T : Tab} (B : Bt P w mg T) (hP_Table_rows : PrK T "Table" "rows" P w mg base 1 F_Table_rows) {f : Addr} {fd : FuncData} (F : Fun T.K "rows_to_add" "rows_to_add" s_rows_to_add f fd) (hm : mg "rows_to_add" = some (.ref f)) : Kn P w mg base T "rows_to_add" 3 F_rows_to_add :=
  ⟨f, FnP.of (dms := []) (fnG_of F sc_rows_to_add fun cdv A outer s H E g hr => d_rows_to_add B hP_Table_rows hr) (F.binds (fun _ _ _ _ _ _ us hl => match us, hl with | [_], _ => rfl)) .nil (fun _ _ => .nil), hm, F.kp⟩
theorem sc_is_integer : FnScope ["thing"] ["thing"] (defScope s_is_integer) := ⟨rfl, rfl, rfl, by decide +kernel, rfl, by decide +kernel, by decide +kernel⟩
def m_is_integer : MStm := (sRet (mAndV (mCall (mCons (mv 0) (mCons (mc (.ty "int")) mNil)) (cIsi IS XS isi)) (mNotV (mCall (mCons (mv 0) (mCons (mc (.ty "bool")) mNil)) (cIsi IS XS isi)))))
def F_is_integer : Fn := posF 1 [] (bodyF 1 1 m_is_integer)
theorem d_is_integer {P : Program} {w : World} {mg : Str → Option Value} {base : Heap} {T : Tab} (B : Bt P w mg T)  {f : Addr} {cdv : Value} {A : Around} {outer : List Env} {s : Shared} {H : Hp} {E : XK} {g : Gh}  (hr : RoomG 0 (A.deeper (envOfC "is_integer" (defScope s_is_integer) s.heap.objs.size f cdv))) :
    PMb (cAt P w mg base T ["thing"] "is_integer" (defScope s_is_integer) f cdv A outer s H E g) (defBody s_is_integer) m_is_integer :=
  have nd := sc_is_integer.nd
  have hu := hr.toRoom.units
  have hu2 := room65 hr
  have hgd := hr.gs
  (bm_one (sm_ret (em_and (em_callB call_isA (ok_isK B.x) B.b_isinstance (am_cons (em_v 0) (am_cons (em_ty B.b_int) am_nil))) (em_one (em_not (em_callB call_isA (ok_isK B.x) B.b_isinstance (am_cons (em_v 0) (am_cons (em_ty B.b_bool) am_nil))))))))
theorem k_is_integer {P : Program} {w : World} {mg : Str → Option Value} {base : Heap} {T : Tab} (B : Bt P w mg T)  {f : Addr} {fd : FuncData} (F : Fun T.K "is_integer" "is_integer" s_is_integer f fd) (hm : mg "is_integer" = some (.ref f)) : Kn P w mg base T "is_integer" 1 F_is_integer :=
  ⟨f, FnP.of (dms := []) (fnG_of F sc_is_integer fun cdv A outer s H E g hr => d_is_integer B  hr) (F.binds (fun _ _ _ _ _ _ us hl => match us, hl with | [_], _ => rfl)) .nil (fun _ _ => .nil), hm, F.kp⟩
theorem sc_is_key : FnScope ["thing"] ["thing"] (defScope s_is_key) := ⟨rfl, rfl, rfl, by decide +kernel, rfl, by decide +kernel, by decide +kernel⟩
def m_is_key : MStm := (sRet (mAndV (mFn (mCons (mv 0) mNil) F_is_integer) (mChain oLt oLt (mNeg (mc (.int 1000000000000000000000000000000))) (mv 0) (mc (.int 1000000000000000000000000000000)))))
def F_is_key : Fn := posF 1 [] (bodyF 1 1 m_is_key)
theorem d_is_key {P : Program} {w : World} {mg : Str → Option Value} {base : Heap} {T : Tab} (B : Bt P w mg T) (h_is_integer : Kn P w mg base T "is_integer" 1 F_is_integer) {f : Addr} {cdv : Value} {A : Around} {outer : List Env} {s : Shared} {H : Hp} {E : XK} {g : Gh}  (hr : RoomG 1 (A.deeper (envOfC "is_key" (defScope s_is_key) s.heap.objs.size f cdv))) :
    PMb (cAt P w mg base T ["thing"] "is_key" (defScope s_is_key) f cdv A outer s H E g) (defBody s_is_key) m_is_key :=
  have nd := sc_is_key.nd
  have hu := hr.toRoom.units
  have hu2 := room65 hr
  have hgd := hr.gs
  (bm_one (sm_ret (em_and (em_kn h_is_integer (hr.less (by decide)) cAt_takes (am_cons (em_v 0) am_nil)) (em_one (em_chain ok_lt ok_lt (em_neg (em_gi B.c_KEY_BOUND)) (em_v 0) (em_gi B.c_KEY_BOUND))))))
theorem k_is_key {P : Program} {w : World} {mg : Str → Option Value} {base : Heap} {T : Tab} (B : Bt P w mg T) (h_is_integer : Kn P w mg base T "is_integer" 1 F_is_integer) {f : Addr} {fd : FuncData} (F : Fun T.K "is_key" "is_key" s_is_key f fd) (hm : mg "is_key" = some (.ref f)) : Kn P w mg base T "is_key" 2 F_is_key :=
  ⟨f, FnP.of (dms := []) (fnG_of F sc_is_key fun cdv A outer s H E g hr => d_is_key B h_is_integer hr) (F.binds (fun _ _ _ _ _ _ us hl => match us, hl with | [_], _ => rfl)) .nil (fun _ _ => .nil), hm, F.kp⟩
theorem sc_is_pair : FnScope ["thing"] ["thing"] (defScope s_is_pair) := ⟨rfl, rfl, rfl, by decide +kernel, rfl, by decide +kernel, by decide +kernel⟩
def m_is_pair : MStm := (sRet (mAndV (mCall (mCons (mv 0) (mCons (mc (.ty "tuple")) mNil)) (cIsi IS XS isi)) (mAndV (m2 (oEqK false (oEqD false)) (mCall (mCons (mv 0) mNil) (cLenD cLen)) (mc (.int 2))) (mAndV (mFn (mCons (m2 (oIxD oIx) (mv 0) (mc (.int 0))) mNil) F_is_key) (mFn (mCons (m2 (oIxD oIx) (mv 0) (mc (.int 1))) mNil) F_is_key)))))
def F_is_pair : Fn := posF 1 [] (bodyF 1 1 m_is_pair)
theorem d_is_pair {P : Program} {w : World} {mg : Str → Option Value} {base : Heap} {T : Tab} (B : Bt P w mg T) (h_is_key : Kn P w mg base T "is_key" 2 F_is_key) {f : Addr} {cdv : Value} {A : Around} {outer : List Env} {s : Shared} {H : Hp} {E : XK} {g : Gh}  (hr : RoomG 2 (A.deeper (envOfC "is_pair" (defScope s_is_pair) s.heap.objs.size f cdv))) :
    PMb (cAt P w mg base T ["thing"] "is_pair" (defScope s_is_pair) f cdv A outer s H E g) (defBody s_is_pair) m_is_pair :=
  have nd := sc_is_pair.nd
  have hu := hr.toRoom.units
  have hu2 := room65 hr
  have hgd := hr.gs
  (bm_one (sm_ret (em_and (em_callB call_isA (ok_isK B.x) B.b_isinstance (am_cons (em_v 0) (am_cons (em_ty B.b_tuple) am_nil))) (em_and (em_cmp (op_eqK (room0 hu) (ok_eqD hu)) (em_callG (callG_lenD (CallG.of call_len ok_len)) B.b_len (am_cons (em_v 0) am_nil)) em_int (nomark _)) (em_and (em_kn h_is_key (hr.less (by decide)) cAt_takes (am_cons (em_ixG (ixG_dict (room1 hu) ixG_seq) (em_v 0) em_int ⟨fun _ _ => rfl, fun _ _ => rfl⟩) am_nil)) (em_one (em_kn h_is_key (hr.less (by decide)) cAt_takes (am_cons (em_ixG (ixG_dict (room1 hu) ixG_seq) (em_v 0) em_int ⟨fun _ _ => rfl, fun _ _ => rfl⟩) am_nil))))))))
theorem k_is_pair {P : Program} {w : World} {mg : Str → Option Value} {base : Heap} {T : Tab} (B : Bt P w mg T) (h_is_key : Kn P w mg base T "is_key" 2 F_is_key) {f : Addr} {fd : FuncData} (F : Fun T.K "is_pair" "is_pair" s_is_pair f fd) (hm : mg "is_pair" = some (.ref f)) : Kn P w mg base T "is_pair" 3 F_is_pair :=
  ⟨f, FnP.of (dms := []) (fnG_of F sc_is_pair fun cdv A outer s H E g hr => d_is_pair B h_is_key hr) (F.binds (fun _ _ _ _ _ _ us hl => match us, hl with | [_], _ => rfl)) .nil (fun _ _ => .nil), hm, F.kp⟩
theorem sc_check_rows : FnScope ["rows", "seen", "key", "_", "row"] ["rows"] (defScope s_check_rows) := ⟨rfl, rfl, rfl, by decide +kernel, rfl, by decide +kernel, by decide +kernel⟩
def m_check_rows : MStm := (sSeq (sIf (mNot (mB (mCall (mCons (mLc [4] (iSeq (mv 0)) (gSet 4) mYes (mFn (mCons (mv 4) mNil) F_is_pair)) mNil) (cAll false)))) (sRai "NotRow" (mCons (mc (.str "a row is a pair (key, new key) of two keys")) mNil)) sNx) (sSeq (sSet 1 mDnew) (sSeq (sForI (iSeq (mv 0)) (gUnpN [2, 3]) (sSeq (sIf (mB (m2 (oInD false (oInL false)) (mv 2) (mv 1))) (sRaiI "Twice" ["key"] [.inl "two rows have the key ", .inr 0] (mCons (mv 2) mNil)) sNx) (sAsg (mc (.bl true)) (gSub (mv 1) (mv 2) (fSetD fSetL))))) (sIf (mB (m2 oGt (mCall (mCons (mv 0) mNil) (cLenD cLen)) (mc (.int 40)))) (sRaiI "TooMany" ["many", "most"] [.inr 0, .inl " are too many, ", .inr 1, .inl " is the most"] (mCons (mCall (mCons (mv 0) mNil) (cLenD cLen)) (mCons (mc (.int 40)) mNil))) sNx))))
def F_check_rows : Fn := posF 1 [] (bodyF 1 5 m_check_rows)
theorem d_check_rows {P : Program} {w : World} {mg : Str → Option Value} {base : Heap} {T : Tab} (B : Bt P w mg T) (h_is_pair : Kn P w mg base T "is_pair" 3 F_is_pair) {f : Addr} {cdv : Value} {A : Around} {outer : List Env} {s : Shared} {H : Hp} {E : XK} {g : Gh}  (hr : RoomG 3 (A.deeper (envOfC "check_rows" (defScope s_check_rows) s.heap.objs.size f cdv))) :
    PMb (cAt P w mg base T ["rows", "seen", "key", "_", "row"] "check_rows" (defScope s_check_rows) f cdv A outer s H E g) (defBody s_check_rows) m_check_rows :=
  have nd := sc_check_rows.nd
  have hu := hr.toRoom.units
  have hu2 := room65 hr
  have hgd := hr.gs
  (bm_cons (sm_if (tm_not (tm_val (em_callB (cr_all rfl) ok_all B.b_all (am_cons (em_lc (own := [("row", 4)]) rfl nd (im_seq (em_v 0)) (blkOk_by rfl) (fun _ _ _ _ _ _ => (gc_name 4 nd rfl (Or.inl rfl) (by decide))) (fun _ _ _ _ _ _ => tsm_nil) (fun _ _ _ _ _ _ => (em_kn h_is_pair (hr.less (by decide)) takes0 (am_cons (em_v 4) am_nil)))) am_nil)))) (bm_one (sm_raiK B.ke_NotRow B.ra_NotRow rfl cAt_takes (am_cons em_str am_nil))) bm_nil) (bm_cons (sm_set 1 nd rfl (Or.inl rfl) em_dnew) (bm_cons (sm_for (passes_of rfl) rfl (im_seq (em_v 0)) (gm_unpN (is := [2, 3]) rfl (pgs_cons (pg_name (i := 2) nd rfl (Or.inl rfl)) (pgs_cons (pg_name (i := 3) nd rfl (Or.inl rfl)) pgs_nil))) (bm_cons (sm_if (tm_cmp (op_inD (room1 hu) (ok_inL hu2)) (em_v 2) (em_v 1) (by with_unfolding_all rfl)) (bm_one (sm_raiN B.ki_Twice B.ra_Twice rfl cAt_takes (hr.less (by decide)) (am_cons (em_v 2) am_nil))) bm_nil) (bm_one (sm_asg em_bl (gm_subG (setG_dict (room1 hu) (setG_list set_list)) (em_v 1) (em_v 2)))))) (bm_one (sm_if (tm_cmp ok_gt (em_callG (callG_lenD (CallG.of call_len ok_len)) B.b_len (am_cons (em_v 0) am_nil)) (em_gi B.c_MOST_ROWS) (nomark _)) (bm_one (sm_raiN B.ki_TooMany B.ra_TooMany rfl cAt_takes (hr.less (by decide)) (am_cons (em_callG (callG_lenD (CallG.of call_len ok_len)) B.b_len (am_cons (em_v 0) am_nil)) (am_cons (em_gi B.c_MOST_ROWS) am_nil)))) bm_nil)))))
theorem k_check_rows {P : Program} {w : World} {mg : Str → Option Value} {base : Heap} {T : Tab} (B : Bt P w mg T) (h_is_pair : Kn P w mg base T "is_pair" 3 F_is_pair) {f : Addr} {fd : FuncData} (F : Fun T.K "check_rows" "check_rows" s_check_rows f fd) (hm : mg "check_rows" = some (.ref f)) : Kn P w mg base T "check_rows" 4 F_check_rows :=
  ⟨f, FnP.of (dms := []) (fnG_of F sc_check_rows fun cdv A outer s H E g hr => d_check_rows B h_is_pair hr) (F.binds (fun _ _ _ _ _ _ us hl => match us, hl with | [_], _ => rfl)) .nil (fun _ _ => .nil), hm, F.kp⟩
theorem sc_new_keys : FnScope ["rows", "key", "new"] ["rows"] (defScope s_new_keys) := ⟨rfl, rfl, rfl, by decide +kernel, rfl, by decide +kernel, by decide +kernel⟩
def m_new_keys : MStm := (sSeq (sExpr (mFn (mCons (mv 0) mNil) F_check_rows)) (sRet (mDc [1, 2] (iSeq (mCall (mCons (mv 0) mNil) cSort)) (gTupN [1, 2]) mYes (mv 1) (mv 2))))
def F_new_keys : Fn := posF 1 [] (bodyF 1 3 m_new_keys)
theorem d_new_keys {P : Program} {w : World} {mg : Str → Option Value} {base : Heap} {T : Tab} (B : Bt P w mg T) (h_check_rows : Kn P w mg base T "check_rows" 4 F_check_rows) {f : Addr} {cdv : Value} {A : Around} {outer : List Env} {s : Shared} {H : Hp} {E : XK} {g : Gh}  (hr : RoomG 4 (A.deeper (envOfC "new_keys" (defScope s_new_keys) s.heap.objs.size f cdv))) :
    PMb (cAt P w mg base T ["rows", "key", "new"] "new_keys" (defScope s_new_keys) f cdv A outer s H E g) (defBody s_new_keys) m_new_keys :=
  have nd := sc_new_keys.nd
  have hu := hr.toRoom.units
  have hu2 := room65 hr
  have hgd := hr.gs
  (bm_cons (sm_expr (em_kn h_check_rows (hr.less (by decide)) cAt_takes (am_cons (em_v 0) am_nil))) (bm_one (sm_ret (em_dc (own := [("key", 1), ("new", 2)]) rfl nd (im_seq (em_callB cr_sortA ok_sort B.b_sorted (am_cons (em_v 0) am_nil))) (blkOk_by rfl) (fun _ _ _ _ _ _ => (gc_tup (is := [1, 2]) rfl (pgs_cons (pg_name (i := 1) nd rfl (Or.inl rfl)) (pgs_cons (pg_name (i := 2) nd rfl (Or.inl rfl)) pgs_nil)) (by decide))) (fun _ _ _ _ _ _ => tsm_nil) (fun _ _ _ _ _ _ => (em_v 1)) (fun _ _ _ _ _ _ => (em_v 2))))))
theorem k_new_keys {P : Program} {w : World} {mg : Str → Option Value} {base : Heap} {T : Tab} (B : Bt P w mg T) (h_check_rows : Kn P w mg base T "check_rows" 4 F_check_rows) {f : Addr} {fd : FuncData} (F : Fun T.K "new_keys" "new_keys" s_new_keys f fd) (hm : mg "new_keys" = some (.ref f)) : Kn P w mg base T "new_keys" 5 F_new_keys :=
  ⟨f, FnP.of (dms := []) (fnG_of F sc_new_keys fun cdv A outer s H E g hr => d_new_keys B h_check_rows hr) (F.binds (fun _ _ _ _ _ _ us hl => match us, hl with | [_], _ => rfl)) .nil (fun _ _ => .nil), hm, F.kp⟩
theorem sc_Table___init__ : FnScope ["self", "rows"] ["self", "rows"] (defScope s_Table___init__) := ⟨rfl, rfl, rfl, by decide +kernel, rfl, by decide +kernel, by decide +kernel⟩
def m_Table___init__ : MStm := (sPut "Table" "_new_keys" (mv 0) (mFn (mCons (mv 1) mNil) F_new_keys))
def F_Table___init__ : Fn := starF 1 (bodyF 2 2 m_Table___init__)
theorem d_Table___init__ {P : Program} {w : World} {mg : Str → Option Value} {base : Heap} {T : Tab} (B : Bt P w mg T) (h_new_keys : Kn P w mg base T "new_keys" 5 F_new_keys) {f : Addr} {cdv : Value} {A : Around} {outer : List Env} {s : Shared} {H : Hp} {E : XK} {g : Gh}  (hr : RoomG 5 (A.deeper (envOfC "Table.__init__" (defScope s_Table___init__) s.heap.objs.size f cdv))) :
    PMb (cAt P w mg base T ["self", "rows"] "Table.__init__" (defScope s_Table___init__) f cdv A outer s H E g) (defBody s_Table___init__) m_Table___init__ :=
  have nd := sc_Table___init__.nd
  have hu := hr.toRoom.units
  have hu2 := room65 hr
  have hgd := hr.gs
  (bm_one (sm_put B.fc_Table__new_keys (em_v 0) (em_kn h_new_keys (hr.less (by decide)) cAt_takes (am_cons (em_v 1) am_nil))))
theorem k_Table___init__ {P : Program} {w : World} {mg : Str → Option Value} {base : Heap} {T : Tab} (B : Bt P w mg T) (h_new_keys : Kn P w mg base T "new_keys" 5 F_new_keys) {f : Addr} {fd : FuncData} (F : Fun T.K "__init__" "Table.__init__" s_Table___init__ f fd) : FnP P w mg base T 6 f F_Table___init__ :=
  fnP_star (ps := ["self"]) (pv := "rows") F sc_Table___init__ (fun _ _ _ _ _ _ us rest hl => by match us, hl with | [_], _ => cases rest <;> rfl) fun cdv A outer s H E g hr => d_Table___init__ B h_new_keys hr
theorem sc_Table___add__ : FnScope ["self", "other", "rows"] ["self", "other"] (defScope s_Table___add__) := ⟨rfl, rfl, rfl, by decide +kernel, rfl, by decide +kernel, by decide +kernel⟩
def m_Table___add__ : MStm := (sSeq (sSet 2 (m2 oAdd (mAt (mv 0) (oPrp "Table" F_Table_rows (fun _ _ => .stuck))) (mFn (mCons (mv 1) mNil) F_rows_to_add))) (sRet (mMkS "Table" F_Table___init__ (mv 2))))
def F_Table___add__ : Fn := posF 2 [] (bodyF 2 3 m_Table___add__)
theorem d_Table___add__ {P : Program} {w : World} {mg : Str → Option Value} {base : Heap} {T : Tab} (B : Bt P w mg T) (hP_Table_rows : PrK T "Table" "rows" P w mg base 1 F_Table_rows) (h_rows_to_add : Kn P w mg base T "rows_to_add" 3 F_rows_to_add) (hT_Table : KnT P w mg base T "Table" 6 F_Table___init__) {f : Addr} {cdv : Value} {A : Around} {outer : List Env} {s : Shared} {H : Hp} {E : XK} {g : Gh}  (hr : RoomG 7 (A.deeper (envOfC "Table.__add__" (defScope s_Table___add__) s.heap.objs.size f cdv))) :
    PMb (cAt P w mg base T ["self", "other", "rows"] "Table.__add__" (defScope s_Table___add__) f cdv A outer s H E g) (defBody s_Table___add__) m_Table___add__ :=
  have nd := sc_Table___add__.nd
  have hu := hr.toRoom.units
  have hu2 := room65 hr
  have hgd := hr.gs
  (bm_cons (sm_set 2 nd rfl (Or.inl rfl) (em_bin ok_add (em_atG (atG_prp hP_Table_rows (hr.less (by decide)) cAt_takes atG_none) (em_v 0)) (em_kn h_rows_to_add (hr.less (by decide)) cAt_takes (am_cons (em_v 1) am_nil)))) (bm_one (sm_ret (em_mkS hT_Table (hr.less (by decide)) cAt_takes (em_v 2)))))
theorem k_Table___add__ {P : Program} {w : World} {mg : Str → Option Value} {base : Heap} {T : Tab} (B : Bt P w mg T) (hP_Table_rows : PrK T "Table" "rows" P w mg base 1 F_Table_rows) (h_rows_to_add : Kn P w mg base T "rows_to_add" 3 F_rows_to_add) (hT_Table : KnT P w mg base T "Table" 6 F_Table___init__) {f : Addr} {fd : FuncData} (F : Fun T.K "__add__" "Table.__add__" s_Table___add__ f fd) : FnP P w mg base T 8 f F_Table___add__ :=
  FnP.of (dms := []) (fnG_of F sc_Table___add__ fun cdv A outer s H E g hr => d_Table___add__ B hP_Table_rows h_rows_to_add hT_Table hr) (F.binds (fun _ _ _ _ _ _ us hl => match us, hl with | [_, _], _ => rfl)) .nil (fun _ _ => .nil)
theorem sc__law_rule : FnScope ["_law_word"] ["_law_word"] (defScope s__law_rule) := ⟨rfl, rfl, rfl, by decide +kernel, rfl, by decide +kernel, by decide +kernel⟩
def m__law_rule : MStm := (sSeq (sIf (mB (m2 (oEqK false (oEqD false)) (mv 0) (mc (.str "abort")))) (sRet (mMkO "Abort")) sNx) (sSeq (sIf (mB (m2 (oEqK false (oEqD false)) (mv 0) (mc (.str "fail")))) (sRet (mMkO "Fail")) sNx) (sRet (mIf (mB (m2 (oEqK false (oEqD false)) (mv 0) (mc (.str "ignore")))) (mMkO "Ignore") (mMkO "Replace")))))
def F__law_rule : Fn := posF 1 [] (bodyF 1 1 m__law_rule)
theorem d__law_rule {P : Program} {w : World} {mg : Str → Option Value} {base : Heap} {T : Tab} (B : Bt P w mg T)  {f : Addr} {cdv : Value} {A : Around} {outer : List Env} {s : Shared} {H : Hp} {E : XK} {g : Gh}  (hr : RoomG 0 (A.deeper (envOfC "_law_rule" (defScope s__law_rule) s.heap.objs.size f cdv))) :
    PMb (cAt P w mg base T ["_law_word"] "_law_rule" (defScope s__law_rule) f cdv A outer s H E g) (defBody s__law_rule) m__law_rule :=
  have nd := sc__law_rule.nd
  have hu := hr.toRoom.units
  have hu2 := room65 hr
  have hgd := hr.gs
  (bm_cons (sm_if (tm_cmp (op_eqK (room0 hu) (ok_eqD hu)) (em_v 0) em_str (nomark _)) (bm_one (sm_ret (em_mkO B.ko_Abort))) bm_nil) (bm_cons (sm_if (tm_cmp (op_eqK (room0 hu) (ok_eqD hu)) (em_v 0) em_str (nomark _)) (bm_one (sm_ret (em_mkO B.ko_Fail))) bm_nil) (bm_one (sm_ret (em_if (tm_cmp (op_eqK (room0 hu) (ok_eqD hu)) (em_v 0) em_str (nomark _)) (em_mkO B.ko_Ignore) (em_mkO B.ko_Replace))))))
theorem k__law_rule {P : Program} {w : World} {mg : Str → Option Value} {base : Heap} {T : Tab} (B : Bt P w mg T)  {f : Addr} {fd : FuncData} (F : Fun T.K "_law_rule" "_law_rule" s__law_rule f fd) (hm : mg "_law_rule" = some (.ref f)) : Kn P w mg base T "_law_rule" 1 F__law_rule :=
  ⟨f, FnP.of (dms := []) (fnG_of F sc__law_rule fun cdv A outer s H E g hr => d__law_rule B  hr) (F.binds (fun _ _ _ _ _ _ us hl => match us, hl with | [_], _ => rfl)) .nil (fun _ _ => .nil), hm, F.kp⟩
theorem sc_Rule_named : FnScope ["word", "rule"] ["word"] (defScope s_Rule_named) := ⟨rfl, rfl, rfl, by decide +kernel, rfl, by decide +kernel, by decide +kernel⟩
def m_Rule_named : MStm := (sSeq (sForI (iSeq (mTup (mCons (mMkO "Abort") (mCons (mMkO "Fail") (mCons (mMkO "Ignore") (mCons (mMkO "Replace") mNil)))))) (gSet 1) (sIf (mB (m2 (oEqK false (oEqD false)) (mv 0) (mCon "WORD" tbs_WORD (mv 1)))) (sRet (mv 1)) sNx)) (sRai "NotRule" (mCons (mc (.str "the words of the rules are abort, fail, ignore and replace")) mNil)))
def F_Rule_named : Fn := posF 1 [] (bodyF 1 2 m_Rule_named)
theorem d_Rule_named {P : Program} {w : World} {mg : Str → Option Value} {base : Heap} {T : Tab} (B : Bt P w mg T)  {f : Addr} {cdv : Value} {A : Around} {outer : List Env} {s : Shared} {H : Hp} {E : XK} {g : Gh}  (hr : RoomG 0 (A.deeper (envOfC "Rule.named" (defScope s_Rule_named) s.heap.objs.size f cdv))) :
    PMb (cAt P w mg base T ["word", "rule"] "Rule.named" (defScope s_Rule_named) f cdv A outer s H E g) (defBody s_Rule_named) m_Rule_named :=
  have nd := sc_Rule_named.nd
  have hu := hr.toRoom.units
  have hu2 := room65 hr
  have hgd := hr.gs
  (bm_cons (sm_for (passes_of rfl) rfl (im_seq (em_tup (am_cons (em_mkO B.ko_Abort) (am_cons (em_mkO B.ko_Fail) (am_cons (em_mkO B.ko_Ignore) (am_cons (em_mkO B.ko_Replace) am_nil)))))) (gm_name 1 nd rfl (Or.inl rfl)) (bm_one (sm_if (tm_cmp (op_eqK (room0 hu) (ok_eqD hu)) (em_v 0) (em_con B.con_WORD (em_v 1)) (nomark _)) (bm_one (sm_ret (em_v 1))) bm_nil))) (bm_one (sm_raiK B.ke_NotRule B.ra_NotRule rfl cAt_takes (am_cons em_str am_nil))))
theorem k_Rule_named {P : Program} {w : World} {mg : Str → Option Value} {base : Heap} {T : Tab} (B : Bt P w mg T)  {f : Addr} {fd : FuncData} (F : Fun T.K "named" "Rule.named" s_Rule_named f fd) : FnP P w mg base T 1 f F_Rule_named :=
  FnP.of (dms := []) (fnG_of F sc_Rule_named fun cdv A outer s H E g hr => d_Rule_named B  hr) (F.binds (fun _ _ _ _ _ _ us hl => match us, hl with | [_], _ => rfl)) .nil (fun _ _ => .nil)
theorem sc__law_ends : FnScope ["_law_places", "_law_row"] ["_law_places"] (defScope s__law_ends) := ⟨rfl, rfl, rfl, by decide +kernel, rfl, by decide +kernel, by decide +kernel⟩
def m__law_ends : MStm := (sLock 0 (sRet (mCall (mCons (mCall (mCons (mLc [1] (iKey (mv 0)) (gSet 1) (mB (m2 (oIsN true) (m2 (oIxD oIx) (mv 0) (mv 1)) (mc .non))) (mTup (mCons (mv 1) (mCons (m2 (oIxD oIx) (mv 0) (mv 1)) mNil)))) mNil) cSort) mNil) cTupP)))
def F__law_ends : Fn := posF 1 [] (bodyF 1 2 m__law_ends)
theorem d__law_ends {P : Program} {w : World} {mg : Str → Option Value} {base : Heap} {T : Tab} (B : Bt P w mg T)  {f : Addr} {cdv : Value} {A : Around} {outer : List Env} {s : Shared} {H : Hp} {E : XK} {g : Gh}  (hr : RoomG 0 (A.deeper (envOfC "_law_ends" (defScope s__law_ends) s.heap.objs.size f cdv))) :
    PMb (cAt P w mg base T ["_law_places", "_law_row"] "_law_ends" (defScope s__law_ends) f cdv A outer s H E g) (defBody s__law_ends) m__law_ends :=
  have nd := sc__law_ends.nd
  have hu := hr.toRoom.units
  have hu2 := room65 hr
  have hgd := hr.gs
  (bm_one (sm_lock (sm_ret (em_callT cr_tupP ok_tupP B.b_tuple (am_cons (em_callB cr_sortA ok_sort B.b_sorted (am_cons (em_lc (own := [("_law_row", 1)]) rfl nd (im_key (em_v 0)) (blkOk_by rfl) (fun _ _ _ _ _ _ => (gc_name 1 nd rfl (Or.inl rfl) (by decide))) (fun _ _ _ _ _ _ => (tsm_one (tm_cmp ok_isntN (em_ixG (ixG_dict (room1 hu) ixG_seq) (em_v 0) (em_v 1) ⟨fun _ _ => rfl, fun _ _ => rfl⟩) em_non (nomark _)))) (fun _ _ _ _ _ _ => (em_tup (am_cons (em_v 1) (am_cons (em_ixG (ixG_dict (room1 hu) ixG_seq) (em_v 0) (em_v 1) ⟨fun _ _ => rfl, fun _ _ => rfl⟩) am_nil))))) am_nil)) am_nil)))))
theorem k__law_ends {P : Program} {w : World} {mg : Str → Option Value} {base : Heap} {T : Tab} (B : Bt P w mg T)  {f : Addr} {fd : FuncData} (F : Fun T.K "_law_ends" "_law_ends" s__law_ends f fd) (hm : mg "_law_ends" = some (.ref f)) : Kn P w mg base T "_law_ends" 1 F__law_ends :=
  ⟨f, FnP.of (dms := []) (fnG_of F sc__law_ends fun cdv A outer s H E g hr => d__law_ends B  hr) (F.binds (fun _ _ _ _ _ _ us hl => match us, hl with | [_], _ => rfl)) .nil (fun _ _ => .nil), hm, F.kp⟩
theorem sc__law_run : FnScope ["_law_pairs_here", "_law_order", "_law_word", "_law_wants", "_law_places", "_law_row", "_law_new", "_law_holders", "_law_key", "_law_one"] ["_law_pairs_here", "_law_order", "_law_word"] (defScope s__law_run) := ⟨rfl, rfl, rfl, by decide +kernel, rfl, by decide +kernel, by decide +kernel⟩
def m__law_run : MStm := (sSeq (sSet 3 (mCall (mCons (mv 0) mNil) cDict)) (sSeq (sLock 3 (sSet 4 (mCall (mCons (mLc [8] (iKey (mv 3)) (gSet 8) mYes (mTup (mCons (mv 8) (mCons (mv 8) mNil)))) mNil) cDict))) (sSeq (sForI (iSeq (mv 1)) (gSet 5) (sSeq (sSet 6 (m2 (oIxD oIx) (mv 3) (mv 5))) (sSeq (sLock 4 (sSet 7 (mLc [9] (iKey (mv 4)) (gSet 9) (mAnd (mB (m2 (oEqK false (oEqD false)) (m2 (oIxD oIx) (mv 4) (mv 9)) (mv 6))) (mB (m2 (oEqK true (oEqD true)) (mv 9) (mv 5)))) (mv 9)))) (sIf (mAnd (mB (m2 (oIsN true) (m2 (oIxD oIx) (mv 4) (mv 5)) (mc .non))) (mB (m2 (oEqK true (oEqD true)) (mv 6) (mv 5)))) (sSeq (sIf (mAnd (mB (m2 (oEqK true (oEqD true)) (mv 7) (mLst mNil))) (mB (m2 (oEqK false (oEqD false)) (mv 2) (mc (.str "abort"))))) (sLock 3 (sRet (mTup (mCons (mTup (mCons (mv 5) (mCons (m2 (oIxD oIx) (mv 7) (mc (.int 0))) mNil))) (mCons (mCall (mCons (mCall (mCons (mLc [8] (iKey (mv 3)) (gSet 8) mYes (mTup (mCons (mv 8) (mCons (mv 8) mNil)))) mNil) cSort) mNil) cTupP) mNil))))) sNx) (sSeq (sIf (mAnd (mB (m2 (oEqK true (oEqD true)) (mv 7) (mLst mNil))) (mB (m2 (oEqK false (oEqD false)) (mv 2) (mc (.str "fail"))))) (sRet (mTup (mCons (mTup (mCons (mv 5) (mCons (m2 (oIxD oIx) (mv 7) (mc (.int 0))) mNil))) (mCons (mFn (mCons (mv 4) mNil) F__law_ends) mNil)))) sNx) (sSeq (sIf (mAnd (mB (m2 (oEqK true (oEqD true)) (mv 7) (mLst mNil))) (mB (m2 (oEqK false (oEqD false)) (mv 2) (mc (.str "replace"))))) (sAsg (mc .non) (gSub (mv 4) (m2 (oIxD oIx) (mv 7) (mc (.int 0))) (fSetD fSetL))) sNx) (sIf (mOr (mB (m2 (oEqK false (oEqD false)) (mv 7) (mLst mNil))) (mB (m2 (oEqK false (oEqD false)) (mv 2) (mc (.str "replace"))))) (sAsg (mv 6) (gSub (mv 4) (mv 5) (fSetD fSetL))) sNx)))) sNx)))) (sRet (mTup (mCons (mTup mNil) (mCons (mFn (mCons (mv 4) mNil) F__law_ends) mNil)))))))
def F__law_run : Fn := posF 3 [] (bodyF 3 10 m__law_run)
theorem d__law_run {P : Program} {w : World} {mg : Str → Option Value} {base : Heap} {T : Tab} (B : Bt P w mg T) (h__law_ends : Kn P w mg base T "_law_ends" 1 F__law_ends) {f : Addr} {cdv : Value} {A : Around} {outer : List Env} {s : Shared} {H : Hp} {E : XK} {g : Gh}  (hr : RoomG 1 (A.deeper (envOfC "_law_run" (defScope s__law_run) s.heap.objs.size f cdv))) :
    PMb (cAt P w mg base T ["_law_pairs_here", "_law_order", "_law_word", "_law_wants", "_law_places", "_law_row", "_law_new", "_law_holders", "_law_key", "_law_one"] "_law_run" (defScope s__law_run) f cdv A outer s H E g) (defBody s__law_run) m__law_run :=
  have nd := sc__law_run.nd
  have hu := hr.toRoom.units
  have hu2 := room65 hr
  have hgd := hr.gs
  (bm_cons (sm_set 3 nd rfl (Or.inl rfl) (em_callT (call_dictP rfl) ok_dict B.b_dict (am_cons (em_v 0) am_nil))) (bm_cons (sm_lock (sm_set 4 nd rfl (Or.inr rfl) (em_callT (call_dictP rfl) ok_dict B.b_dict (am_cons (em_lc (own := [("_law_key", 8)]) rfl nd (im_key (em_v 3)) (blkOk_by rfl) (fun _ _ _ _ _ _ => (gc_name 8 nd rfl (Or.inl rfl) (by decide))) (fun _ _ _ _ _ _ => tsm_nil) (fun _ _ _ _ _ _ => (em_tup (am_cons (em_v 8) (am_cons (em_v 8) am_nil))))) am_nil)))) (bm_cons (sm_for (passes_of rfl) rfl (im_seq (em_v 1)) (gm_name 5 nd rfl (Or.inr rfl)) (bm_cons (sm_set 6 nd rfl (Or.inr rfl) (em_ixG (ixG_dict (room1 hu) ixG_seq) (em_v 3) (em_v 5) ⟨fun _ _ => rfl, fun _ _ => rfl⟩)) (bm_cons (sm_lock (sm_setLc (own := [("_law_one", 9)]) 7 rfl nd (im_key (em_v 4)) (blkOk_by rfl) (fun _ _ _ _ _ _ => (gc_name 9 nd rfl (Or.inl rfl) (by decide))) (fun _ _ _ _ _ _ => (tsm_one (tm_w (wm_and (tm_cmp (op_eqK (room0 hu) (ok_eqD hu)) (em_ixG (ixG_dict (room1 hu) ixG_seq) (em_v 4) (em_v 9) ⟨fun _ _ => rfl, fun _ _ => rfl⟩) (em_v 6) (nomark _)) (wm_and1 (tm_cmp (op_neK (room0 hu) (ok_neD hu)) (em_v 9) (em_v 5) (nomark _))))))) (fun _ _ _ _ _ _ => (em_v 9)))) (bm_one (sm_if (tm_w (wm_and (tm_cmp ok_isntN (em_ixG (ixG_dict (room1 hu) ixG_seq) (em_v 4) (em_v 5) ⟨fun _ _ => rfl, fun _ _ => rfl⟩) em_non (nomark _)) (wm_and1 (tm_cmp (op_neK (room0 hu) (ok_neD hu)) (em_v 6) (em_v 5) (nomark _))))) (bm_cons (sm_if (tm_w (wm_and (tm_cmp (op_neK (room0 hu) (ok_neD hu)) (em_v 7) (em_lst am_nil) (nomark _)) (wm_and1 (tm_cmp (op_eqK (room0 hu) (ok_eqD hu)) (em_v 2) em_str (nomark _))))) (bm_one (sm_lock (sm_ret (em_tup (am_cons (em_tup (am_cons (em_v 5) (am_cons (em_ixG (ixG_dict (room1 hu) ixG_seq) (em_v 7) em_int ⟨fun _ _ => rfl, fun _ _ => rfl⟩) am_nil))) (am_cons (em_callT cr_tupP ok_tupP B.b_tuple (am_cons (em_callB cr_sortA ok_sort B.b_sorted (am_cons (em_lc (own := [("_law_key", 8)]) rfl nd (im_key (em_v 3)) (blkOk_by rfl) (fun _ _ _ _ _ _ => (gc_name 8 nd rfl (Or.inl rfl) (by decide))) (fun _ _ _ _ _ _ => tsm_nil) (fun _ _ _ _ _ _ => (em_tup (am_cons (em_v 8) (am_cons (em_v 8) am_nil))))) am_nil)) am_nil)) am_nil)))))) bm_nil) (bm_cons (sm_if (tm_w (wm_and (tm_cmp (op_neK (room0 hu) (ok_neD hu)) (em_v 7) (em_lst am_nil) (nomark _)) (wm_and1 (tm_cmp (op_eqK (room0 hu) (ok_eqD hu)) (em_v 2) em_str (nomark _))))) (bm_one (sm_ret (em_tup (am_cons (em_tup (am_cons (em_v 5) (am_cons (em_ixG (ixG_dict (room1 hu) ixG_seq) (em_v 7) em_int ⟨fun _ _ => rfl, fun _ _ => rfl⟩) am_nil))) (am_cons (em_kn h__law_ends (hr.less (by decide)) cAt_takes (am_cons (em_v 4) am_nil)) am_nil))))) bm_nil) (bm_cons (sm_if (tm_w (wm_and (tm_cmp (op_neK (room0 hu) (ok_neD hu)) (em_v 7) (em_lst am_nil) (nomark _)) (wm_and1 (tm_cmp (op_eqK (room0 hu) (ok_eqD hu)) (em_v 2) em_str (nomark _))))) (bm_one (sm_asg em_non (gm_subG (setG_dict (room1 hu) (setG_list set_list)) (em_v 4) (em_ixG (ixG_dict (room1 hu) ixG_seq) (em_v 7) em_int ⟨fun _ _ => rfl, fun _ _ => rfl⟩)))) bm_nil) (bm_one (sm_if (tm_w (wm_or (tm_cmp (op_eqK (room0 hu) (ok_eqD hu)) (em_v 7) (em_lst am_nil) (nomark _)) (wm_or1 (tm_cmp (op_eqK (room0 hu) (ok_eqD hu)) (em_v 2) em_str (nomark _))))) (bm_one (sm_asg (em_v 6) (gm_subG (setG_dict (room1 hu) (setG_list set_list)) (em_v 4) (em_v 5)))) bm_nil))))) bm_nil))))) (bm_one (sm_ret (em_tup (am_cons (em_tup am_nil) (am_cons (em_kn h__law_ends (hr.less (by decide)) cAt_takes (am_cons (em_v 4) am_nil)) am_nil))))))))
theorem k__law_run {P : Program} {w : World} {mg : Str → Option Value} {base : Heap} {T : Tab} (B : Bt P w mg T) (h__law_ends : Kn P w mg base T "_law_ends" 1 F__law_ends) {f : Addr} {fd : FuncData} (F : Fun T.K "_law_run" "_law_run" s__law_run f fd) (hm : mg "_law_run" = some (.ref f)) : Kn P w mg base T "_law_run" 2 F__law_run :=
  ⟨f, FnP.of (dms := []) (fnG_of F sc__law_run fun cdv A outer s H E g hr => d__law_run B h__law_ends hr) (F.binds (fun _ _ _ _ _ _ us hl => match us, hl with | [_, _, _], _ => rfl)) .nil (fun _ _ => .nil), hm, F.kp⟩
theorem sc_check_table : FnScope ["table"] ["table"] (defScope s_check_table) := ⟨rfl, rfl, rfl, by decide +kernel, rfl, by decide +kernel, by decide +kernel⟩
def m_check_table : MStm := (sIf (mNot (mB (mCall (mCons (mv 0) (mCons (mc (.cls "Table")) mNil)) (cIsi IS XS isi)))) (sRai "NotTable" (mCons (mc (.str "a table is asked for")) mNil)) sNx)
def F_check_table : Fn := posF 1 [] (bodyF 1 1 m_check_table)
theorem d_check_table {P : Program} {w : World} {mg : Str → Option Value} {base : Heap} {T : Tab} (B : Bt P w mg T)  {f : Addr} {cdv : Value} {A : Around} {outer : List Env} {s : Shared} {H : Hp} {E : XK} {g : Gh}  (hr : RoomG 0 (A.deeper (envOfC "check_table" (defScope s_check_table) s.heap.objs.size f cdv))) :
    PMb (cAt P w mg base T ["table"] "check_table" (defScope s_check_table) f cdv A outer s H E g) (defBody s_check_table) m_check_table :=
  have nd := sc_check_table.nd
  have hu := hr.toRoom.units
  have hu2 := room65 hr
  have hgd := hr.gs
  (bm_one (sm_if (tm_not (tm_val (em_callB call_isA (ok_isK B.x) B.b_isinstance (am_cons (em_v 0) (am_cons (em_kc B.kc_Table) am_nil))))) (bm_one (sm_raiK B.ke_NotTable B.ra_NotTable rfl cAt_takes (am_cons em_str am_nil))) bm_nil))
theorem k_check_table {P : Program} {w : World} {mg : Str → Option Value} {base : Heap} {T : Tab} (B : Bt P w mg T)  {f : Addr} {fd : FuncData} (F : Fun T.K "check_table" "check_table" s_check_table f fd) (hm : mg "check_table" = some (.ref f)) : Kn P w mg base T "check_table" 1 F_check_table :=
  ⟨f, FnP.of (dms := []) (fnG_of F sc_check_table fun cdv A outer s H E g hr => d_check_table B  hr) (F.binds (fun _ _ _ _ _ _ us hl => match us, hl with | [_], _ => rfl)) .nil (fun _ _ => .nil), hm, F.kp⟩
theorem sc_Table___contains__ : FnScope ["self", "thing"] ["self", "thing"] (defScope s_Table___contains__) := ⟨rfl, rfl, rfl, by decide +kernel, rfl, by decide +kernel, by decide +kernel⟩
def m_Table___contains__ : MStm := (sRet (mAndV (mFn (mCons (mv 1) mNil) F_is_integer) (m2 (oInD false (oInL false)) (mv 1) (mFld ["Table"] [] "_new_keys" (mv 0)))))
def F_Table___contains__ : Fn := posF 2 [] (bodyF 2 2 m_Table___contains__)
theorem d_Table___contains__ {P : Program} {w : World} {mg : Str → Option Value} {base : Heap} {T : Tab} (B : Bt P w mg T) (h_is_integer : Kn P w mg base T "is_integer" 1 F_is_integer) {f : Addr} {cdv : Value} {A : Around} {outer : List Env} {s : Shared} {H : Hp} {E : XK} {g : Gh}  (hr : RoomG 1 (A.deeper (envOfC "Table.__contains__" (defScope s_Table___contains__) s.heap.objs.size f cdv))) :
    PMb (cAt P w mg base T ["self", "thing"] "Table.__contains__" (defScope s_Table___contains__) f cdv A outer s H E g) (defBody s_Table___contains__) m_Table___contains__ :=
  have nd := sc_Table___contains__.nd
  have hu := hr.toRoom.units
  have hu2 := room65 hr
  have hgd := hr.gs
  (bm_one (sm_ret (em_and (em_kn h_is_integer (hr.less (by decide)) cAt_takes (am_cons (em_v 1) am_nil)) (em_one (em_cmp (op_inD (room1 hu) (ok_inL hu2)) (em_v 1) (em_kf B.f__new_keys (em_v 0)) (by with_unfolding_all rfl))))))
theorem k_Table___contains__ {P : Program} {w : World} {mg : Str → Option Value} {base : Heap} {T : Tab} (B : Bt P w mg T) (h_is_integer : Kn P w mg base T "is_integer" 1 F_is_integer) {f : Addr} {fd : FuncData} (F : Fun T.K "__contains__" "Table.__contains__" s_Table___contains__ f fd) : FnP P w mg base T 2 f F_Table___contains__ :=
  FnP.of (dms := []) (fnG_of F sc_Table___contains__ fun cdv A outer s H E g hr => d_Table___contains__ B h_is_integer hr) (F.binds (fun _ _ _ _ _ _ us hl => match us, hl with | [_, _], _ => rfl)) .nil (fun _ _ => .nil)
theorem sc_are_rows : FnScope ["table", "thing", "part"] ["table", "thing"] (defScope s_are_rows) := ⟨rfl, rfl, rfl, by decide +kernel, rfl, by decide +kernel, by decide +kernel⟩
def m_are_rows : MStm := (sRet (mAndV (mCall (mCons (mv 1) (mCons (mc (.ty "tuple")) mNil)) (cIsi IS XS isi)) (mCall (mCons (mLc [2] (iSeq (mv 1)) (gSet 2) mYes (m2 (oDunR "Table" F_Table___contains__ pBl (oInD false (oInL false))) (mv 2) (mv 0))) mNil) (cAll false))))
def F_are_rows : Fn := posF 2 [] (bodyF 2 3 m_are_rows)
theorem d_are_rows {P : Program} {w : World} {mg : Str → Option Value} {base : Heap} {T : Tab} (B : Bt P w mg T) (hM_Table___contains__ : KnM P w mg base T "Table" "__contains__" 2 F_Table___contains__) {f : Addr} {cdv : Value} {A : Around} {outer : List Env} {s : Shared} {H : Hp} {E : XK} {g : Gh}  (hr : RoomG 2 (A.deeper (envOfC "are_rows" (defScope s_are_rows) s.heap.objs.size f cdv))) :
    PMb (cAt P w mg base T ["table", "thing", "part"] "are_rows" (defScope s_are_rows) f cdv A outer s H E g) (defBody s_are_rows) m_are_rows :=
  have nd := sc_are_rows.nd
  have hu := hr.toRoom.units
  have hu2 := room65 hr
  have hgd := hr.gs
  (bm_one (sm_ret (em_and (em_callB call_isA (ok_isK B.x) B.b_isinstance (am_cons (em_v 1) (am_cons (em_ty B.b_tuple) am_nil))) (em_one (em_callB (cr_all rfl) ok_all B.b_all (am_cons (em_lc (own := [("part", 2)]) rfl nd (im_seq (em_v 1)) (blkOk_by rfl) (fun _ _ _ _ _ _ => (gc_name 2 nd rfl (Or.inl rfl) (by decide))) (fun _ _ _ _ _ _ => tsm_nil) (fun _ _ _ _ _ _ => (em_cmp (op_dunIn hM_Table___contains__ (hr.less (by decide)) takes0 (op_inD (room1 hu) (ok_inL hu2))) (em_v 2) (em_v 0) (by with_unfolding_all rfl)))) am_nil))))))
theorem k_are_rows {P : Program} {w : World} {mg : Str → Option Value} {base : Heap} {T : Tab} (B : Bt P w mg T) (hM_Table___contains__ : KnM P w mg base T "Table" "__contains__" 2 F_Table___contains__) {f : Addr} {fd : FuncData} (F : Fun T.K "are_rows" "are_rows" s_are_rows f fd) (hm : mg "are_rows" = some (.ref f)) : Kn P w mg base T "are_rows" 3 F_are_rows :=
  ⟨f, FnP.of (dms := []) (fnG_of F sc_are_rows fun cdv A outer s H E g hr => d_are_rows B hM_Table___contains__ hr) (F.binds (fun _ _ _ _ _ _ us hl => match us, hl with | [_, _], _ => rfl)) .nil (fun _ _ => .nil), hm, F.kp⟩
theorem sc_Table___len__ : FnScope ["self"] ["self"] (defScope s_Table___len__) := ⟨rfl, rfl, rfl, by decide +kernel, rfl, by decide +kernel, by decide +kernel⟩
def m_Table___len__ : MStm := (sRet (mCall (mCons (mFld ["Table"] [] "_new_keys" (mv 0)) mNil) (cLenD cLen)))
def F_Table___len__ : Fn := posF 1 [] (bodyF 1 1 m_Table___len__)
theorem d_Table___len__ {P : Program} {w : World} {mg : Str → Option Value} {base : Heap} {T : Tab} (B : Bt P w mg T)  {f : Addr} {cdv : Value} {A : Around} {outer : List Env} {s : Shared} {H : Hp} {E : XK} {g : Gh}  (hr : RoomG 0 (A.deeper (envOfC "Table.__len__" (defScope s_Table___len__) s.heap.objs.size f cdv))) :
    PMb (cAt P w mg base T ["self"] "Table.__len__" (defScope s_Table___len__) f cdv A outer s H E g) (defBody s_Table___len__) m_Table___len__ :=
  have nd := sc_Table___len__.nd
  have hu := hr.toRoom.units
  have hu2 := room65 hr
  have hgd := hr.gs
  (bm_one (sm_ret (em_callG (callG_lenD (CallG.of call_len ok_len)) B.b_len (am_cons (em_kf B.f__new_keys (em_v 0)) am_nil))))
theorem k_Table___len__ {P : Program} {w : World} {mg : Str → Option Value} {base : Heap} {T : Tab} (B : Bt P w mg T)  {f : Addr} {fd : FuncData} (F : Fun T.K "__len__" "Table.__len__" s_Table___len__ f fd) : FnP P w mg base T 1 f F_Table___len__ :=
  FnP.of (dms := []) (fnG_of F sc_Table___len__ fun cdv A outer s H E g hr => d_Table___len__ B  hr) (F.binds (fun _ _ _ _ _ _ us hl => match us, hl with | [_], _ => rfl)) .nil (fun _ _ => .nil)
theorem sc_is_order : FnScope ["table", "thing"] ["table", "thing"] (defScope s_is_order) := ⟨rfl, rfl, rfl, by decide +kernel, rfl, by decide +kernel, by decide +kernel⟩
def m_is_order : MStm := (sRet (mAndV (mFn (mCons (mv 0) (mCons (mv 1) mNil)) F_are_rows) (mAndV (m2 (oEqK false (oEqD false)) (mCall (mCons (mv 1) mNil) (cDun "Table" F_Table___len__ pNat (cLenD (cLenS cLen)))) (mCall (mCons (mv 0) mNil) (cDun "Table" F_Table___len__ pNat (cLenD (cLenS cLen))))) (m2 (oEqK false (oEqD false)) (mCall (mCons (mCall (mCons (mv 1) mNil) cSetI) mNil) (cDun "Table" F_Table___len__ pNat (cLenD (cLenS cLen)))) (mCall (mCons (mv 1) mNil) (cDun "Table" F_Table___len__ pNat (cLenD (cLenS cLen))))))))
def F_is_order : Fn := posF 2 [] (bodyF 2 2 m_is_order)
theorem d_is_order {P : Program} {w : World} {mg : Str → Option Value} {base : Heap} {T : Tab} (B : Bt P w mg T) (h_are_rows : Kn P w mg base T "are_rows" 3 F_are_rows) (hM_Table___len__ : KnM P w mg base T "Table" "__len__" 1 F_Table___len__) {f : Addr} {cdv : Value} {A : Around} {outer : List Env} {s : Shared} {H : Hp} {E : XK} {g : Gh}  (hr : RoomG 3 (A.deeper (envOfC "is_order" (defScope s_is_order) s.heap.objs.size f cdv))) :
    PMb (cAt P w mg base T ["table", "thing"] "is_order" (defScope s_is_order) f cdv A outer s H E g) (defBody s_is_order) m_is_order :=
  have nd := sc_is_order.nd
  have hu := hr.toRoom.units
  have hu2 := room65 hr
  have hgd := hr.gs
  (bm_one (sm_ret (em_and (em_kn h_are_rows (hr.less (by decide)) cAt_takes (am_cons (em_v 0) (am_cons (em_v 1) am_nil))) (em_and (em_cmp (op_eqK (room0 hu) (ok_eqD hu)) (em_callG (callG_lenI hM_Table___len__ (hr.less (by decide)) cAt_takes (callG_lenD (CallG.of (CallR.alt call_lenS call_len) (ok_lenS ok_len)))) B.b_len (am_cons (em_v 1) am_nil)) (em_callG (callG_lenI hM_Table___len__ (hr.less (by decide)) cAt_takes (callG_lenD (CallG.of (CallR.alt call_lenS call_len) (ok_lenS ok_len)))) B.b_len (am_cons (em_v 0) am_nil)) (nomark _)) (em_one (em_cmp (op_eqK (room0 hu) (ok_eqD hu)) (em_callG (callG_lenI hM_Table___len__ (hr.less (by decide)) cAt_takes (callG_lenD (CallG.of (CallR.alt call_lenS call_len) (ok_lenS ok_len)))) B.b_len (am_cons (em_callT (cr_setI rfl) ok_setI B.b_set (am_cons (em_v 1) am_nil)) am_nil)) (em_callG (callG_lenI hM_Table___len__ (hr.less (by decide)) cAt_takes (callG_lenD (CallG.of (CallR.alt call_lenS call_len) (ok_lenS ok_len)))) B.b_len (am_cons (em_v 1) am_nil)) (nomark _)))))))
theorem k_is_order {P : Program} {w : World} {mg : Str → Option Value} {base : Heap} {T : Tab} (B : Bt P w mg T) (h_are_rows : Kn P w mg base T "are_rows" 3 F_are_rows) (hM_Table___len__ : KnM P w mg base T "Table" "__len__" 1 F_Table___len__) {f : Addr} {fd : FuncData} (F : Fun T.K "is_order" "is_order" s_is_order f fd) (hm : mg "is_order" = some (.ref f)) : Kn P w mg base T "is_order" 4 F_is_order :=
  ⟨f, FnP.of (dms := []) (fnG_of F sc_is_order fun cdv A outer s H E g hr => d_is_order B h_are_rows hM_Table___len__ hr) (F.binds (fun _ _ _ _ _ _ us hl => match us, hl with | [_, _], _ => rfl)) .nil (fun _ _ => .nil), hm, F.kp⟩
theorem sc_check_order : FnScope ["table", "order"] ["table", "order"] (defScope s_check_order) := ⟨rfl, rfl, rfl, by decide +kernel, rfl, by decide +kernel, by decide +kernel⟩
def m_check_order : MStm := (sIf (mNot (mB (mFn (mCons (mv 0) (mCons (mv 1) mNil)) F_is_order))) (sRai "NotOrder" (mCons (mc (.str "an order is a tuple that has each key of the table once")) mNil)) sNx)
def F_check_order : Fn := posF 2 [] (bodyF 2 2 m_check_order)
theorem d_check_order {P : Program} {w : World} {mg : Str → Option Value} {base : Heap} {T : Tab} (B : Bt P w mg T) (h_is_order : Kn P w mg base T "is_order" 4 F_is_order) {f : Addr} {cdv : Value} {A : Around} {outer : List Env} {s : Shared} {H : Hp} {E : XK} {g : Gh}  (hr : RoomG 4 (A.deeper (envOfC "check_order" (defScope s_check_order) s.heap.objs.size f cdv))) :
    PMb (cAt P w mg base T ["table", "order"] "check_order" (defScope s_check_order) f cdv A outer s H E g) (defBody s_check_order) m_check_order :=
  have nd := sc_check_order.nd
  have hu := hr.toRoom.units
  have hu2 := room65 hr
  have hgd := hr.gs
  (bm_one (sm_if (tm_not (tm_val (em_kn h_is_order (hr.less (by decide)) cAt_takes (am_cons (em_v 0) (am_cons (em_v 1) am_nil))))) (bm_one (sm_raiK B.ke_NotOrder B.ra_NotOrder rfl cAt_takes (am_cons em_str am_nil))) bm_nil))
theorem k_check_order {P : Program} {w : World} {mg : Str → Option Value} {base : Heap} {T : Tab} (B : Bt P w mg T) (h_is_order : Kn P w mg base T "is_order" 4 F_is_order) {f : Addr} {fd : FuncData} (F : Fun T.K "check_order" "check_order" s_check_order f fd) (hm : mg "check_order" = some (.ref f)) : Kn P w mg base T "check_order" 5 F_check_order :=
  ⟨f, FnP.of (dms := []) (fnG_of F sc_check_order fun cdv A outer s H E g hr => d_check_order B h_is_order hr) (F.binds (fun _ _ _ _ _ _ us hl => match us, hl with | [_, _], _ => rfl)) .nil (fun _ _ => .nil), hm, F.kp⟩
theorem sc_Run_start_again : FnScope ["self", "row"] ["self"] (defScope s_Run_start_again) := ⟨rfl, rfl, rfl, by decide +kernel, rfl, by decide +kernel, by decide +kernel⟩
def m_Run_start_again : MStm := (sSeq (sPut "Run" "_keys" (mv 0) (mDc [1] (iSeqP (mFld ["Run"] [] "_rows" (mv 0))) (gSet 1) mYes (m2 (oIxD oIx) (mv 1) (mc (.int 0))) (m2 (oIxD oIx) (mv 1) (mc (.int 0))))) (sPut "Run" "_holders" (mv 0) (mDc [1] (iSeqP (mFld ["Run"] [] "_rows" (mv 0))) (gSet 1) mYes (m2 (oIxD oIx) (mv 1) (mc (.int 0))) (m2 (oIxD oIx) (mv 1) (mc (.int 0))))))
def F_Run_start_again : Fn := posF 1 [] (bodyF 1 2 m_Run_start_again)
theorem d_Run_start_again {P : Program} {w : World} {mg : Str → Option Value} {base : Heap} {T : Tab} (B : Bt P w mg T)  {f : Addr} {cdv : Value} {A : Around} {outer : List Env} {s : Shared} {H : Hp} {E : XK} {g : Gh}  (hr : RoomG 0 (A.deeper (envOfC "Run.start_again" (defScope s_Run_start_again) s.heap.objs.size f cdv))) :
    PMb (cAt P w mg base T ["self", "row"] "Run.start_again" (defScope s_Run_start_again) f cdv A outer s H E g) (defBody s_Run_start_again) m_Run_start_again :=
  have nd := sc_Run_start_again.nd
  have hu := hr.toRoom.units
  have hu2 := room65 hr
  have hgd := hr.gs
  (bm_cons (sm_put B.fc_Run__keys (em_v 0) (em_dc (own := [("row", 1)]) rfl nd (im_seqP (em_kf B.f__rows (em_v 0))) (blkOk_by rfl) (fun _ _ _ _ _ _ => (gc_name 1 nd rfl (Or.inl rfl) (by decide))) (fun _ _ _ _ _ _ => tsm_nil) (fun _ _ _ _ _ _ => (em_ixG (ixG_dict (room1 hu) ixG_seq) (em_v 1) em_int ⟨fun _ _ => rfl, fun _ _ => rfl⟩)) (fun _ _ _ _ _ _ => (em_ixG (ixG_dict (room1 hu) ixG_seq) (em_v 1) em_int ⟨fun _ _ => rfl, fun _ _ => rfl⟩)))) (bm_one (sm_put B.fc_Run__holders (em_v 0) (em_dc (own := [("row", 1)]) rfl nd (im_seqP (em_kf B.f__rows (em_v 0))) (blkOk_by rfl) (fun _ _ _ _ _ _ => (gc_name 1 nd rfl (Or.inl rfl) (by decide))) (fun _ _ _ _ _ _ => tsm_nil) (fun _ _ _ _ _ _ => (em_ixG (ixG_dict (room1 hu) ixG_seq) (em_v 1) em_int ⟨fun _ _ => rfl, fun _ _ => rfl⟩)) (fun _ _ _ _ _ _ => (em_ixG (ixG_dict (room1 hu) ixG_seq) (em_v 1) em_int ⟨fun _ _ => rfl, fun _ _ => rfl⟩))))))
theorem k_Run_start_again {P : Program} {w : World} {mg : Str → Option Value} {base : Heap} {T : Tab} (B : Bt P w mg T)  {f : Addr} {fd : FuncData} (F : Fun T.K "start_again" "Run.start_again" s_Run_start_again f fd) : FnP P w mg base T 1 f F_Run_start_again :=
  FnP.of (dms := []) (fnG_of F sc_Run_start_again fun cdv A outer s H E g hr => d_Run_start_again B  hr) (F.binds (fun _ _ _ _ _ _ us hl => match us, hl with | [_], _ => rfl)) .nil (fun _ _ => .nil)
abbrev tbl_start_again : List (Str × Fn) := [("Run", F_Run_start_again)]
theorem sc_Run___init__ : FnScope ["self", "rows"] ["self", "rows"] (defScope s_Run___init__) := ⟨rfl, rfl, rfl, by decide +kernel, rfl, by decide +kernel, by decide +kernel⟩
def m_Run___init__ : MStm := (sSeq (sPut "Run" "_rows" (mv 0) (mv 1)) (sSeq (sPut "Run" "_wanted" (mv 0) (mCall (mCons (mv 1) mNil) (cDictT cDict))) (sExpr (mOwn "start_again" tbl_start_again (mv 0) mNil))))
def F_Run___init__ : Fn := posF 2 [] (bodyF 2 2 m_Run___init__)
theorem d_Run___init__ {P : Program} {w : World} {mg : Str → Option Value} {base : Heap} {T : Tab} (B : Bt P w mg T) (hMe_start_again : KnMs P w mg base T "start_again" 1 tbl_start_again) {f : Addr} {cdv : Value} {A : Around} {outer : List Env} {s : Shared} {H : Hp} {E : XK} {g : Gh}  (hr : RoomG 1 (A.deeper (envOfC "Run.__init__" (defScope s_Run___init__) s.heap.objs.size f cdv))) :
    PMb (cAt P w mg base T ["self", "rows"] "Run.__init__" (defScope s_Run___init__) f cdv A outer s H E g) (defBody s_Run___init__) m_Run___init__ :=
  have nd := sc_Run___init__.nd
  have hu := hr.toRoom.units
  have hu2 := room65 hr
  have hgd := hr.gs
  (bm_cons (sm_put B.fc_Run__rows (em_v 0) (em_v 1)) (bm_cons (sm_put B.fc_Run__wanted (em_v 0) (em_callT (CallR.alt (cr_dictTP rfl) (call_dictP rfl)) (ok_dictT ok_dict) B.b_dict (am_cons (em_v 1) am_nil))) (bm_one (sm_expr (em_meth0 hMe_start_again (hr.less (by decide)) cAt_takes (em_v 0))))))
theorem k_Run___init__ {P : Program} {w : World} {mg : Str → Option Value} {base : Heap} {T : Tab} (B : Bt P w mg T) (hMe_start_again : KnMs P w mg base T "start_again" 1 tbl_start_again) {f : Addr} {fd : FuncData} (F : Fun T.K "__init__" "Run.__init__" s_Run___init__ f fd) : FnP P w mg base T 2 f F_Run___init__ :=
  FnP.of (dms := []) (fnG_of F sc_Run___init__ fun cdv A outer s H E g hr => d_Run___init__ B hMe_start_again hr) (F.binds (fun _ _ _ _ _ _ us hl => match us, hl with | [_, _], _ => rfl)) .nil (fun _ _ => .nil)
theorem sc_Run_move : FnScope ["self", "row"] ["self", "row"] (defScope s_Run_move) := ⟨rfl, rfl, rfl, by decide +kernel, rfl, by decide +kernel, by decide +kernel⟩
def m_Run_move : MStm := (sSeq (sDel (mFld ["Run"] [] "_holders" (mv 0)) (m2 (oIxD oIx) (mFld ["Run"] [] "_keys" (mv 0)) (mv 1))) (sSeq (sAsg (m2 (oIxD oIx) (mFld ["Run"] [] "_wanted" (mv 0)) (mv 1)) (gSub (mFld ["Run"] [] "_keys" (mv 0)) (mv 1) (fSetD fSetL))) (sAsg (mv 1) (gSub (mFld ["Run"] [] "_holders" (mv 0)) (m2 (oIxD oIx) (mFld ["Run"] [] "_wanted" (mv 0)) (mv 1)) (fSetD fSetL)))))
def F_Run_move : Fn := posF 2 [] (bodyF 2 2 m_Run_move)
theorem d_Run_move {P : Program} {w : World} {mg : Str → Option Value} {base : Heap} {T : Tab} (B : Bt P w mg T)  {f : Addr} {cdv : Value} {A : Around} {outer : List Env} {s : Shared} {H : Hp} {E : XK} {g : Gh}  (hr : RoomG 0 (A.deeper (envOfC "Run.move" (defScope s_Run_move) s.heap.objs.size f cdv))) :
    PMb (cAt P w mg base T ["self", "row"] "Run.move" (defScope s_Run_move) f cdv A outer s H E g) (defBody s_Run_move) m_Run_move :=
  have nd := sc_Run_move.nd
  have hu := hr.toRoom.units
  have hu2 := room65 hr
  have hgd := hr.gs
  (bm_cons (sm_del (em_kf B.f__holders (em_v 0)) (em_ixG (ixG_dict (room1 hu) ixG_seq) (em_kf B.f__keys (em_v 0)) (em_v 1) ⟨fun _ _ => rfl, fun _ _ => rfl⟩)) (bm_cons (sm_asg (em_ixG (ixG_dict (room1 hu) ixG_seq) (em_kf B.f__wanted (em_v 0)) (em_v 1) ⟨fun _ _ => rfl, fun _ _ => rfl⟩) (gm_subG (setG_dict (room1 hu) (setG_list set_list)) (em_kf B.f__keys (em_v 0)) (em_v 1))) (bm_one (sm_asg (em_v 1) (gm_subG (setG_dict (room1 hu) (setG_list set_list)) (em_kf B.f__holders (em_v 0)) (em_ixG (ixG_dict (room1 hu) ixG_seq) (em_kf B.f__wanted (em_v 0)) (em_v 1) ⟨fun _ _ => rfl, fun _ _ => rfl⟩))))))
theorem k_Run_move {P : Program} {w : World} {mg : Str → Option Value} {base : Heap} {T : Tab} (B : Bt P w mg T)  {f : Addr} {fd : FuncData} (F : Fun T.K "move" "Run.move" s_Run_move f fd) : FnP P w mg base T 1 f F_Run_move :=
  FnP.of (dms := []) (fnG_of F sc_Run_move fun cdv A outer s H E g hr => d_Run_move B  hr) (F.binds (fun _ _ _ _ _ _ us hl => match us, hl with | [_, _], _ => rfl)) .nil (fun _ _ => .nil)
abbrev tbl_move : List (Str × Fn) := [("Run", F_Run_move)]
theorem sc_Run_visit : FnScope ["self", "row", "holder"] ["self", "row"] (defScope s_Run_visit) := ⟨rfl, rfl, rfl, by decide +kernel, rfl, by decide +kernel, by decide +kernel⟩
def m_Run_visit : MStm := (sSeq (sIf (mOr (mB (m2 (oInD true (oInL true)) (mv 1) (mFld ["Run"] [] "_keys" (mv 0)))) (mB (m2 (oEqK false (oEqD false)) (m2 (oIxD oIx) (mFld ["Run"] [] "_keys" (mv 0)) (mv 1)) (m2 (oIxD oIx) (mFld ["Run"] [] "_wanted" (mv 0)) (mv 1))))) (sRet (mc .non)) sNx) (sSeq (sSet 2 (mGet1 (mFld ["Run"] [] "_holders" (mv 0)) (m2 (oIxD oIx) (mFld ["Run"] [] "_wanted" (mv 0)) (mv 1)))) (sSeq (sIf (mB (m2 (oIsN false) (mv 2) (mc .non))) (sExpr (mOwn "move" tbl_move (mv 0) (mCons (mv 1) mNil))) sNx) (sRet (mv 2)))))
def F_Run_visit : Fn := posF 2 [] (bodyF 2 3 m_Run_visit)
theorem d_Run_visit {P : Program} {w : World} {mg : Str → Option Value} {base : Heap} {T : Tab} (B : Bt P w mg T) (hMe_move : KnMs P w mg base T "move" 1 tbl_move) {f : Addr} {cdv : Value} {A : Around} {outer : List Env} {s : Shared} {H : Hp} {E : XK} {g : Gh}  (hr : RoomG 1 (A.deeper (envOfC "Run.visit" (defScope s_Run_visit) s.heap.objs.size f cdv))) :
    PMb (cAt P w mg base T ["self", "row", "holder"] "Run.visit" (defScope s_Run_visit) f cdv A outer s H E g) (defBody s_Run_visit) m_Run_visit :=
  have nd := sc_Run_visit.nd
  have hu := hr.toRoom.units
  have hu2 := room65 hr
  have hgd := hr.gs
  (bm_cons (sm_if (tm_w (wm_or (tm_cmp (op_notInD (room1 hu) (ok_notInL hu2)) (em_v 1) (em_kf B.f__keys (em_v 0)) (by with_unfolding_all rfl)) (wm_or1 (tm_cmp (op_eqK (room0 hu) (ok_eqD hu)) (em_ixG (ixG_dict (room1 hu) ixG_seq) (em_kf B.f__keys (em_v 0)) (em_v 1) ⟨fun _ _ => rfl, fun _ _ => rfl⟩) (em_ixG (ixG_dict (room1 hu) ixG_seq) (em_kf B.f__wanted (em_v 0)) (em_v 1) ⟨fun _ _ => rfl, fun _ _ => rfl⟩) (nomark _))))) (bm_one (sm_ret em_non)) bm_nil) (bm_cons (sm_set 2 nd rfl (Or.inl rfl) (em_get1 (room1 hu) (em_kf B.f__holders (em_v 0)) (em_ixG (ixG_dict (room1 hu) ixG_seq) (em_kf B.f__wanted (em_v 0)) (em_v 1) ⟨fun _ _ => rfl, fun _ _ => rfl⟩))) (bm_cons (sm_if (tm_cmp ok_isN (em_v 2) em_non (nomark _)) (bm_one (sm_expr (em_meth hMe_move (hr.less (by decide)) cAt_takes (em_v 0) (am_cons (em_v 1) am_nil)))) bm_nil) (bm_one (sm_ret (em_v 2))))))
theorem k_Run_visit {P : Program} {w : World} {mg : Str → Option Value} {base : Heap} {T : Tab} (B : Bt P w mg T) (hMe_move : KnMs P w mg base T "move" 1 tbl_move) {f : Addr} {fd : FuncData} (F : Fun T.K "visit" "Run.visit" s_Run_visit f fd) : FnP P w mg base T 2 f F_Run_visit :=
  FnP.of (dms := []) (fnG_of F sc_Run_visit fun cdv A outer s H E g hr => d_Run_visit B hMe_move hr) (F.binds (fun _ _ _ _ _ _ us hl => match us, hl with | [_, _], _ => rfl)) .nil (fun _ _ => .nil)
theorem sc_Undoes_settle : FnScope ["self", "run", "row", "holder"] ["self", "run", "row", "holder"] (defScope s_Undoes_settle) := ⟨rfl, rfl, rfl, by decide +kernel, rfl, by decide +kernel, by decide +kernel⟩
def m_Undoes_settle : MStm := (sExpr (mOwn "start_again" tbl_start_again (mv 1) mNil))
def F_Undoes_settle : Fn := posF 4 [] (bodyF 4 4 m_Undoes_settle)
theorem d_Undoes_settle {P : Program} {w : World} {mg : Str → Option Value} {base : Heap} {T : Tab} (B : Bt P w mg T) (hMe_start_again : KnMs P w mg base T "start_again" 1 tbl_start_again) {f : Addr} {cdv : Value} {A : Around} {outer : List Env} {s : Shared} {H : Hp} {E : XK} {g : Gh}  (hr : RoomG 1 (A.deeper (envOfC "Undoes.settle" (defScope s_Undoes_settle) s.heap.objs.size f cdv))) :
    PMb (cAt P w mg base T ["self", "run", "row", "holder"] "Undoes.settle" (defScope s_Undoes_settle) f cdv A outer s H E g) (defBody s_Undoes_settle) m_Undoes_settle :=
  have nd := sc_Undoes_settle.nd
  have hu := hr.toRoom.units
  have hu2 := room65 hr
  have hgd := hr.gs
  (bm_one (sm_expr (em_meth0 hMe_start_again (hr.less (by decide)) cAt_takes (em_v 1))))
theorem k_Undoes_settle {P : Program} {w : World} {mg : Str → Option Value} {base : Heap} {T : Tab} (B : Bt P w mg T) (hMe_start_again : KnMs P w mg base T "start_again" 1 tbl_start_again) {f : Addr} {fd : FuncData} (F : Fun T.K "settle" "Undoes.settle" s_Undoes_settle f fd) : FnP P w mg base T 2 f F_Undoes_settle :=
  FnP.of (dms := []) (fnG_of F sc_Undoes_settle fun cdv A outer s H E g hr => d_Undoes_settle B hMe_start_again hr) (F.binds (fun _ _ _ _ _ _ us hl => match us, hl with | [_, _, _, _], _ => rfl)) .nil (fun _ _ => .nil)
theorem sc_Leaves_settle : FnScope ["self", "run", "row", "holder"] ["self", "run", "row", "holder"] (defScope s_Leaves_settle) := ⟨rfl, rfl, rfl, by decide +kernel, rfl, by decide +kernel, by decide +kernel⟩
def m_Leaves_settle : MStm := sNx
def F_Leaves_settle : Fn := posF 4 [] (bodyF 4 4 m_Leaves_settle)
theorem d_Leaves_settle {P : Program} {w : World} {mg : Str → Option Value} {base : Heap} {T : Tab} (B : Bt P w mg T)  {f : Addr} {cdv : Value} {A : Around} {outer : List Env} {s : Shared} {H : Hp} {E : XK} {g : Gh}  (hr : RoomG 0 (A.deeper (envOfC "Leaves.settle" (defScope s_Leaves_settle) s.heap.objs.size f cdv))) :
    PMb (cAt P w mg base T ["self", "run", "row", "holder"] "Leaves.settle" (defScope s_Leaves_settle) f cdv A outer s H E g) (defBody s_Leaves_settle) m_Leaves_settle :=
  have nd := sc_Leaves_settle.nd
  have hu := hr.toRoom.units
  have hu2 := room65 hr
  have hgd := hr.gs
  (bm_one sm_pass)
theorem k_Leaves_settle {P : Program} {w : World} {mg : Str → Option Value} {base : Heap} {T : Tab} (B : Bt P w mg T)  {f : Addr} {fd : FuncData} (F : Fun T.K "settle" "Leaves.settle" s_Leaves_settle f fd) : FnP P w mg base T 1 f F_Leaves_settle :=
  FnP.of (dms := []) (fnG_of F sc_Leaves_settle fun cdv A outer s H E g hr => d_Leaves_settle B  hr) (F.binds (fun _ _ _ _ _ _ us hl => match us, hl with | [_, _, _, _], _ => rfl)) .nil (fun _ _ => .nil)
theorem sc_Run_take_out : FnScope ["self", "row"] ["self", "row"] (defScope s_Run_take_out) := ⟨rfl, rfl, rfl, by decide +kernel, rfl, by decide +kernel, by decide +kernel⟩
def m_Run_take_out : MStm := (sSeq (sDel (mFld ["Run"] [] "_holders" (mv 0)) (m2 (oIxD oIx) (mFld ["Run"] [] "_keys" (mv 0)) (mv 1))) (sDel (mFld ["Run"] [] "_keys" (mv 0)) (mv 1)))
def F_Run_take_out : Fn := posF 2 [] (bodyF 2 2 m_Run_take_out)
theorem d_Run_take_out {P : Program} {w : World} {mg : Str → Option Value} {base : Heap} {T : Tab} (B : Bt P w mg T)  {f : Addr} {cdv : Value} {A : Around} {outer : List Env} {s : Shared} {H : Hp} {E : XK} {g : Gh}  (hr : RoomG 0 (A.deeper (envOfC "Run.take_out" (defScope s_Run_take_out) s.heap.objs.size f cdv))) :
    PMb (cAt P w mg base T ["self", "row"] "Run.take_out" (defScope s_Run_take_out) f cdv A outer s H E g) (defBody s_Run_take_out) m_Run_take_out :=
  have nd := sc_Run_take_out.nd
  have hu := hr.toRoom.units
  have hu2 := room65 hr
  have hgd := hr.gs
  (bm_cons (sm_del (em_kf B.f__holders (em_v 0)) (em_ixG (ixG_dict (room1 hu) ixG_seq) (em_kf B.f__keys (em_v 0)) (em_v 1) ⟨fun _ _ => rfl, fun _ _ => rfl⟩)) (bm_one (sm_del (em_kf B.f__keys (em_v 0)) (em_v 1))))
theorem k_Run_take_out {P : Program} {w : World} {mg : Str → Option Value} {base : Heap} {T : Tab} (B : Bt P w mg T)  {f : Addr} {fd : FuncData} (F : Fun T.K "take_out" "Run.take_out" s_Run_take_out f fd) : FnP P w mg base T 1 f F_Run_take_out :=
  FnP.of (dms := []) (fnG_of F sc_Run_take_out fun cdv A outer s H E g hr => d_Run_take_out B  hr) (F.binds (fun _ _ _ _ _ _ us hl => match us, hl with | [_, _], _ => rfl)) .nil (fun _ _ => .nil)
abbrev tbl_take_out : List (Str × Fn) := [("Run", F_Run_take_out)]
theorem sc_Removes_settle : FnScope ["self", "run", "row", "holder"] ["self", "run", "row", "holder"] (defScope s_Removes_settle) := ⟨rfl, rfl, rfl, by decide +kernel, rfl, by decide +kernel, by decide +kernel⟩
def m_Removes_settle : MStm := (sSeq (sExpr (mOwn "take_out" tbl_take_out (mv 1) (mCons (mv 3) mNil))) (sExpr (mOwn "move" tbl_move (mv 1) (mCons (mv 2) mNil))))
def F_Removes_settle : Fn := posF 4 [] (bodyF 4 4 m_Removes_settle)
theorem d_Removes_settle {P : Program} {w : World} {mg : Str → Option Value} {base : Heap} {T : Tab} (B : Bt P w mg T) (hMe_take_out : KnMs P w mg base T "take_out" 1 tbl_take_out) (hMe_move : KnMs P w mg base T "move" 1 tbl_move) {f : Addr} {cdv : Value} {A : Around} {outer : List Env} {s : Shared} {H : Hp} {E : XK} {g : Gh}  (hr : RoomG 1 (A.deeper (envOfC "Removes.settle" (defScope s_Removes_settle) s.heap.objs.size f cdv))) :
    PMb (cAt P w mg base T ["self", "run", "row", "holder"] "Removes.settle" (defScope s_Removes_settle) f cdv A outer s H E g) (defBody s_Removes_settle) m_Removes_settle :=
  have nd := sc_Removes_settle.nd
  have hu := hr.toRoom.units
  have hu2 := room65 hr
  have hgd := hr.gs
  (bm_cons (sm_expr (em_meth hMe_take_out (hr.less (by decide)) cAt_takes (em_v 1) (am_cons (em_v 3) am_nil))) (bm_one (sm_expr (em_meth hMe_move (hr.less (by decide)) cAt_takes (em_v 1) (am_cons (em_v 2) am_nil)))))
theorem k_Removes_settle {P : Program} {w : World} {mg : Str → Option Value} {base : Heap} {T : Tab} (B : Bt P w mg T) (hMe_take_out : KnMs P w mg base T "take_out" 1 tbl_take_out) (hMe_move : KnMs P w mg base T "move" 1 tbl_move) {f : Addr} {fd : FuncData} (F : Fun T.K "settle" "Removes.settle" s_Removes_settle f fd) : FnP P w mg base T 2 f F_Removes_settle :=
  FnP.of (dms := []) (fnG_of F sc_Removes_settle fun cdv A outer s H E g hr => d_Removes_settle B hMe_take_out hMe_move hr) (F.binds (fun _ _ _ _ _ _ us hl => match us, hl with | [_, _, _, _], _ => rfl)) .nil (fun _ _ => .nil)
theorem sc_Stops_goes_on : FnScope ["self"] ["self"] (defScope s_Stops_goes_on) := ⟨rfl, rfl, rfl, by decide +kernel, rfl, by decide +kernel, by decide +kernel⟩
def m_Stops_goes_on : MStm := (sRet (mc (.bl false)))
def F_Stops_goes_on : Fn := posF 1 [] (bodyF 1 1 m_Stops_goes_on)
theorem d_Stops_goes_on {P : Program} {w : World} {mg : Str → Option Value} {base : Heap} {T : Tab} (B : Bt P w mg T)  {f : Addr} {cdv : Value} {A : Around} {outer : List Env} {s : Shared} {H : Hp} {E : XK} {g : Gh}  (hr : RoomG 0 (A.deeper (envOfC "Stops.goes_on" (defScope s_Stops_goes_on) s.heap.objs.size f cdv))) :
    PMb (cAt P w mg base T ["self"] "Stops.goes_on" (defScope s_Stops_goes_on) f cdv A outer s H E g) (defBody s_Stops_goes_on) m_Stops_goes_on :=
  have nd := sc_Stops_goes_on.nd
  have hu := hr.toRoom.units
  have hu2 := room65 hr
  have hgd := hr.gs
  (bm_one (sm_ret em_bl))
theorem k_Stops_goes_on {P : Program} {w : World} {mg : Str → Option Value} {base : Heap} {T : Tab} (B : Bt P w mg T)  {f : Addr} {fd : FuncData} (F : Fun T.K "goes_on" "Stops.goes_on" s_Stops_goes_on f fd) : FnP P w mg base T 1 f F_Stops_goes_on :=
  FnP.of (dms := []) (fnG_of F sc_Stops_goes_on fun cdv A outer s H E g hr => d_Stops_goes_on B  hr) (F.binds (fun _ _ _ _ _ _ us hl => match us, hl with | [_], _ => rfl)) .nil (fun _ _ => .nil)
theorem sc_Continues_goes_on : FnScope ["self"] ["self"] (defScope s_Continues_goes_on) := ⟨rfl, rfl, rfl, by decide +kernel, rfl, by decide +kernel, by decide +kernel⟩
def m_Continues_goes_on : MStm := (sRet (mc (.bl true)))
def F_Continues_goes_on : Fn := posF 1 [] (bodyF 1 1 m_Continues_goes_on)
theorem d_Continues_goes_on {P : Program} {w : World} {mg : Str → Option Value} {base : Heap} {T : Tab} (B : Bt P w mg T)  {f : Addr} {cdv : Value} {A : Around} {outer : List Env} {s : Shared} {H : Hp} {E : XK} {g : Gh}  (hr : RoomG 0 (A.deeper (envOfC "Continues.goes_on" (defScope s_Continues_goes_on) s.heap.objs.size f cdv))) :
    PMb (cAt P w mg base T ["self"] "Continues.goes_on" (defScope s_Continues_goes_on) f cdv A outer s H E g) (defBody s_Continues_goes_on) m_Continues_goes_on :=
  have nd := sc_Continues_goes_on.nd
  have hu := hr.toRoom.units
  have hu2 := room65 hr
  have hgd := hr.gs
  (bm_one (sm_ret em_bl))
theorem k_Continues_goes_on {P : Program} {w : World} {mg : Str → Option Value} {base : Heap} {T : Tab} (B : Bt P w mg T)  {f : Addr} {fd : FuncData} (F : Fun T.K "goes_on" "Continues.goes_on" s_Continues_goes_on f fd) : FnP P w mg base T 1 f F_Continues_goes_on :=
  FnP.of (dms := []) (fnG_of F sc_Continues_goes_on fun cdv A outer s H E g hr => d_Continues_goes_on B  hr) (F.binds (fun _ _ _ _ _ _ us hl => match us, hl with | [_], _ => rfl)) .nil (fun _ _ => .nil)
abbrev tbl_visit : List (Str × Fn) := [("Run", F_Run_visit)]
abbrev tbl_settle : List (Str × Fn) := [("Abort", F_Undoes_settle), ("Fail", F_Leaves_settle), ("Ignore", F_Leaves_settle), ("Replace", F_Removes_settle)]
abbrev tbl_goes_on : List (Str × Fn) := [("Abort", F_Stops_goes_on), ("Fail", F_Stops_goes_on), ("Ignore", F_Continues_goes_on), ("Replace", F_Continues_goes_on)]
theorem sc_Rule_visit_all : FnScope ["self", "run", "order", "row", "holder"] ["self", "run", "order"] (defScope s_Rule_visit_all) := ⟨rfl, rfl, rfl, by decide +kernel, rfl, by decide +kernel, by decide +kernel⟩
def m_Rule_visit_all : MStm := (sSeq (sForI (iSeq (mv 2)) (gSet 3) (sSeq (sSet 4 (mOwn "visit" tbl_visit (mv 1) (mCons (mv 3) mNil))) (sIf (mB (m2 (oIsN true) (mv 4) (mc .non))) (sSeq (sExpr (mOwn "settle" tbl_settle (mv 0) (mCons (mv 1) (mCons (mv 3) (mCons (mv 4) mNil))))) (sIf (mNot (mB (mOwn "goes_on" tbl_goes_on (mv 0) mNil))) (sRet (mTup (mCons (mv 3) (mCons (mv 4) mNil)))) sNx)) sNx))) (sRet (mTup mNil)))
def F_Rule_visit_all : Fn := posF 3 [] (bodyF 3 5 m_Rule_visit_all)
theorem d_Rule_visit_all {P : Program} {w : World} {mg : Str → Option Value} {base : Heap} {T : Tab} (B : Bt P w mg T) (hMe_visit : KnMs P w mg base T "visit" 2 tbl_visit) (hMe_settle : KnMs P w mg base T "settle" 2 tbl_settle) (hMe_goes_on : KnMs P w mg base T "goes_on" 1 tbl_goes_on) {f : Addr} {cdv : Value} {A : Around} {outer : List Env} {s : Shared} {H : Hp} {E : XK} {g : Gh}  (hr : RoomG 2 (A.deeper (envOfC "Rule.visit_all" (defScope s_Rule_visit_all) s.heap.objs.size f cdv))) :
    PMb (cAt P w mg base T ["self", "run", "order", "row", "holder"] "Rule.visit_all" (defScope s_Rule_visit_all) f cdv A outer s H E g) (defBody s_Rule_visit_all) m_Rule_visit_all :=
  have nd := sc_Rule_visit_all.nd
  have hu := hr.toRoom.units
  have hu2 := room65 hr
  have hgd := hr.gs
  (bm_cons (sm_for (passes_of rfl) rfl (im_seq (em_v 2)) (gm_name 3 nd rfl (Or.inl rfl)) (bm_cons (sm_set 4 nd rfl (Or.inl rfl) (em_meth hMe_visit (hr.less (by decide)) cAt_takes (em_v 1) (am_cons (em_v 3) am_nil))) (bm_one (sm_if (tm_cmp ok_isntN (em_v 4) em_non (nomark _)) (bm_cons (sm_expr (em_meth hMe_settle (hr.less (by decide)) cAt_takes (em_v 0) (am_cons (em_v 1) (am_cons (em_v 3) (am_cons (em_v 4) am_nil))))) (bm_one (sm_if (tm_not (tm_val (em_meth0 hMe_goes_on (hr.less (by decide)) cAt_takes (em_v 0)))) (bm_one (sm_ret (em_tup (am_cons (em_v 3) (am_cons (em_v 4) am_nil))))) bm_nil))) bm_nil)))) (bm_one (sm_ret (em_tup am_nil))))
theorem k_Rule_visit_all {P : Program} {w : World} {mg : Str → Option Value} {base : Heap} {T : Tab} (B : Bt P w mg T) (hMe_visit : KnMs P w mg base T "visit" 2 tbl_visit) (hMe_settle : KnMs P w mg base T "settle" 2 tbl_settle) (hMe_goes_on : KnMs P w mg base T "goes_on" 1 tbl_goes_on) {f : Addr} {fd : FuncData} (F : Fun T.K "visit_all" "Rule.visit_all" s_Rule_visit_all f fd) : FnP P w mg base T 3 f F_Rule_visit_all :=
  FnP.of (dms := []) (fnG_of F sc_Rule_visit_all fun cdv A outer s H E g hr => d_Rule_visit_all B hMe_visit hMe_settle hMe_goes_on hr) (F.binds (fun _ _ _ _ _ _ us hl => match us, hl with | [_, _, _], _ => rfl)) .nil (fun _ _ => .nil)
theorem sc_Outcome___init__ : FnScope ["self", "rows", "stop", "ends"] ["self", "rows", "stop", "ends"] (defScope s_Outcome___init__) := ⟨rfl, rfl, rfl, by decide +kernel, rfl, by decide +kernel, by decide +kernel⟩
def m_Outcome___init__ : MStm := (sPut "Outcome" "_triple" (mv 0) (mTup (mCons (mv 1) (mCons (mv 2) (mCons (mv 3) mNil)))))
def F_Outcome___init__ : Fn := posF 4 [] (bodyF 4 4 m_Outcome___init__)
theorem d_Outcome___init__ {P : Program} {w : World} {mg : Str → Option Value} {base : Heap} {T : Tab} (B : Bt P w mg T)  {f : Addr} {cdv : Value} {A : Around} {outer : List Env} {s : Shared} {H : Hp} {E : XK} {g : Gh}  (hr : RoomG 0 (A.deeper (envOfC "Outcome.__init__" (defScope s_Outcome___init__) s.heap.objs.size f cdv))) :
    PMb (cAt P w mg base T ["self", "rows", "stop", "ends"] "Outcome.__init__" (defScope s_Outcome___init__) f cdv A outer s H E g) (defBody s_Outcome___init__) m_Outcome___init__ :=
  have nd := sc_Outcome___init__.nd
  have hu := hr.toRoom.units
  have hu2 := room65 hr
  have hgd := hr.gs
  (bm_one (sm_put B.fc_Outcome__triple (em_v 0) (em_tup (am_cons (em_v 1) (am_cons (em_v 2) (am_cons (em_v 3) am_nil))))))
theorem k_Outcome___init__ {P : Program} {w : World} {mg : Str → Option Value} {base : Heap} {T : Tab} (B : Bt P w mg T)  {f : Addr} {fd : FuncData} (F : Fun T.K "__init__" "Outcome.__init__" s_Outcome___init__ f fd) : FnP P w mg base T 1 f F_Outcome___init__ :=
  FnP.of (dms := []) (fnG_of F sc_Outcome___init__ fun cdv A outer s H E g hr => d_Outcome___init__ B  hr) (F.binds (fun _ _ _ _ _ _ us hl => match us, hl with | [_, _, _, _], _ => rfl)) .nil (fun _ _ => .nil)
theorem sc_Run_held_by_rows : FnScope ["self"] ["self"] (defScope s_Run_held_by_rows) := ⟨rfl, rfl, rfl, by decide +kernel, rfl, by decide +kernel, by decide +kernel⟩
def m_Run_held_by_rows : MStm := (sRet (mItemsB (mFld ["Run"] [] "_keys" (mv 0))))
def F_Run_held_by_rows : Fn := posF 1 [] (bodyF 1 1 m_Run_held_by_rows)
theorem d_Run_held_by_rows {P : Program} {w : World} {mg : Str → Option Value} {base : Heap} {T : Tab} (B : Bt P w mg T)  {f : Addr} {cdv : Value} {A : Around} {outer : List Env} {s : Shared} {H : Hp} {E : XK} {g : Gh}  (hr : RoomG 0 (A.deeper (envOfC "Run.held_by_rows" (defScope s_Run_held_by_rows) s.heap.objs.size f cdv))) :
    PMb (cAt P w mg base T ["self"] "Run.held_by_rows" (defScope s_Run_held_by_rows) f cdv A outer s H E g) (defBody s_Run_held_by_rows) m_Run_held_by_rows :=
  have nd := sc_Run_held_by_rows.nd
  have hu := hr.toRoom.units
  have hu2 := room65 hr
  have hgd := hr.gs
  (bm_one (sm_ret (em_tupItemsB rfl (em_kf B.f__keys (em_v 0)) B.b_tuple)))
theorem k_Run_held_by_rows {P : Program} {w : World} {mg : Str → Option Value} {base : Heap} {T : Tab} (B : Bt P w mg T)  {f : Addr} {fd : FuncData} (F : Fun T.K "held_by_rows" "Run.held_by_rows" s_Run_held_by_rows f fd) : FnP P w mg base T 1 f F_Run_held_by_rows :=
  FnP.of (dms := []) (fnG_of F sc_Run_held_by_rows fun cdv A outer s H E g hr => d_Run_held_by_rows B  hr) (F.binds (fun _ _ _ _ _ _ us hl => match us, hl with | [_], _ => rfl)) .nil (fun _ _ => .nil)
abbrev tbl_visit_all : List (Str × Fn) := [("Abort", F_Rule_visit_all), ("Fail", F_Rule_visit_all), ("Ignore", F_Rule_visit_all), ("Replace", F_Rule_visit_all)]
abbrev tbl_held_by_rows : List (Str × Fn) := [("Run", F_Run_held_by_rows)]
theorem sc_Rule___call__ : FnScope ["self", "table", "order", "run", "stop"] ["self", "table", "order"] (defScope s_Rule___call__) := ⟨rfl, rfl, rfl, by decide +kernel, rfl, by decide +kernel, by decide +kernel⟩
def m_Rule___call__ : MStm := (sSeq (sExpr (mFn (mCons (mv 1) mNil) F_check_table)) (sSeq (sExpr (mFn (mCons (mv 1) (mCons (mv 2) mNil)) F_check_order)) (sSeq (sSet 3 (mMk "Run" F_Run___init__ (mCons (mAt (mv 1) (oPrp "Table" F_Table_rows_b (fun _ _ => .stuck))) mNil))) (sSeq (sSet 4 (mOwn "visit_all" tbl_visit_all (mv 0) (mCons (mv 3) (mCons (mv 2) mNil)))) (sRet (mMk "Outcome" F_Outcome___init__ (mCons (mAt (mv 1) (oPrp "Table" F_Table_rows_b (fun _ _ => .stuck))) (mCons (mv 4) (mCons (mOwn "held_by_rows" tbl_held_by_rows (mv 3) mNil) mNil)))))))))
def F_Rule___call__ : Fn := posF 3 [] (bodyF 3 5 m_Rule___call__)
theorem d_Rule___call__ {P : Program} {w : World} {mg : Str → Option Value} {base : Heap} {T : Tab} (B : Bt P w mg T) (h_check_table : Kn P w mg base T "check_table" 1 F_check_table) (h_check_order : Kn P w mg base T "check_order" 5 F_check_order) (hT_Run : KnT P w mg base T "Run" 2 F_Run___init__) (hPb_Table_rows : PrK T "Table" "rows" P w mg base 1 F_Table_rows_b) (hMe_visit_all : KnMs P w mg base T "visit_all" 3 tbl_visit_all) (hT_Outcome : KnT P w mg base T "Outcome" 1 F_Outcome___init__) (hMe_held_by_rows : KnMs P w mg base T "held_by_rows" 1 tbl_held_by_rows) {f : Addr} {cdv : Value} {A : Around} {outer : List Env} {s : Shared} {H : Hp} {E : XK} {g : Gh}  (hr : RoomG 5 (A.deeper (envOfC "Rule.__call__" (defScope s_Rule___call__) s.heap.objs.size f cdv))) :
    PMb (cAt P w mg base T ["self", "table", "order", "run", "stop"] "Rule.__call__" (defScope s_Rule___call__) f cdv A outer s H E g) (defBody s_Rule___call__) m_Rule___call__ :=
  have nd := sc_Rule___call__.nd
  have hu := hr.toRoom.units
  have hu2 := room65 hr
  have hgd := hr.gs
  (bm_cons (sm_expr (em_kn h_check_table (hr.less (by decide)) cAt_takes (am_cons (em_v 1) am_nil))) (bm_cons (sm_expr (em_kn h_check_order (hr.less (by decide)) cAt_takes (am_cons (em_v 1) (am_cons (em_v 2) am_nil)))) (bm_cons (sm_set 3 nd rfl (Or.inl rfl) (em_mk hT_Run (hr.less (by decide)) cAt_takes (am_cons (em_atG (atG_prp hPb_Table_rows (hr.less (by decide)) cAt_takes atG_none) (em_v 1)) am_nil))) (bm_cons (sm_set 4 nd rfl (Or.inl rfl) (em_meth hMe_visit_all (hr.less (by decide)) cAt_takes (em_v 0) (am_cons (em_v 3) (am_cons (em_v 2) am_nil)))) (bm_one (sm_ret (em_mk hT_Outcome (hr.less (by decide)) cAt_takes (am_cons (em_atG (atG_prp hPb_Table_rows (hr.less (by decide)) cAt_takes atG_none) (em_v 1)) (am_cons (em_v 4) (am_cons (em_meth0 hMe_held_by_rows (hr.less (by decide)) cAt_takes (em_v 3)) am_nil))))))))))
theorem k_Rule___call__ {P : Program} {w : World} {mg : Str → Option Value} {base : Heap} {T : Tab} (B : Bt P w mg T) (h_check_table : Kn P w mg base T "check_table" 1 F_check_table) (h_check_order : Kn P w mg base T "check_order" 5 F_check_order) (hT_Run : KnT P w mg base T "Run" 2 F_Run___init__) (hPb_Table_rows : PrK T "Table" "rows" P w mg base 1 F_Table_rows_b) (hMe_visit_all : KnMs P w mg base T "visit_all" 3 tbl_visit_all) (hT_Outcome : KnT P w mg base T "Outcome" 1 F_Outcome___init__) (hMe_held_by_rows : KnMs P w mg base T "held_by_rows" 1 tbl_held_by_rows) {f : Addr} {fd : FuncData} (F : Fun T.K "__call__" "Rule.__call__" s_Rule___call__ f fd) : FnP P w mg base T 6 f F_Rule___call__ :=
  FnP.of (dms := []) (fnG_of F sc_Rule___call__ fun cdv A outer s H E g hr => d_Rule___call__ B h_check_table h_check_order hT_Run hPb_Table_rows hMe_visit_all hT_Outcome hMe_held_by_rows hr) (F.binds (fun _ _ _ _ _ _ us hl => match us, hl with | [_, _, _], _ => rfl)) .nil (fun _ _ => .nil)
theorem sc_Outcome_ends : FnScope ["self"] ["self"] (defScope s_Outcome_ends) := ⟨rfl, rfl, rfl, by decide +kernel, rfl, by decide +kernel, by decide +kernel⟩
def m_Outcome_ends : MStm := (sRet (m2 (oIxD oIx) (mFld ["Outcome"] [] "_triple" (mv 0)) (mc (.int 2))))
def F_Outcome_ends : Fn := posF 1 [] (bodyF 1 1 m_Outcome_ends)
theorem d_Outcome_ends {P : Program} {w : World} {mg : Str → Option Value} {base : Heap} {T : Tab} (B : Bt P w mg T)  {f : Addr} {cdv : Value} {A : Around} {outer : List Env} {s : Shared} {H : Hp} {E : XK} {g : Gh}  (hr : RoomG 0 (A.deeper (envOfC "Outcome.ends" (defScope s_Outcome_ends) s.heap.objs.size f cdv))) :
    PMb (cAt P w mg base T ["self"] "Outcome.ends" (defScope s_Outcome_ends) f cdv A outer s H E g) (defBody s_Outcome_ends) m_Outcome_ends :=
  have nd := sc_Outcome_ends.nd
  have hu := hr.toRoom.units
  have hu2 := room65 hr
  have hgd := hr.gs
  (bm_one (sm_ret (em_ixG (ixG_dict (room1 hu) ixG_seq) (em_kf B.f__triple (em_v 0)) em_int ⟨fun _ _ => rfl, fun _ _ => rfl⟩)))
theorem k_Outcome_ends {P : Program} {w : World} {mg : Str → Option Value} {base : Heap} {T : Tab} (B : Bt P w mg T)  {f : Addr} {fd : FuncData} (F : Fun T.K "ends" "Outcome.ends" s_Outcome_ends f fd) : FnP P w mg base T 1 f F_Outcome_ends :=
  FnP.of (dms := []) (fnG_of F sc_Outcome_ends fun cdv A outer s H E g hr => d_Outcome_ends B  hr) (F.binds (fun _ _ _ _ _ _ us hl => match us, hl with | [_], _ => rfl)) .nil (fun _ _ => .nil)
theorem sc_Outcome___len__ : FnScope ["self"] ["self"] (defScope s_Outcome___len__) := ⟨rfl, rfl, rfl, by decide +kernel, rfl, by decide +kernel, by decide +kernel⟩
def m_Outcome___len__ : MStm := (sRet (mCall (mCons (mAt (mv 0) (oPrp "Outcome" F_Outcome_ends (fun _ _ => .stuck))) mNil) (cLenD (cLenP cLen))))
def F_Outcome___len__ : Fn := posF 1 [] (bodyF 1 1 m_Outcome___len__)
theorem d_Outcome___len__ {P : Program} {w : World} {mg : Str → Option Value} {base : Heap} {T : Tab} (B : Bt P w mg T) (hP_Outcome_ends : PrK T "Outcome" "ends" P w mg base 1 F_Outcome_ends) {f : Addr} {cdv : Value} {A : Around} {outer : List Env} {s : Shared} {H : Hp} {E : XK} {g : Gh}  (hr : RoomG 2 (A.deeper (envOfC "Outcome.__len__" (defScope s_Outcome___len__) s.heap.objs.size f cdv))) :
    PMb (cAt P w mg base T ["self"] "Outcome.__len__" (defScope s_Outcome___len__) f cdv A outer s H E g) (defBody s_Outcome___len__) m_Outcome___len__ :=
  have nd := sc_Outcome___len__.nd
  have hu := hr.toRoom.units
  have hu2 := room65 hr
  have hgd := hr.gs
  (bm_one (sm_ret (em_callG (callG_lenD (CallG.of call_len (ok_lenP ok_len))) B.b_len (am_cons (em_atG (atG_prp hP_Outcome_ends (hr.less (by decide)) cAt_takes atG_none) (em_v 0)) am_nil))))
theorem k_Outcome___len__ {P : Program} {w : World} {mg : Str → Option Value} {base : Heap} {T : Tab} (B : Bt P w mg T) (hP_Outcome_ends : PrK T "Outcome" "ends" P w mg base 1 F_Outcome_ends) {f : Addr} {fd : FuncData} (F : Fun T.K "__len__" "Outcome.__len__" s_Outcome___len__ f fd) : FnP P w mg base T 3 f F_Outcome___len__ :=
  FnP.of (dms := []) (fnG_of F sc_Outcome___len__ fun cdv A outer s H E g hr => d_Outcome___len__ B hP_Outcome_ends hr) (F.binds (fun _ _ _ _ _ _ us hl => match us, hl with | [_], _ => rfl)) .nil (fun _ _ => .nil)
theorem sc_Outcome_held : FnScope ["self", "end"] ["self"] (defScope s_Outcome_held) := ⟨rfl, rfl, rfl, by decide +kernel, rfl, by decide +kernel, by decide +kernel⟩
def m_Outcome_held : MStm := (sRet (mCall (mCons (mCall (mCons (mLc [1] (iSeqP (mAt (mv 0) (oPrp "Outcome" F_Outcome_ends (fun _ _ => .stuck)))) (gSet 1) mYes (m2 (oIxD oIx) (mv 1) (mc (.int 1)))) mNil) cSortD) mNil) cTup))
def F_Outcome_held : Fn := posF 1 [] (bodyF 1 2 m_Outcome_held)
theorem d_Outcome_held {P : Program} {w : World} {mg : Str → Option Value} {base : Heap} {T : Tab} (B : Bt P w mg T) (hP_Outcome_ends : PrK T "Outcome" "ends" P w mg base 1 F_Outcome_ends) {f : Addr} {cdv : Value} {A : Around} {outer : List Env} {s : Shared} {H : Hp} {E : XK} {g : Gh}  (hr : RoomG 2 (A.deeper (envOfC "Outcome.held" (defScope s_Outcome_held) s.heap.objs.size f cdv))) :
    PMb (cAt P w mg base T ["self", "end"] "Outcome.held" (defScope s_Outcome_held) f cdv A outer s H E g) (defBody s_Outcome_held) m_Outcome_held :=
  have nd := sc_Outcome_held.nd
  have hu := hr.toRoom.units
  have hu2 := room65 hr
  have hgd := hr.gs
  (bm_one (sm_ret (em_callT call_tuple_of ok_tuple B.b_tuple (am_cons (em_callB (CallR.alt (cr_sortD hu) (call_sortedDI rfl)) ok_sortD B.b_sorted (am_cons (em_lc (own := [("end", 1)]) rfl nd (im_seqP (em_atG (atG_prp hP_Outcome_ends (hr.less (by decide)) cAt_takes atG_none) (em_v 0))) (blkOk_by rfl) (fun _ _ _ _ _ _ => (gc_name 1 nd rfl (Or.inl rfl) (by decide))) (fun _ _ _ _ _ _ => tsm_nil) (fun _ _ _ _ _ _ => (em_ixG (ixG_dict (room1 hu) ixG_seq) (em_v 1) em_int ⟨fun _ _ => rfl, fun _ _ => rfl⟩))) am_nil)) am_nil))))
theorem k_Outcome_held {P : Program} {w : World} {mg : Str → Option Value} {base : Heap} {T : Tab} (B : Bt P w mg T) (hP_Outcome_ends : PrK T "Outcome" "ends" P w mg base 1 F_Outcome_ends) {f : Addr} {fd : FuncData} (F : Fun T.K "held" "Outcome.held" s_Outcome_held f fd) : FnP P w mg base T 3 f F_Outcome_held :=
  FnP.of (dms := []) (fnG_of F sc_Outcome_held fun cdv A outer s H E g hr => d_Outcome_held B hP_Outcome_ends hr) (F.binds (fun _ _ _ _ _ _ us hl => match us, hl with | [_], _ => rfl)) .nil (fun _ _ => .nil)
theorem sc_Outcome_left : FnScope ["self", "end"] ["self"] (defScope s_Outcome_left) := ⟨rfl, rfl, rfl, by decide +kernel, rfl, by decide +kernel, by decide +kernel⟩
def m_Outcome_left : MStm := (sRet (mCall (mCons (mLc [1] (iSeqP (mAt (mv 0) (oPrp "Outcome" F_Outcome_ends (fun _ _ => .stuck)))) (gSet 1) mYes (m2 (oIxD oIx) (mv 1) (mc (.int 0)))) mNil) cTup))
def F_Outcome_left : Fn := posF 1 [] (bodyF 1 2 m_Outcome_left)
theorem d_Outcome_left {P : Program} {w : World} {mg : Str → Option Value} {base : Heap} {T : Tab} (B : Bt P w mg T) (hP_Outcome_ends : PrK T "Outcome" "ends" P w mg base 1 F_Outcome_ends) {f : Addr} {cdv : Value} {A : Around} {outer : List Env} {s : Shared} {H : Hp} {E : XK} {g : Gh}  (hr : RoomG 2 (A.deeper (envOfC "Outcome.left" (defScope s_Outcome_left) s.heap.objs.size f cdv))) :
    PMb (cAt P w mg base T ["self", "end"] "Outcome.left" (defScope s_Outcome_left) f cdv A outer s H E g) (defBody s_Outcome_left) m_Outcome_left :=
  have nd := sc_Outcome_left.nd
  have hu := hr.toRoom.units
  have hu2 := room65 hr
  have hgd := hr.gs
  (bm_one (sm_ret (em_callT call_tuple_of ok_tuple B.b_tuple (am_cons (em_lc (own := [("end", 1)]) rfl nd (im_seqP (em_atG (atG_prp hP_Outcome_ends (hr.less (by decide)) cAt_takes atG_none) (em_v 0))) (blkOk_by rfl) (fun _ _ _ _ _ _ => (gc_name 1 nd rfl (Or.inl rfl) (by decide))) (fun _ _ _ _ _ _ => tsm_nil) (fun _ _ _ _ _ _ => (em_ixG (ixG_dict (room1 hu) ixG_seq) (em_v 1) em_int ⟨fun _ _ => rfl, fun _ _ => rfl⟩))) am_nil))))
theorem k_Outcome_left {P : Program} {w : World} {mg : Str → Option Value} {base : Heap} {T : Tab} (B : Bt P w mg T) (hP_Outcome_ends : PrK T "Outcome" "ends" P w mg base 1 F_Outcome_ends) {f : Addr} {fd : FuncData} (F : Fun T.K "left" "Outcome.left" s_Outcome_left f fd) : FnP P w mg base T 3 f F_Outcome_left :=
  FnP.of (dms := []) (fnG_of F sc_Outcome_left fun cdv A outer s H E g hr => d_Outcome_left B hP_Outcome_ends hr) (F.binds (fun _ _ _ _ _ _ us hl => match us, hl with | [_], _ => rfl)) .nil (fun _ _ => .nil)
theorem sc_Outcome_rows : FnScope ["self"] ["self"] (defScope s_Outcome_rows) := ⟨rfl, rfl, rfl, by decide +kernel, rfl, by decide +kernel, by decide +kernel⟩
def m_Outcome_rows : MStm := (sRet (m2 (oIxD oIx) (mFld ["Outcome"] [] "_triple" (mv 0)) (mc (.int 0))))
def F_Outcome_rows : Fn := posF 1 [] (bodyF 1 1 m_Outcome_rows)
theorem d_Outcome_rows {P : Program} {w : World} {mg : Str → Option Value} {base : Heap} {T : Tab} (B : Bt P w mg T)  {f : Addr} {cdv : Value} {A : Around} {outer : List Env} {s : Shared} {H : Hp} {E : XK} {g : Gh}  (hr : RoomG 0 (A.deeper (envOfC "Outcome.rows" (defScope s_Outcome_rows) s.heap.objs.size f cdv))) :
    PMb (cAt P w mg base T ["self"] "Outcome.rows" (defScope s_Outcome_rows) f cdv A outer s H E g) (defBody s_Outcome_rows) m_Outcome_rows :=
  have nd := sc_Outcome_rows.nd
  have hu := hr.toRoom.units
  have hu2 := room65 hr
  have hgd := hr.gs
  (bm_one (sm_ret (em_ixG (ixG_dict (room1 hu) ixG_seq) (em_kf B.f__triple (em_v 0)) em_int ⟨fun _ _ => rfl, fun _ _ => rfl⟩)))
theorem k_Outcome_rows {P : Program} {w : World} {mg : Str → Option Value} {base : Heap} {T : Tab} (B : Bt P w mg T)  {f : Addr} {fd : FuncData} (F : Fun T.K "rows" "Outcome.rows" s_Outcome_rows f fd) : FnP P w mg base T 1 f F_Outcome_rows :=
  FnP.of (dms := []) (fnG_of F sc_Outcome_rows fun cdv A outer s H E g hr => d_Outcome_rows B  hr) (F.binds (fun _ _ _ _ _ _ us hl => match us, hl with | [_], _ => rfl)) .nil (fun _ _ => .nil)
theorem sc_Outcome_moved : FnScope ["self", "new_keys", "row", "key"] ["self"] (defScope s_Outcome_moved) := ⟨rfl, rfl, rfl, by decide +kernel, rfl, by decide +kernel, by decide +kernel⟩
def m_Outcome_moved : MStm := (sSeq (sSet 1 (mCall (mCons (mAt (mv 0) (oPrp "Outcome" F_Outcome_rows (fun _ _ => .stuck))) mNil) (cDictT cDict))) (sRet (mCall (mCons (mLc [2, 3] (iSeqP (mAt (mv 0) (oPrp "Outcome" F_Outcome_ends (fun _ _ => .stuck)))) (gTupN [2, 3]) (mAnd (mB (m2 (oEqK false (oEqD false)) (mv 3) (m2 (oIxD oIx) (mv 1) (mv 2)))) (mB (m2 (oEqK true (oEqD true)) (mv 3) (mv 2)))) (mv 2)) mNil) cTup)))
def F_Outcome_moved : Fn := posF 1 [] (bodyF 1 4 m_Outcome_moved)
theorem d_Outcome_moved {P : Program} {w : World} {mg : Str → Option Value} {base : Heap} {T : Tab} (B : Bt P w mg T) (hP_Outcome_rows : PrK T "Outcome" "rows" P w mg base 1 F_Outcome_rows) (hP_Outcome_ends : PrK T "Outcome" "ends" P w mg base 1 F_Outcome_ends) {f : Addr} {cdv : Value} {A : Around} {outer : List Env} {s : Shared} {H : Hp} {E : XK} {g : Gh}  (hr : RoomG 2 (A.deeper (envOfC "Outcome.moved" (defScope s_Outcome_moved) s.heap.objs.size f cdv))) :
    PMb (cAt P w mg base T ["self", "new_keys", "row", "key"] "Outcome.moved" (defScope s_Outcome_moved) f cdv A outer s H E g) (defBody s_Outcome_moved) m_Outcome_moved :=
  have nd := sc_Outcome_moved.nd
  have hu := hr.toRoom.units
  have hu2 := room65 hr
  have hgd := hr.gs
  (bm_cons (sm_set 1 nd rfl (Or.inr rfl) (em_callT (CallR.alt (cr_dictTP rfl) (call_dictP rfl)) (ok_dictT ok_dict) B.b_dict (am_cons (em_atG (atG_prp hP_Outcome_rows (hr.less (by decide)) cAt_takes atG_none) (em_v 0)) am_nil))) (bm_one (sm_ret (em_callT call_tuple_of ok_tuple B.b_tuple (am_cons (em_lc (own := [("row", 2), ("key", 3)]) rfl nd (im_seqP (em_atG (atG_prp hP_Outcome_ends (hr.less (by decide)) cAt_takes atG_none) (em_v 0))) (blkOk_by rfl) (fun _ _ _ _ _ _ => (gc_tup (is := [2, 3]) rfl (pgs_cons (pg_name (i := 2) nd rfl (Or.inl rfl)) (pgs_cons (pg_name (i := 3) nd rfl (Or.inl rfl)) pgs_nil)) (by decide))) (fun _ _ _ _ _ _ => (tsm_one (tm_w (wm_and (tm_cmp (op_eqK (room0 hu) (ok_eqD hu)) (em_v 3) (em_ixG (ixG_dict (room1 hu) ixG_seq) (em_v 1) (em_v 2) ⟨fun _ _ => rfl, fun _ _ => rfl⟩) (nomark _)) (wm_and1 (tm_cmp (op_neK (room0 hu) (ok_neD hu)) (em_v 3) (em_v 2) (nomark _))))))) (fun _ _ _ _ _ _ => (em_v 2))) am_nil)))))
theorem k_Outcome_moved {P : Program} {w : World} {mg : Str → Option Value} {base : Heap} {T : Tab} (B : Bt P w mg T) (hP_Outcome_rows : PrK T "Outcome" "rows" P w mg base 1 F_Outcome_rows) (hP_Outcome_ends : PrK T "Outcome" "ends" P w mg base 1 F_Outcome_ends) {f : Addr} {fd : FuncData} (F : Fun T.K "moved" "Outcome.moved" s_Outcome_moved f fd) : FnP P w mg base T 3 f F_Outcome_moved :=
  FnP.of (dms := []) (fnG_of F sc_Outcome_moved fun cdv A outer s H E g hr => d_Outcome_moved B hP_Outcome_rows hP_Outcome_ends hr) (F.binds (fun _ _ _ _ _ _ us hl => match us, hl with | [_], _ => rfl)) .nil (fun _ _ => .nil)
theorem sc_Outcome_stop : FnScope ["self"] ["self"] (defScope s_Outcome_stop) := ⟨rfl, rfl, rfl, by decide +kernel, rfl, by decide +kernel, by decide +kernel⟩
def m_Outcome_stop : MStm := (sRet (m2 (oIxD oIx) (mFld ["Outcome"] [] "_triple" (mv 0)) (mc (.int 1))))
def F_Outcome_stop : Fn := posF 1 [] (bodyF 1 1 m_Outcome_stop)
theorem d_Outcome_stop {P : Program} {w : World} {mg : Str → Option Value} {base : Heap} {T : Tab} (B : Bt P w mg T)  {f : Addr} {cdv : Value} {A : Around} {outer : List Env} {s : Shared} {H : Hp} {E : XK} {g : Gh}  (hr : RoomG 0 (A.deeper (envOfC "Outcome.stop" (defScope s_Outcome_stop) s.heap.objs.size f cdv))) :
    PMb (cAt P w mg base T ["self"] "Outcome.stop" (defScope s_Outcome_stop) f cdv A outer s H E g) (defBody s_Outcome_stop) m_Outcome_stop :=
  have nd := sc_Outcome_stop.nd
  have hu := hr.toRoom.units
  have hu2 := room65 hr
  have hgd := hr.gs
  (bm_one (sm_ret (em_ixG (ixG_dict (room1 hu) ixG_seq) (em_kf B.f__triple (em_v 0)) em_int ⟨fun _ _ => rfl, fun _ _ => rfl⟩)))
theorem k_Outcome_stop {P : Program} {w : World} {mg : Str → Option Value} {base : Heap} {T : Tab} (B : Bt P w mg T)  {f : Addr} {fd : FuncData} (F : Fun T.K "stop" "Outcome.stop" s_Outcome_stop f fd) : FnP P w mg base T 1 f F_Outcome_stop :=
  FnP.of (dms := []) (fnG_of F sc_Outcome_stop fun cdv A outer s H E g hr => d_Outcome_stop B  hr) (F.binds (fun _ _ _ _ _ _ us hl => match us, hl with | [_], _ => rfl)) .nil (fun _ _ => .nil)
theorem sc__law_same : FnScope ["_law_found", "_law_due"] ["_law_found", "_law_due"] (defScope s__law_same) := ⟨rfl, rfl, rfl, by decide +kernel, rfl, by decide +kernel, by decide +kernel⟩
def m__law_same : MStm := (sRet (m2 (oEqK false (oEqD false)) (mCall (mCons (mv 0) mNil) (cReprX (cReprS cRepr))) (mCall (mCons (mv 1) mNil) (cReprX (cReprS cRepr)))))
def F__law_same : Fn := posF 2 [] (bodyF 2 2 m__law_same)
theorem d__law_same {P : Program} {w : World} {mg : Str → Option Value} {base : Heap} {T : Tab} (B : Bt P w mg T)  {f : Addr} {cdv : Value} {A : Around} {outer : List Env} {s : Shared} {H : Hp} {E : XK} {g : Gh}  (hr : RoomG 0 (A.deeper (envOfC "_law_same" (defScope s__law_same) s.heap.objs.size f cdv))) :
    PMb (cAt P w mg base T ["_law_found", "_law_due"] "_law_same" (defScope s__law_same) f cdv A outer s H E g) (defBody s__law_same) m__law_same :=
  have nd := sc__law_same.nd
  have hu := hr.toRoom.units
  have hu2 := room65 hr
  have hgd := hr.gs
  (bm_one (sm_ret (em_cmp (op_eqK (room0 hu) (ok_eqD hu)) (em_callB (CallR.alt (call_reprD hgd hu2) (call_reprB hgd hu2)) (ok_reprX (ok_reprS ok_repr)) B.b_repr (am_cons (em_v 0) am_nil)) (em_callB (CallR.alt (call_reprD hgd hu2) (call_reprB hgd hu2)) (ok_reprX (ok_reprS ok_repr)) B.b_repr (am_cons (em_v 1) am_nil)) (nomark _))))
theorem k__law_same {P : Program} {w : World} {mg : Str → Option Value} {base : Heap} {T : Tab} (B : Bt P w mg T)  {f : Addr} {fd : FuncData} (F : Fun T.K "_law_same" "_law_same" s__law_same f fd) (hm : mg "_law_same" = some (.ref f)) : Kn P w mg base T "_law_same" 1 F__law_same :=
  ⟨f, FnP.of (dms := []) (fnG_of F sc__law_same fun cdv A outer s H E g hr => d__law_same B  hr) (F.binds (fun _ _ _ _ _ _ us hl => match us, hl with | [_, _], _ => rfl)) .nil (fun _ _ => .nil), hm, F.kp⟩
theorem sc_Outcome___getitem__ : FnScope ["self", "key"] ["self", "key"] (defScope s_Outcome___getitem__) := ⟨rfl, rfl, rfl, by decide +kernel, rfl, by decide +kernel, by decide +kernel⟩
def m_Outcome___getitem__ : MStm := (sSeq (sIf (mOr (mNot (mB (mFn (mCons (mv 1) mNil) F_is_integer))) (mB (m2 (oInD true (oInL true)) (mv 1) (mCall (mCons (mAt (mv 0) (oPrp "Outcome" F_Outcome_rows (fun _ _ => .stuck))) mNil) (cDictT cDict))))) (sRai "Missing" (mCons (mc (.str "this is not the key of a row")) mNil)) sNx) (sRet (mGet1 (mCall (mCons (mAt (mv 0) (oPrp "Outcome" F_Outcome_ends (fun _ _ => .stuck))) mNil) (cDictT cDict)) (mv 1))))
def F_Outcome___getitem__ : Fn := posF 2 [] (bodyF 2 2 m_Outcome___getitem__)
theorem d_Outcome___getitem__ {P : Program} {w : World} {mg : Str → Option Value} {base : Heap} {T : Tab} (B : Bt P w mg T) (h_is_integer : Kn P w mg base T "is_integer" 1 F_is_integer) (hP_Outcome_rows : PrK T "Outcome" "rows" P w mg base 1 F_Outcome_rows) (hP_Outcome_ends : PrK T "Outcome" "ends" P w mg base 1 F_Outcome_ends) {f : Addr} {cdv : Value} {A : Around} {outer : List Env} {s : Shared} {H : Hp} {E : XK} {g : Gh}  (hr : RoomG 2 (A.deeper (envOfC "Outcome.__getitem__" (defScope s_Outcome___getitem__) s.heap.objs.size f cdv))) :
    PMb (cAt P w mg base T ["self", "key"] "Outcome.__getitem__" (defScope s_Outcome___getitem__) f cdv A outer s H E g) (defBody s_Outcome___getitem__) m_Outcome___getitem__ :=
  have nd := sc_Outcome___getitem__.nd
  have hu := hr.toRoom.units
  have hu2 := room65 hr
  have hgd := hr.gs
  (bm_cons (sm_if (tm_w (wm_or (tm_not (tm_val (em_kn h_is_integer (hr.less (by decide)) cAt_takes (am_cons (em_v 1) am_nil)))) (wm_or1 (tm_cmp (op_notInD (room1 hu) (ok_notInL hu2)) (em_v 1) (em_callT (CallR.alt (cr_dictTP rfl) (call_dictP rfl)) (ok_dictT ok_dict) B.b_dict (am_cons (em_atG (atG_prp hP_Outcome_rows (hr.less (by decide)) cAt_takes atG_none) (em_v 0)) am_nil)) (by with_unfolding_all rfl))))) (bm_one (sm_raiK B.ke_Missing B.ra_Missing rfl cAt_takes (am_cons em_str am_nil))) bm_nil) (bm_one (sm_ret (em_get1 (room1 hu) (em_callT (CallR.alt (cr_dictTP rfl) (call_dictP rfl)) (ok_dictT ok_dict) B.b_dict (am_cons (em_atG (atG_prp hP_Outcome_ends (hr.less (by decide)) cAt_takes atG_none) (em_v 0)) am_nil)) (em_v 1)))))
theorem k_Outcome___getitem__ {P : Program} {w : World} {mg : Str → Option Value} {base : Heap} {T : Tab} (B : Bt P w mg T) (h_is_integer : Kn P w mg base T "is_integer" 1 F_is_integer) (hP_Outcome_rows : PrK T "Outcome" "rows" P w mg base 1 F_Outcome_rows) (hP_Outcome_ends : PrK T "Outcome" "ends" P w mg base 1 F_Outcome_ends) {f : Addr} {fd : FuncData} (F : Fun T.K "__getitem__" "Outcome.__getitem__" s_Outcome___getitem__ f fd) : FnP P w mg base T 3 f F_Outcome___getitem__ :=
  FnP.of (dms := []) (fnG_of F sc_Outcome___getitem__ fun cdv A outer s H E g hr => d_Outcome___getitem__ B h_is_integer hP_Outcome_rows hP_Outcome_ends hr) (F.binds (fun _ _ _ _ _ _ us hl => match us, hl with | [_, _], _ => rfl)) .nil (fun _ _ => .nil)
theorem sc__law_outcome_right : FnScope ["_law_outcome", "_law_pairs_here", "_law_due", "_law_moved", "_law_told", "_law_found", "_law_stop", "_law_ends_here", "_law_rows", "_law_places", "_law_left", "_law_held", "_law_key", "_law_new", "_law_row"] ["_law_outcome", "_law_pairs_here", "_law_due"] (defScope s__law_outcome_right) := ⟨rfl, rfl, rfl, by decide +kernel, rfl, by decide +kernel, by decide +kernel⟩
def m__law_outcome_right : MStm := (sSeq (sAsg (mv 2) (gUnpN [6, 7])) (sSeq (sAsg (mTup (mCons (mCall (mCons (mCall (mCons (mv 1) mNil) cSort) mNil) cTupP) (mCons (mCall (mCons (mv 7) mNil) (cDictT cDict)) mNil))) (gUnpN [8, 9])) (sSeq (sSet 3 (mCall (mCons (mLc [14, 12] (iSeqP (mv 7)) (gTupN [14, 12]) (mB (m2 (oEqK true (oEqD true)) (mv 14) (mv 12))) (mv 14)) mNil) cTupP)) (sSeq (sPar2 10 11 (mCons (mCall (mCons (mLc [14, 12] (iSeqP (mv 7)) (gTupN [14, 12]) mYes (mv 14)) mNil) cTupP) (mCons (mCall (mCons (mCall (mCons (mLc [14, 12] (iSeqP (mv 7)) (gTupN [14, 12]) mYes (mv 12)) mNil) cSortD) mNil) cTupP) mNil))) (sSeq (sSet 4 (mLst (mCons (mAt (mv 0) (oPrp "Outcome" F_Outcome_rows (fun _ _ => .stuck))) (mCons (mAt (mv 0) (oPrp "Outcome" F_Outcome_stop (fun _ _ => .stuck))) (mCons (mAt (mv 0) (oPrp "Outcome" F_Outcome_ends (fun _ _ => .stuck))) (mCons (mAt (mv 0) (oPrp "Outcome" F_Outcome_moved (fun _ _ => .stuck))) (mCons (mAt (mv 0) (oPrp "Outcome" F_Outcome_left (fun _ _ => .stuck))) (mCons (mAt (mv 0) (oPrp "Outcome" F_Outcome_held (fun _ _ => .stuck))) (mCons (mCall (mCons (mv 0) mNil) (cDun "Outcome" F_Outcome___len__ pNat (cLenD (cLenP cLen)))) mNil))))))))) (sSeq (sIf (mNot (mB (mFn (mCons (mv 4) (mCons (mLst (mCons (mv 8) (mCons (mv 6) (mCons (mv 7) (mCons (mv 3) (mCons (mv 10) (mCons (mv 11) (mCons (mCall (mCons (mv 7) mNil) (cDun "Outcome" F_Outcome___len__ pNat (cLenD (cLenP cLen)))) mNil)))))))) mNil)) F__law_same))) (sRet (mc (.bl false))) sNx) (sSeq (sSet 5 (mLc [12, 13] (iSeqP (mv 8)) (gTupN [12, 13]) mYes (m2 (oDun "Outcome" F_Outcome___getitem__ (oIxD oIx)) (mv 0) (mv 12)))) (sRet (mFn (mCons (mv 5) (mCons (mLc [12, 13] (iSeqP (mv 8)) (gTupN [12, 13]) mYes (mIf (mB (m2 (oInD false (oInL false)) (mv 12) (mv 9))) (m2 (oDun "Outcome" F_Outcome___getitem__ (oIxD oIx)) (mv 9) (mv 12)) (mc .non))) mNil)) F__law_same)))))))))
def F__law_outcome_right : Fn := posF 3 [] (bodyF 3 15 m__law_outcome_right)
theorem d__law_outcome_right {P : Program} {w : World} {mg : Str → Option Value} {base : Heap} {T : Tab} (B : Bt P w mg T) (hM_Outcome___len__ : KnM P w mg base T "Outcome" "__len__" 3 F_Outcome___len__) (hP_Outcome_held : PrK T "Outcome" "held" P w mg base 3 F_Outcome_held) (hP_Outcome_left : PrK T "Outcome" "left" P w mg base 3 F_Outcome_left) (hP_Outcome_moved : PrK T "Outcome" "moved" P w mg base 3 F_Outcome_moved) (hP_Outcome_ends : PrK T "Outcome" "ends" P w mg base 1 F_Outcome_ends) (hP_Outcome_stop : PrK T "Outcome" "stop" P w mg base 1 F_Outcome_stop) (hP_Outcome_rows : PrK T "Outcome" "rows" P w mg base 1 F_Outcome_rows) (h__law_same : Kn P w mg base T "_law_same" 1 F__law_same) (hM_Outcome___getitem__ : KnM P w mg base T "Outcome" "__getitem__" 3 F_Outcome___getitem__) {f : Addr} {cdv : Value} {A : Around} {outer : List Env} {s : Shared} {H : Hp} {E : XK} {g : Gh}  (hr : RoomG 4 (A.deeper (envOfC "_law_outcome_right" (defScope s__law_outcome_right) s.heap.objs.size f cdv))) :
    PMb (cAt P w mg base T ["_law_outcome", "_law_pairs_here", "_law_due", "_law_moved", "_law_told", "_law_found", "_law_stop", "_law_ends_here", "_law_rows", "_law_places", "_law_left", "_law_held", "_law_key", "_law_new", "_law_row"] "_law_outcome_right" (defScope s__law_outcome_right) f cdv A outer s H E g) (defBody s__law_outcome_right) m__law_outcome_right :=
  have nd := sc__law_outcome_right.nd
  have hu := hr.toRoom.units
  have hu2 := room65 hr
  have hgd := hr.gs
  (bm_cons (sm_asg (em_v 2) (gm_unpN (is := [6, 7]) rfl (pgs_cons (pg_name (i := 6) nd rfl (Or.inl rfl)) (pgs_cons (pg_name (i := 7) nd rfl (Or.inl rfl)) pgs_nil)))) (bm_cons (sm_asg (em_tup (am_cons (em_callT cr_tupP ok_tupP B.b_tuple (am_cons (em_callB cr_sortA ok_sort B.b_sorted (am_cons (em_v 1) am_nil)) am_nil)) (am_cons (em_callT (CallR.alt (cr_dictTP rfl) (call_dictP rfl)) (ok_dictT ok_dict) B.b_dict (am_cons (em_v 7) am_nil)) am_nil))) (gm_unpN (is := [8, 9]) rfl (pgs_cons (pg_name (i := 8) nd rfl (Or.inl rfl)) (pgs_cons (pg_name (i := 9) nd rfl (Or.inr rfl)) pgs_nil)))) (bm_cons (sm_set 3 nd rfl (Or.inl rfl) (em_callT cr_tupP ok_tupP B.b_tuple (am_cons (em_lc (own := [("_law_row", 14), ("_law_key", 12)]) rfl nd (im_seqP (em_v 7)) (blkOk_by rfl) (fun _ _ _ _ _ _ => (gc_tup (is := [14, 12]) rfl (pgs_cons (pg_name (i := 14) nd rfl (Or.inl rfl)) (pgs_cons (pg_name (i := 12) nd rfl (Or.inl rfl)) pgs_nil)) (by decide))) (fun _ _ _ _ _ _ => (tsm_one (tm_cmp (op_neK (room0 hu) (ok_neD hu)) (em_v 14) (em_v 12) (nomark _)))) (fun _ _ _ _ _ _ => (em_v 14))) am_nil))) (bm_cons (sm_par2 10 11 rfl nd (am_cons (em_callT cr_tupP ok_tupP B.b_tuple (am_cons (em_lc (own := [("_law_row", 14), ("_law_key", 12)]) rfl nd (im_seqP (em_v 7)) (blkOk_by rfl) (fun _ _ _ _ _ _ => (gc_tup (is := [14, 12]) rfl (pgs_cons (pg_name (i := 14) nd rfl (Or.inl rfl)) (pgs_cons (pg_name (i := 12) nd rfl (Or.inl rfl)) pgs_nil)) (by decide))) (fun _ _ _ _ _ _ => tsm_nil) (fun _ _ _ _ _ _ => (em_v 14))) am_nil)) (am_cons (em_callT cr_tupP ok_tupP B.b_tuple (am_cons (em_callB (CallR.alt (cr_sortD hu) (call_sortedDI rfl)) ok_sortD B.b_sorted (am_cons (em_lc (own := [("_law_row", 14), ("_law_key", 12)]) rfl nd (im_seqP (em_v 7)) (blkOk_by rfl) (fun _ _ _ _ _ _ => (gc_tup (is := [14, 12]) rfl (pgs_cons (pg_name (i := 14) nd rfl (Or.inl rfl)) (pgs_cons (pg_name (i := 12) nd rfl (Or.inl rfl)) pgs_nil)) (by decide))) (fun _ _ _ _ _ _ => tsm_nil) (fun _ _ _ _ _ _ => (em_v 12))) am_nil)) am_nil)) am_nil))) (bm_cons (sm_set 4 nd rfl (Or.inl rfl) (em_lst (am_cons (em_atG (atG_prp hP_Outcome_rows (hr.less (by decide)) cAt_takes atG_none) (em_v 0)) (am_cons (em_atG (atG_prp hP_Outcome_stop (hr.less (by decide)) cAt_takes atG_none) (em_v 0)) (am_cons (em_atG (atG_prp hP_Outcome_ends (hr.less (by decide)) cAt_takes atG_none) (em_v 0)) (am_cons (em_atG (atG_prp hP_Outcome_moved (hr.less (by decide)) cAt_takes atG_none) (em_v 0)) (am_cons (em_atG (atG_prp hP_Outcome_left (hr.less (by decide)) cAt_takes atG_none) (em_v 0)) (am_cons (em_atG (atG_prp hP_Outcome_held (hr.less (by decide)) cAt_takes atG_none) (em_v 0)) (am_cons (em_callG (callG_lenI hM_Outcome___len__ (hr.less (by decide)) cAt_takes (callG_lenD (CallG.of call_len (ok_lenP ok_len)))) B.b_len (am_cons (em_v 0) am_nil)) am_nil))))))))) (bm_cons (sm_if (tm_not (tm_val (em_kn h__law_same (hr.less (by decide)) cAt_takes (am_cons (em_v 4) (am_cons (em_lst (am_cons (em_v 8) (am_cons (em_v 6) (am_cons (em_v 7) (am_cons (em_v 3) (am_cons (em_v 10) (am_cons (em_v 11) (am_cons (em_callG (callG_lenI hM_Outcome___len__ (hr.less (by decide)) cAt_takes (callG_lenD (CallG.of call_len (ok_lenP ok_len)))) B.b_len (am_cons (em_v 7) am_nil)) am_nil)))))))) am_nil))))) (bm_one (sm_ret em_bl)) bm_nil) (bm_cons (sm_setLc (own := [("_law_key", 12), ("_law_new", 13)]) 5 rfl nd (im_seqP (em_v 8)) (blkOk_by rfl) (fun _ _ _ _ _ _ => (gc_tup (is := [12, 13]) rfl (pgs_cons (pg_name (i := 12) nd rfl (Or.inl rfl)) (pgs_cons (pg_name (i := 13) nd rfl (Or.inl rfl)) pgs_nil)) (by decide))) (fun _ _ _ _ _ _ => tsm_nil) (fun _ _ _ _ _ _ => (em_ixG (ixG_dun hM_Outcome___getitem__ (hr.less (by decide)) takes0 (ixG_dict (room1 hu) ixG_seq)) (em_v 0) (em_v 12) ⟨fun _ _ => rfl, fun _ _ => rfl⟩))) (bm_one (sm_ret (em_kn h__law_same (hr.less (by decide)) cAt_takes (am_cons (em_v 5) (am_cons (em_lc (own := [("_law_key", 12), ("_law_new", 13)]) rfl nd (im_seqP (em_v 8)) (blkOk_by rfl) (fun _ _ _ _ _ _ => (gc_tup (is := [12, 13]) rfl (pgs_cons (pg_name (i := 12) nd rfl (Or.inl rfl)) (pgs_cons (pg_name (i := 13) nd rfl (Or.inl rfl)) pgs_nil)) (by decide))) (fun _ _ _ _ _ _ => tsm_nil) (fun _ _ _ _ _ _ => (em_if (tm_cmp (op_inD (room1 hu) (ok_inL hu2)) (em_v 12) (em_v 9) (by with_unfolding_all rfl)) (em_ixG (ixG_dun hM_Outcome___getitem__ (hr.less (by decide)) takes0 (ixG_dict (room1 hu) ixG_seq)) (em_v 9) (em_v 12) ⟨fun _ _ => rfl, fun _ _ => rfl⟩) em_non))) am_nil))))))))))))
theorem k__law_outcome_right {P : Program} {w : World} {mg : Str → Option Value} {base : Heap} {T : Tab} (B : Bt P w mg T) (hM_Outcome___len__ : KnM P w mg base T "Outcome" "__len__" 3 F_Outcome___len__) (hP_Outcome_held : PrK T "Outcome" "held" P w mg base 3 F_Outcome_held) (hP_Outcome_left : PrK T "Outcome" "left" P w mg base 3 F_Outcome_left) (hP_Outcome_moved : PrK T "Outcome" "moved" P w mg base 3 F_Outcome_moved) (hP_Outcome_ends : PrK T "Outcome" "ends" P w mg base 1 F_Outcome_ends) (hP_Outcome_stop : PrK T "Outcome" "stop" P w mg base 1 F_Outcome_stop) (hP_Outcome_rows : PrK T "Outcome" "rows" P w mg base 1 F_Outcome_rows) (h__law_same : Kn P w mg base T "_law_same" 1 F__law_same) (hM_Outcome___getitem__ : KnM P w mg base T "Outcome" "__getitem__" 3 F_Outcome___getitem__) {f : Addr} {fd : FuncData} (F : Fun T.K "_law_outcome_right" "_law_outcome_right" s__law_outcome_right f fd) (hm : mg "_law_outcome_right" = some (.ref f)) : Kn P w mg base T "_law_outcome_right" 5 F__law_outcome_right :=
  ⟨f, FnP.of (dms := []) (fnG_of F sc__law_outcome_right fun cdv A outer s H E g hr => d__law_outcome_right B hM_Outcome___len__ hP_Outcome_held hP_Outcome_left hP_Outcome_moved hP_Outcome_ends hP_Outcome_stop hP_Outcome_rows h__law_same hM_Outcome___getitem__ hr) (F.binds (fun _ _ _ _ _ _ us hl => match us, hl with | [_, _, _], _ => rfl)) .nil (fun _ _ => .nil), hm, F.kp⟩
theorem sc_Table___setitem__ : FnScope ["self", "key", "new"] ["self", "key", "new"] (defScope s_Table___setitem__) := ⟨rfl, rfl, rfl, by decide +kernel, rfl, by decide +kernel, by decide +kernel⟩
def m_Table___setitem__ : MStm := (sSeq (sIf (mB (m2 (oDunR "Table" F_Table___contains__ pNot (oInD true (oInL true))) (mv 1) (mv 0))) (sRai "Missing" (mCons (mc (.str "this is not the key of a row")) mNil)) sNx) (sSeq (sIf (mNot (mB (mFn (mCons (mv 2) mNil) F_is_key))) (sRai "NotKey" (mCons (mc (.str "a new key is an integer with at most 30 digits")) mNil)) sNx) (sAsg (mv 2) (gSub (mFld ["Table"] [] "_new_keys" (mv 0)) (mv 1) (fSetD fSetL)))))
def F_Table___setitem__ : Fn := posF 3 [] (bodyF 3 3 m_Table___setitem__)
theorem d_Table___setitem__ {P : Program} {w : World} {mg : Str → Option Value} {base : Heap} {T : Tab} (B : Bt P w mg T) (hM_Table___contains__ : KnM P w mg base T "Table" "__contains__" 2 F_Table___contains__) (h_is_key : Kn P w mg base T "is_key" 2 F_is_key) {f : Addr} {cdv : Value} {A : Around} {outer : List Env} {s : Shared} {H : Hp} {E : XK} {g : Gh}  (hr : RoomG 2 (A.deeper (envOfC "Table.__setitem__" (defScope s_Table___setitem__) s.heap.objs.size f cdv))) :
    PMb (cAt P w mg base T ["self", "key", "new"] "Table.__setitem__" (defScope s_Table___setitem__) f cdv A outer s H E g) (defBody s_Table___setitem__) m_Table___setitem__ :=
  have nd := sc_Table___setitem__.nd
  have hu := hr.toRoom.units
  have hu2 := room65 hr
  have hgd := hr.gs
  (bm_cons (sm_if (tm_cmp (op_dunNotIn hM_Table___contains__ (hr.less (by decide)) cAt_takes (op_notInD (room1 hu) (ok_notInL hu2))) (em_v 1) (em_v 0) (by with_unfolding_all rfl)) (bm_one (sm_raiK B.ke_Missing B.ra_Missing rfl cAt_takes (am_cons em_str am_nil))) bm_nil) (bm_cons (sm_if (tm_not (tm_val (em_kn h_is_key (hr.less (by decide)) cAt_takes (am_cons (em_v 2) am_nil)))) (bm_one (sm_raiK B.ke_NotKey B.ra_NotKey rfl cAt_takes (am_cons em_str am_nil))) bm_nil) (bm_one (sm_asg (em_v 2) (gm_subG (setG_dict (room1 hu) (setG_list set_list)) (em_kf B.f__new_keys (em_v 0)) (em_v 1))))))
theorem k_Table___setitem__ {P : Program} {w : World} {mg : Str → Option Value} {base : Heap} {T : Tab} (B : Bt P w mg T) (hM_Table___contains__ : KnM P w mg base T "Table" "__contains__" 2 F_Table___contains__) (h_is_key : Kn P w mg base T "is_key" 2 F_is_key) {f : Addr} {fd : FuncData} (F : Fun T.K "__setitem__" "Table.__setitem__" s_Table___setitem__ f fd) : FnP P w mg base T 3 f F_Table___setitem__ :=
  FnP.of (dms := []) (fnG_of F sc_Table___setitem__ fun cdv A outer s H E g hr => d_Table___setitem__ B hM_Table___contains__ h_is_key hr) (F.binds (fun _ _ _ _ _ _ us hl => match us, hl with | [_, _, _], _ => rfl)) .nil (fun _ _ => .nil)
abbrev tbl___call__ : List (Str × Fn) := [("Abort", F_Rule___call__), ("Fail", F_Rule___call__), ("Ignore", F_Rule___call__), ("Replace", F_Rule___call__)]
theorem sc_law : FnScope ["_law_script", "_law_cell", "_law_pen_here", "_law_pairs_here", "_law_word", "_law_key", "_law_table", "_law_keys", "_law_kept", "_law_told", "_law_rule_here", "_law_turn", "_law_order", "_law_again", "_law_due", "_law_was", "_law_new", "_law_outcome"] ["_law_script"] (defScope s_law) := ⟨rfl, rfl, rfl, by decide +kernel, rfl, by decide +kernel, by decide +kernel⟩
def m_law : MStm := (sSeq (sForI (iSeq (m2 oAdd (mLst (mCons (mFn (mCons (mv 0) (mCons (mc (.int 0)) mNil)) F__law_cell_at) mNil)) (mSl (mv 0) (oSome (mc (.int 1))) (oSome (mc (.int 2)))))) (gSet 1) (sSeq (sSet 2 (mFn (mCons (mv 1) mNil) F__law_pen)) (sSeq (sSet 3 (mFn (mCons (mv 2) (mCons (mFn (mCons (mv 2) (mCons (mLst (mCons (mc (.int 40)) (mCons (mc (.int 8)) (mCons (mc (.int 8)) (mCons (mc (.int 5)) mNil))))) mNil)) F__law_pick) mNil)) F__law_pairs)) (sSeq (sPar2 6 7 (mCons (m2 (oDunB "Table" F_Table___add__ "tuple" oAdd) (mMk "Table" F_Table___init__ mNil) (mCall (mCons (mv 3) mNil) cTup)) (mCons (mLc [5, 16] (iSeq (mv 3)) (gTupN [5, 16]) mYes (mv 5)) mNil))) (sSeq (sPar2 8 9 (mCons (mAt (mv 6) (oPrp "Table" F_Table_rows (fun _ _ => .stuck))) (mCons (mLstB mNil) mNil))) (sSeq (sForI (iSeq (mLst (mCons (mc (.str "abort")) (mCons (mc (.str "fail")) (mCons (mc (.str "ignore")) (mCons (mc (.str "replace")) mNil)))))) (gSet 4) (sSeq (sSet 10 (mFn (mCons (mv 2) (mCons (mLst (mCons (mSm "Rule" F_Rule_named (mc (.cls "Rule")) (mCons (mv 4) mNil)) (mCons (mFn (mCons (mv 4) mNil) F__law_rule) mNil))) mNil)) F__law_pick)) (sForI (iRange1 (mCons (mc (.int 2)) mNil)) (gSet 11) (sSeq (sSet 12 (mCall (mCons (mFn (mCons (mv 2) (mCons (mv 7) mNil)) F__law_mixed) mNil) cTup)) (sSeq (sPar2 14 15 (mCons (mFn (mCons (mv 3) (mCons (mv 12) (mCons (mv 4) mNil))) F__law_run) (mCons (mCall (mCons (mv 12) mNil) cRepr) mNil))) (sSeq (sExpr (mAppend (mv 9) (mTup (mCons (mCallI tbl___call__ (mv 10) (mCons (mv 6) (mCons (mv 12) mNil))) (mCons (mv 14) mNil))))) (sSeq (sSet 13 (mCallI tbl___call__ (mv 10) (mCons (mv 6) (mCons (mv 12) mNil)))) (sSeq (sIf (mOr (mNot (mB (mFn (mCons (m2 (oIxD oIx) (m2 (oIxD oIx) (mv 9) (mNeg (mc (.int 1)))) (mc (.int 0))) (mCons (mv 3) (mCons (mv 14) mNil))) F__law_outcome_right))) (mNot (mB (mFn (mCons (mv 13) (mCons (mv 3) (mCons (mv 14) mNil))) F__law_outcome_right)))) (sRet (mc (.bl false))) sNx) (sIf (mOr (mB (m2 (oEqK true (oEqD true)) (mCall (mCons (mv 12) mNil) cRepr) (mv 15))) (mB (m2 (oEqK true (oEqD true)) (mAt (mv 6) (oPrp "Table" F_Table_rows (fun _ _ => .stuck))) (mv 8)))) (sRet (mc (.bl false))) sNx))))))))) (sSeq (sForI (iSeq (mSl (mv 7) oNo (oSome (mc (.int 1))))) (gSet 5) (sAsg (m2 (oDunB "Table" F_Table___add__ "tuple" oAdd) (mv 5) (mc (.int 1))) (gSub (mv 6) (mv 5) (fSetI "Table" F_Table___setitem__ (fSetD fSetL))))) (sSeq (sFz 9) (sIf (mNot (mB (mCall (mCons (mLc [17, 14] (iSeq (mv 9)) (gTupN [17, 14]) mYes (mFn (mCons (mv 17) (mCons (mv 3) (mCons (mv 14) mNil))) F__law_outcome_right)) mNil) (cAll false)))) (sRet (mc (.bl false))) sNx))))))))) (sRet (mc (.bl true))))
def F_law : Fn := posF 1 [] (bodyF 1 18 m_law)
theorem d_law {P : Program} {w : World} {mg : Str → Option Value} {base : Heap} {T : Tab} (B : Bt P w mg T) (h__law_cell_at : Kn P w mg base T "_law_cell_at" 1 F__law_cell_at) (h__law_pen : Kn P w mg base T "_law_pen" 1 F__law_pen) (h__law_pairs : Kn P w mg base T "_law_pairs" 3 F__law_pairs) (h__law_pick : Kn P w mg base T "_law_pick" 2 F__law_pick) (hM_Table___add__ : KnM P w mg base T "Table" "__add__" 8 F_Table___add__) (hT_Table : KnT P w mg base T "Table" 6 F_Table___init__) (hP_Table_rows : PrK T "Table" "rows" P w mg base 1 F_Table_rows) (h__law_rule : Kn P w mg base T "_law_rule" 1 F__law_rule) (hS_Rule_named : KnSm P w mg base T "Rule" "named" 1 F_Rule_named) (h__law_mixed : Kn P w mg base T "_law_mixed" 2 F__law_mixed) (h__law_run : Kn P w mg base T "_law_run" 2 F__law_run) (hCi___call__ : KnCs P w mg base T 6 tbl___call__) (h__law_outcome_right : Kn P w mg base T "_law_outcome_right" 5 F__law_outcome_right) (hM_Table___setitem__ : KnM P w mg base T "Table" "__setitem__" 3 F_Table___setitem__) {f : Addr} {cdv : Value} {A : Around} {outer : List Env} {s : Shared} {H : Hp} {E : XK} {g : Gh}  (hr : RoomG 8 (A.deeper (envOfC "law" (defScope s_law) s.heap.objs.size f cdv))) :
    PMb (cAt P w mg base T ["_law_script", "_law_cell", "_law_pen_here", "_law_pairs_here", "_law_word", "_law_key", "_law_table", "_law_keys", "_law_kept", "_law_told", "_law_rule_here", "_law_turn", "_law_order", "_law_again", "_law_due", "_law_was", "_law_new", "_law_outcome"] "law" (defScope s_law) f cdv A outer s H E g) (defBody s_law) m_law :=
  have nd := sc_law.nd
  have hu := hr.toRoom.units
  have hu2 := room65 hr
  have hgd := hr.gs
  (bm_cons (sm_for (passes_of rfl) rfl (im_seq (em_bin ok_add (em_lst (am_cons (em_kn h__law_cell_at (hr.less (by decide)) cAt_takes (am_cons (em_v 0) (am_cons em_int am_nil))) am_nil)) (em_sl (em_v 0) (om_some em_int) (om_some em_int)))) (gm_name 1 nd rfl (Or.inl rfl)) (bm_cons (sm_set 2 nd rfl (Or.inl rfl) (em_kn h__law_pen (hr.less (by decide)) cAt_takes (am_cons (em_v 1) am_nil))) (bm_cons (sm_set 3 nd rfl (Or.inr rfl) (em_kn h__law_pairs (hr.less (by decide)) cAt_takes (am_cons (em_v 2) (am_cons (em_kn h__law_pick (hr.less (by decide)) cAt_takes (am_cons (em_v 2) (am_cons (em_lst (am_cons em_int (am_cons em_int (am_cons em_int (am_cons em_int am_nil))))) am_nil))) am_nil)))) (bm_cons (sm_par2 6 7 rfl nd (am_cons (em_bin (op_dunBin (op := .Add) hM_Table___add__ B.bk_Table_add (hr.less (by decide)) cAt_takes ok_add) (em_mk0 hT_Table (hr.less (by decide)) cAt_takes) (em_callT call_tuple_of ok_tuple B.b_tuple (am_cons (em_v 3) am_nil))) (am_cons (em_lc (own := [("_law_key", 5), ("_law_new", 16)]) rfl nd (im_seq (em_v 3)) (blkOk_by rfl) (fun _ _ _ _ _ _ => (gc_tup (is := [5, 16]) rfl (pgs_cons (pg_name (i := 5) nd rfl (Or.inl rfl)) (pgs_cons (pg_name (i := 16) nd rfl (Or.inl rfl)) pgs_nil)) (by decide))) (fun _ _ _ _ _ _ => tsm_nil) (fun _ _ _ _ _ _ => (em_v 5))) am_nil))) (bm_cons (sm_par2 8 9 rfl nd (am_cons (em_atG (atG_prp hP_Table_rows (hr.less (by decide)) cAt_takes atG_none) (em_v 6)) (am_cons (em_lstB am_nil) am_nil))) (bm_cons (sm_for (passes_of rfl) rfl (im_seq (em_lst (am_cons em_str (am_cons em_str (am_cons em_str (am_cons em_str am_nil)))))) (gm_name 4 nd rfl (Or.inl rfl)) (bm_cons (sm_set 10 nd rfl (Or.inl rfl) (em_kn h__law_pick (hr.less (by decide)) cAt_takes (am_cons (em_v 2) (am_cons (em_lst (am_cons (em_sm hS_Rule_named (hr.less (by decide)) cAt_takes (em_kc B.kc_Rule) (am_cons (em_v 4) am_nil)) (am_cons (em_kn h__law_rule (hr.less (by decide)) cAt_takes (am_cons (em_v 4) am_nil)) am_nil))) am_nil)))) (bm_one (sm_for (passes_of rfl) rfl (im_range1 (am_cons em_int am_nil) B.b_range) (gm_name 11 nd rfl (Or.inl rfl)) (bm_cons (sm_set 12 nd rfl (Or.inl rfl) (em_callT call_tuple_of ok_tuple B.b_tuple (am_cons (em_kn h__law_mixed (hr.less (by decide)) cAt_takes (am_cons (em_v 2) (am_cons (em_v 7) am_nil))) am_nil))) (bm_cons (sm_par2 14 15 rfl nd (am_cons (em_kn h__law_run (hr.less (by decide)) cAt_takes (am_cons (em_v 3) (am_cons (em_v 12) (am_cons (em_v 4) am_nil)))) (am_cons (em_callB (call_reprA hgd hu2) ok_repr B.b_repr (am_cons (em_v 12) am_nil)) am_nil))) (bm_cons (sm_expr (em_append (em_v 9) (em_tup (am_cons (em_callI hCi___call__ (hr.less (by decide)) cAt_takes (em_v 10) (am_cons (em_v 6) (am_cons (em_v 12) am_nil))) (am_cons (em_v 14) am_nil))))) (bm_cons (sm_set 13 nd rfl (Or.inl rfl) (em_callI hCi___call__ (hr.less (by decide)) cAt_takes (em_v 10) (am_cons (em_v 6) (am_cons (em_v 12) am_nil)))) (bm_cons (sm_if (tm_w (wm_or (tm_not (tm_val (em_kn h__law_outcome_right (hr.less (by decide)) cAt_takes (am_cons (em_ixG (ixG_dict (room1 hu) ixG_seq) (em_ixG (ixG_dict (room1 hu) ixG_seq) (em_v 9) (em_neg em_int) ⟨fun _ _ => rfl, fun _ _ => rfl⟩) em_int ⟨fun _ _ => rfl, fun _ _ => rfl⟩) (am_cons (em_v 3) (am_cons (em_v 14) am_nil)))))) (wm_or1 (tm_not (tm_val (em_kn h__law_outcome_right (hr.less (by decide)) cAt_takes (am_cons (em_v 13) (am_cons (em_v 3) (am_cons (em_v 14) am_nil))))))))) (bm_one (sm_ret em_bl)) bm_nil) (bm_one (sm_if (tm_w (wm_or (tm_cmp (op_neK (room0 hu) (ok_neD hu)) (em_callB (call_reprA hgd hu2) ok_repr B.b_repr (am_cons (em_v 12) am_nil)) (em_v 15) (nomark _)) (wm_or1 (tm_cmp (op_neK (room0 hu) (ok_neD hu)) (em_atG (atG_prp hP_Table_rows (hr.less (by decide)) cAt_takes atG_none) (em_v 6)) (em_v 8) (nomark _))))) (bm_one (sm_ret em_bl)) bm_nil))))))))))) (bm_cons (sm_for (passes_of rfl) rfl (im_seq (em_sl (em_v 7) om_none (om_some em_int))) (gm_name 5 nd rfl (Or.inl rfl)) (bm_one (sm_asg (em_bin (op_dunBin (op := .Add) hM_Table___add__ B.bk_Table_add (hr.less (by decide)) cAt_takes ok_add) (em_v 5) em_int) (gm_subG (setG_dun hM_Table___setitem__ B.ns_Table.ex (hr.less (by decide)) cAt_takes (setG_dict (room1 hu) (setG_list set_list))) (em_v 6) (em_v 5))))) (bm_fz 9 (bm_one (sm_if (tm_not (tm_val (em_callB (cr_all rfl) ok_all B.b_all (am_cons (em_lc (own := [("_law_outcome", 17), ("_law_due", 14)]) rfl nd (im_seq (em_v 9)) (blkOk_by rfl) (fun _ _ _ _ _ _ => (gc_tup (is := [17, 14]) rfl (pgs_cons (pg_name (i := 17) nd rfl (Or.inl rfl)) (pgs_cons (pg_name (i := 14) nd rfl (Or.inl rfl)) pgs_nil)) (by decide))) (fun _ _ _ _ _ _ => tsm_nil) (fun _ _ _ _ _ _ => (em_kn h__law_outcome_right (hr.less (by decide)) takes0 (am_cons (em_v 17) (am_cons (em_v 3) (am_cons (em_v 14) am_nil)))))) am_nil)))) (bm_one (sm_ret em_bl)) bm_nil)))))))))) (bm_one (sm_ret em_bl)))
theorem k_law {P : Program} {w : World} {mg : Str → Option Value} {base : Heap} {T : Tab} (B : Bt P w mg T) (h__law_cell_at : Kn P w mg base T "_law_cell_at" 1 F__law_cell_at) (h__law_pen : Kn P w mg base T "_law_pen" 1 F__law_pen) (h__law_pairs : Kn P w mg base T "_law_pairs" 3 F__law_pairs) (h__law_pick : Kn P w mg base T "_law_pick" 2 F__law_pick) (hM_Table___add__ : KnM P w mg base T "Table" "__add__" 8 F_Table___add__) (hT_Table : KnT P w mg base T "Table" 6 F_Table___init__) (hP_Table_rows : PrK T "Table" "rows" P w mg base 1 F_Table_rows) (h__law_rule : Kn P w mg base T "_law_rule" 1 F__law_rule) (hS_Rule_named : KnSm P w mg base T "Rule" "named" 1 F_Rule_named) (h__law_mixed : Kn P w mg base T "_law_mixed" 2 F__law_mixed) (h__law_run : Kn P w mg base T "_law_run" 2 F__law_run) (hCi___call__ : KnCs P w mg base T 6 tbl___call__) (h__law_outcome_right : Kn P w mg base T "_law_outcome_right" 5 F__law_outcome_right) (hM_Table___setitem__ : KnM P w mg base T "Table" "__setitem__" 3 F_Table___setitem__) {f : Addr} {fd : FuncData} (F : Fun T.K "law" "law" s_law f fd) (hm : mg "law" = some (.ref f)) : Kn P w mg base T "law" 9 F_law :=
  ⟨f, FnP.of (dms := []) (fnG_of F sc_law fun cdv A outer s H E g hr => d_law B h__law_cell_at h__law_pen h__law_pairs h__law_pick hM_Table___add__ hT_Table hP_Table_rows h__law_rule hS_Rule_named h__law_mixed h__law_run hCi___call__ h__law_outcome_right hM_Table___setitem__ hr) (F.binds (fun _ _ _ _ _ _ us hl => match us, hl with | [_], _ => rfl)) .nil (fun _ _ => .nil), hm, F.kp⟩
end Lw
namespace Lw
open L2 Ma PySem.Spec PySem PyProof.Rows
open PySem.W
abbrev TT (K : PySem.W.Frag) : Tab := ⟨K, adOf K CS, ((tbs K).map (·.2)).zip qs⟩
theorem ex_at {K : PySem.W.Frag} (h : exs K = true) (i : Nat) {b : PySem.W.Frag → Bool} (e : exL[i]? = some b) : b K = true := List.all_eq_true.mp h b (List.mem_of_getElem? e)
theorem xs_at {K : PySem.W.Frag} (h : exs K = true) {c : Str} (hc : c ∈ XS) : ExcC K (He.ga K c) ∧ XfC K (He.ga K c) := excB_ok (List.all_eq_true.mp (ex_at h 0 rfl) c hc)
theorem row_TooMany (fd : FuncData) (hs : fd.scope = defScope mt_TooMany) (f : Addr) : RowS fd f (jsOf mt_TooMany) (rp mt_TooMany 0) (rp mt_TooMany 1) (rp mt_TooMany 2) (rp mt_TooMany 3) (rp mt_TooMany 4) := by
  cases fd
  cases hs
  exact ⟨fun L => ⟨_, rfl⟩, fun L => rfl, fun L => rfl, fun L => rfl⟩
theorem call_TooMany {w : World} {K : PySem.W.Frag} {mg mb : Str → Option Value} (h : iniB PP K (He.ga K "TooMany") (iniAd K "TooMany") = true) (hw : iniW K "TooMany" = (di_TooMany).val) (hmg : mg "super" = none) (hmb : mb "super" = some (.type "super")) (st0 : stB K (He.ga K "TooMany") "many" = true) (st1 : stB K (He.ga K "TooMany") "most" = true) :
    keepIn K (.ref (He.ga K "TooMany")) = true ∧ ExCall PP w K mg mb (He.ga K "TooMany") ["many", "most"] [.inr 0, .inl " are too many, ", .inr 1, .inl " is the most"] := by
  obtain ⟨kp, cda, cc, fd, F, e1, e2, e3⟩ := iniB_ok (d := di_TooMany) (ps := ["self", "many", "most"]) h hw (by decide +kernel) hmg hmb rfl rfl rfl (by decide +kernel) (by decide +kernel) (by decide +kernel) (by decide +kernel) (fun fd h h2 us hl => by cases fd; cases h; cases h2; match us, hl with | [_, _, _], _ => rfl)
  refine ⟨kp, exCall_two F e2 (hself_of e1 rfl) (by decide) (by decide) (by decide) (by decide) (row_TooMany fd e3 _) (stB_ok st0) (stB_ok st1) ?_ ?_ (by decide) (by decide) (by decide) (.val rfl (by decide) (.txt (.val rfl (by decide) (.txt PtIs.nil))))⟩
  · intro L; cases fd; cases e3; rfl
  · intro L; cases fd; cases e3; rfl
theorem row_Twice (fd : FuncData) (hs : fd.scope = defScope mt_Twice) (f : Addr) : RowS fd f (jsOf mt_Twice) (rp mt_Twice 0) (rp mt_Twice 1) (rp mt_Twice 2) (rp mt_Twice 3) (rp mt_Twice 4) := by
  cases fd
  cases hs
  exact ⟨fun L => ⟨_, rfl⟩, fun L => rfl, fun L => rfl, fun L => rfl⟩
theorem call_Twice {w : World} {K : PySem.W.Frag} {mg mb : Str → Option Value} (h : iniB PP K (He.ga K "Twice") (iniAd K "Twice") = true) (hw : iniW K "Twice" = (di_Twice).val) (hmg : mg "super" = none) (hmb : mb "super" = some (.type "super")) (st0 : stB K (He.ga K "Twice") "key" = true) :
    keepIn K (.ref (He.ga K "Twice")) = true ∧ ExCall PP w K mg mb (He.ga K "Twice") ["key"] [.inl "two rows have the key ", .inr 0] := by
  obtain ⟨kp, cda, cc, fd, F, e1, e2, e3⟩ := iniB_ok (d := di_Twice) (ps := ["self", "key"]) h hw (by decide +kernel) hmg hmb rfl rfl rfl (by decide +kernel) (by decide +kernel) (by decide +kernel) (by decide +kernel) (fun fd h h2 us hl => by cases fd; cases h; cases h2; match us, hl with | [_, _], _ => rfl)
  refine ⟨kp, exCall_one F e2 (hself_of e1 rfl) (by decide) (row_Twice fd e3 _) (stB_ok st0) ?_ (by decide) (by decide) (.txt (.val rfl (by decide) PtIs.nil))⟩
  · intro L; cases fd; cases e3; rfl
theorem bt_of {w : World} {K : PySem.W.Frag} {h : Heap} {mg : Str → Option Value} (X : K.In h) (G : h.Ns mainGlobals mg) (c : SaysP fas fns nis exs K) : Bt PP w mg (TT K) where
  b_all := He.free_ok X G (c.d.fact 34 (f := .free "all") rfl)
  b_bool := He.free_ok X G (c.d.fact 35 (f := .free "bool") rfl)
  b_dict := He.free_ok X G (c.d.fact 36 (f := .free "dict") rfl)
  b_enumerate := He.free_ok X G (c.d.fact 37 (f := .free "enumerate") rfl)
  b_int := He.free_ok X G (c.d.fact 38 (f := .free "int") rfl)
  b_isinstance := He.free_ok X G (c.d.fact 39 (f := .free "isinstance") rfl)
  b_len := He.free_ok X G (c.d.fact 40 (f := .free "len") rfl)
  b_list := He.free_ok X G (c.d.fact 41 (f := .free "list") rfl)
  b_max := He.free_ok X G (c.d.fact 42 (f := .free "max") rfl)
  b_range := He.free_ok X G (c.d.fact 43 (f := .free "range") rfl)
  b_repr := He.free_ok X G (c.d.fact 44 (f := .free "repr") rfl)
  b_set := He.free_ok X G (c.d.fact 45 (f := .free "set") rfl)
  b_sorted := He.free_ok X G (c.d.fact 46 (f := .free "sorted") rfl)
  b_tuple := He.free_ok X G (c.d.fact 48 (f := .free "tuple") rfl)
  c_KEY_BOUND := He.int_ok X G (c.d.fact 49 (f := .int "KEY_BOUND" 1000000000000000000000000000000) rfl)
  c_MOST_ROWS := He.int_ok X G (c.d.fact 50 (f := .int "MOST_ROWS" 40) rfl)
  kc_Rule := ⟨_, adOf_mem (K := K) (cs := CS) (c := "Rule") (by decide +kernel), He.glo_ok X G (c.d.fact 29 (f := .glo "Rule") rfl)⟩
  kc_Table := ⟨_, adOf_mem (K := K) (cs := CS) (c := "Table") (by decide +kernel), He.glo_ok X G (c.d.fact 31 (f := .glo "Table") rfl)⟩
  ke_Missing := ⟨_, adOf_mem (K := K) (cs := CS) (c := "Missing") (by decide +kernel), He.glo_ok X G (c.d.fact 22 (f := .glo "Missing") rfl), exkB_ok (ex_at c.more 3 rfl)⟩
  ke_NotKey := ⟨_, adOf_mem (K := K) (cs := CS) (c := "NotKey") (by decide +kernel), He.glo_ok X G (c.d.fact 23 (f := .glo "NotKey") rfl), exkB_ok (ex_at c.more 4 rfl)⟩
  ke_NotOrder := ⟨_, adOf_mem (K := K) (cs := CS) (c := "NotOrder") (by decide +kernel), He.glo_ok X G (c.d.fact 24 (f := .glo "NotOrder") rfl), exkB_ok (ex_at c.more 5 rfl)⟩
  ke_NotRow := ⟨_, adOf_mem (K := K) (cs := CS) (c := "NotRow") (by decide +kernel), He.glo_ok X G (c.d.fact 25 (f := .glo "NotRow") rfl), exkB_ok (ex_at c.more 6 rfl)⟩
  ke_NotRule := ⟨_, adOf_mem (K := K) (cs := CS) (c := "NotRule") (by decide +kernel), He.glo_ok X G (c.d.fact 26 (f := .glo "NotRule") rfl), exkB_ok (ex_at c.more 7 rfl)⟩
  ke_NotTable := ⟨_, adOf_mem (K := K) (cs := CS) (c := "NotTable") (by decide +kernel), He.glo_ok X G (c.d.fact 27 (f := .glo "NotTable") rfl), exkB_ok (ex_at c.more 8 rfl)⟩
  ki_TooMany := ⟨_, adOf_mem (K := K) (cs := CS) (c := "TooMany") (by decide +kernel), He.glo_ok X G (c.d.fact 32 (f := .glo "TooMany") rfl), (call_TooMany (w := w) (mg := mg) (mb := bootBuiltins) (ex_at c.more 11 rfl) (c.ini (d := di_TooMany) (by simp [nis])) (He.free_ok X G (c.d.fact 47 (f := .free "super") rfl)) (by first | rfl | decide +kernel) (ex_at c.more 9 rfl) (ex_at c.more 10 rfl)).1, fun mb hmb => (call_TooMany (w := w) (mg := mg) (mb := mb) (ex_at c.more 11 rfl) (c.ini (d := di_TooMany) (by simp [nis])) (He.free_ok X G (c.d.fact 47 (f := .free "super") rfl)) ((hmb _ (by decide)).trans (by first | rfl | decide +kernel)) (ex_at c.more 9 rfl) (ex_at c.more 10 rfl)).2⟩
  ki_Twice := ⟨_, adOf_mem (K := K) (cs := CS) (c := "Twice") (by decide +kernel), He.glo_ok X G (c.d.fact 33 (f := .glo "Twice") rfl), (call_Twice (w := w) (mg := mg) (mb := bootBuiltins) (ex_at c.more 13 rfl) (c.ini (d := di_Twice) (by simp [nis])) (He.free_ok X G (c.d.fact 47 (f := .free "super") rfl)) (by first | rfl | decide +kernel) (ex_at c.more 12 rfl)).1, fun mb hmb => (call_Twice (w := w) (mg := mg) (mb := mb) (ex_at c.more 13 rfl) (c.ini (d := di_Twice) (by simp [nis])) (He.free_ok X G (c.d.fact 47 (f := .free "super") rfl)) ((hmb _ (by decide)).trans (by first | rfl | decide +kernel)) (ex_at c.more 12 rfl)).2⟩
  f__holders := ⟨fun d hd A e => by
    have e : adOf K CS d = some A := e
    rw [adOf_at e]
    simp only [List.mem_cons, List.not_mem_nil, or_false] at hd
    rcases hd with rfl
    · exact ⟨clsB_ok (ex_at c.more 14 rfl), noB_ok (ex_at c.more 15 rfl)⟩, fun c hc => by simp at hc⟩
  f__keys := ⟨fun d hd A e => by
    have e : adOf K CS d = some A := e
    rw [adOf_at e]
    simp only [List.mem_cons, List.not_mem_nil, or_false] at hd
    rcases hd with rfl
    · exact ⟨clsB_ok (ex_at c.more 14 rfl), noB_ok (ex_at c.more 16 rfl)⟩, fun c hc => by simp at hc⟩
  f__new_keys := ⟨fun d hd A e => by
    have e : adOf K CS d = some A := e
    rw [adOf_at e]
    simp only [List.mem_cons, List.not_mem_nil, or_false] at hd
    rcases hd with rfl
    · exact ⟨clsB_ok (ex_at c.more 17 rfl), noB_ok (ex_at c.more 18 rfl)⟩, fun c hc => by simp at hc⟩
  f__rows := ⟨fun d hd A e => by
    have e : adOf K CS d = some A := e
    rw [adOf_at e]
    simp only [List.mem_cons, List.not_mem_nil, or_false] at hd
    rcases hd with rfl
    · exact ⟨clsB_ok (ex_at c.more 14 rfl), noB_ok (ex_at c.more 19 rfl)⟩, fun c hc => by simp at hc⟩
  f__triple := ⟨fun d hd A e => by
    have e : adOf K CS d = some A := e
    rw [adOf_at e]
    simp only [List.mem_cons, List.not_mem_nil, or_false] at hd
    rcases hd with rfl
    · exact ⟨clsB_ok (ex_at c.more 20 rfl), noB_ok (ex_at c.more 21 rfl)⟩, fun c hc => by simp at hc⟩
  f__wanted := ⟨fun d hd A e => by
    have e : adOf K CS d = some A := e
    rw [adOf_at e]
    simp only [List.mem_cons, List.not_mem_nil, or_false] at hd
    rcases hd with rfl
    · exact ⟨clsB_ok (ex_at c.more 14 rfl), noB_ok (ex_at c.more 22 rfl)⟩, fun c hc => by simp at hc⟩
  bk_Table_add := binK_of (ex_at c.more 23 rfl)
  con_WORD := (conT_cons (cs := CS) (c := "Abort") (z := "abort") (ex_at c.more 27 rfl) (conT_cons (cs := CS) (c := "Fail") (z := "fail") (ex_at c.more 26 rfl) (conT_cons (cs := CS) (c := "Ignore") (z := "ignore") (ex_at c.more 25 rfl) (conT_cons (cs := CS) (c := "Replace") (z := "replace") (ex_at c.more 24 rfl) conT_nil))))
  fc_Outcome__triple := fldC_of (ex_at c.more 20 rfl) (ex_at c.more 21 rfl)
  fc_Run__holders := fldC_of (ex_at c.more 14 rfl) (ex_at c.more 15 rfl)
  fc_Run__keys := fldC_of (ex_at c.more 14 rfl) (ex_at c.more 16 rfl)
  fc_Run__rows := fldC_of (ex_at c.more 14 rfl) (ex_at c.more 19 rfl)
  fc_Run__wanted := fldC_of (ex_at c.more 14 rfl) (ex_at c.more 22 rfl)
  fc_Table__new_keys := fldC_of (ex_at c.more 17 rfl) (ex_at c.more 18 rfl)
  ko_Abort := knO_of (cs := CS) (by decide +kernel) (He.glo_ok X G (c.d.fact 51 (f := .glo "Abort") rfl)) (ex_at c.more 28 rfl)
  ko_Fail := knO_of (cs := CS) (by decide +kernel) (He.glo_ok X G (c.d.fact 52 (f := .glo "Fail") rfl)) (ex_at c.more 29 rfl)
  ko_Ignore := knO_of (cs := CS) (by decide +kernel) (He.glo_ok X G (c.d.fact 53 (f := .glo "Ignore") rfl)) (ex_at c.more 30 rfl)
  ko_Replace := knO_of (cs := CS) (by decide +kernel) (He.glo_ok X G (c.d.fact 54 (f := .glo "Replace") rfl)) (ex_at c.more 31 rfl)
  ns_Table := noS_of (ex_at c.more 32 rfl)
  ra_Missing := raiF_of (ex_at c.more 33 rfl)
  ra_NotKey := raiF_of (ex_at c.more 34 rfl)
  ra_NotOrder := raiF_of (ex_at c.more 35 rfl)
  ra_NotRow := raiF_of (ex_at c.more 36 rfl)
  ra_NotRule := raiF_of (ex_at c.more 37 rfl)
  ra_NotTable := raiF_of (ex_at c.more 38 rfl)
  ra_TooMany := raiF_of (ex_at c.more 39 rfl)
  ra_Twice := raiF_of (ex_at c.more 40 rfl)
  x := ⟨fun d hd A e => by
    have e : adOf K CS d = some A := e
    rw [adOf_at e]
    exact insB_ok (List.all_eq_true.mp (ex_at c.more 1 rfl) d hd), fun d hd A e => by
    have e : adOf K CS d = some A := e
    rw [adOf_at e]
    exact (xs_at c.more hd).1, isiB_ok (ex_at c.more 2 rfl)⟩
theorem fun_at {K : PySem.W.Frag} (c : SaysP fas fns nis exs K) (i : Nat) {d : He5.DefA} (h : fns[i]? = some d := by rfl) : ∃ fd, FunD K d.name d.qual d.params d.body d.scope (d.dvs K) (d.kws K) (d.at_ K) fd := c.d.def_ i h
theorem law_kn {w : World} {K : PySem.W.Frag} {h base : Heap} {mg : Str → Option Value} (X : K.In h) (G : h.Ns mainGlobals mg) (c : SaysP fas fns nis exs K) (t : TabsK tbs K h) (TB : ∀ p ∈ tbs K, LamX.TabB base mg p.1 p.2) : Kn PP w mg base (TT K) "law" 9 F_law := by
  have B := bt_of (w := w) X G c
  obtain ⟨fd0, f0⟩ := fun_at c 0
  have h__law_cell_at := k__law_cell_at (P := PP) (w := w) (base := base) B  (He5.fun_of f0) (He.glo_ok X G (c.d.fact 0 (f := .glo "_law_cell_at") rfl))
  obtain ⟨fd1, f1⟩ := fun_at c 1
  have h__law_pen := k__law_pen (P := PP) (w := w) (base := base) B  (He5.fun_of f1) (He.glo_ok X G (c.d.fact 1 (f := .glo "_law_pen") rfl))
  obtain ⟨fd2, f2⟩ := fun_at c 2
  have h__law_draw := k__law_draw (P := PP) (w := w) (base := base) B  (He5.fun_of f2) (He.glo_ok X G (c.d.fact 2 (f := .glo "_law_draw") rfl))
  obtain ⟨fd3, f3⟩ := fun_at c 3
  have h__law_pick := k__law_pick (P := PP) (w := w) (base := base) B h__law_draw (He5.fun_of f3) (He.glo_ok X G (c.d.fact 3 (f := .glo "_law_pick") rfl))
  obtain ⟨fd4, f4⟩ := fun_at c 4
  have h__law_mixed := k__law_mixed (P := PP) (w := w) (base := base) B h__law_draw (He5.fun_of f4) (He.glo_ok X G (c.d.fact 4 (f := .glo "_law_mixed") rfl))
  obtain ⟨fd5, f5⟩ := fun_at c 5
  have h__law_pairs := k__law_pairs (P := PP) (w := w) (base := base) B h__law_draw h__law_pick h__law_mixed (He5.fun_of f5) (He.glo_ok X G (c.d.fact 5 (f := .glo "_law_pairs") rfl))
  obtain ⟨fd6, f6⟩ := fun_at c 6
  have q_Table_rows_b := k_Table_rows_b (P := PP) (w := w) (base := base) B  (He5.fun_of f6)
  have q_Table_rows := k_Table_rows (P := PP) (w := w) (base := base) B  (He5.fun_of f6)
  have hP_Table_rows := prK_of (c := "Table") (f := "rows") (cs := CS) (ex_at c.more 17 rfl) (ex_at c.more 41 rfl) q_Table_rows
  obtain ⟨fd7, f7⟩ := fun_at c 7
  have h_rows_to_add := k_rows_to_add (P := PP) (w := w) (base := base) B hP_Table_rows (He5.fun_of f7) (He.glo_ok X G (c.d.fact 6 (f := .glo "rows_to_add") rfl))
  obtain ⟨fd8, f8⟩ := fun_at c 8
  have h_is_integer := k_is_integer (P := PP) (w := w) (base := base) B  (He5.fun_of f8) (He.glo_ok X G (c.d.fact 7 (f := .glo "is_integer") rfl))
  obtain ⟨fd9, f9⟩ := fun_at c 9
  have h_is_key := k_is_key (P := PP) (w := w) (base := base) B h_is_integer (He5.fun_of f9) (He.glo_ok X G (c.d.fact 8 (f := .glo "is_key") rfl))
  obtain ⟨fd10, f10⟩ := fun_at c 10
  have h_is_pair := k_is_pair (P := PP) (w := w) (base := base) B h_is_key (He5.fun_of f10) (He.glo_ok X G (c.d.fact 9 (f := .glo "is_pair") rfl))
  obtain ⟨fd11, f11⟩ := fun_at c 11
  have h_check_rows := k_check_rows (P := PP) (w := w) (base := base) B h_is_pair (He5.fun_of f11) (He.glo_ok X G (c.d.fact 10 (f := .glo "check_rows") rfl))
  obtain ⟨fd12, f12⟩ := fun_at c 12
  have h_new_keys := k_new_keys (P := PP) (w := w) (base := base) B h_check_rows (He5.fun_of f12) (He.glo_ok X G (c.d.fact 11 (f := .glo "new_keys") rfl))
  obtain ⟨fd13, f13⟩ := fun_at c 13
  have q_Table___init__ := k_Table___init__ (P := PP) (w := w) (base := base) B h_new_keys (He5.fun_of f13)
  have hT_Table := knT_of (c := "Table") (cs := CS) (by decide +kernel) (He.glo_ok X G (c.d.fact 31 (f := .glo "Table") rfl)) (ex_at c.more 42 rfl) q_Table___init__
  obtain ⟨fd14, f14⟩ := fun_at c 14
  have q_Table___add__ := k_Table___add__ (P := PP) (w := w) (base := base) B hP_Table_rows h_rows_to_add hT_Table (He5.fun_of f14)
  obtain ⟨fd15, f15⟩ := fun_at c 15
  have h__law_rule := k__law_rule (P := PP) (w := w) (base := base) B  (He5.fun_of f15) (He.glo_ok X G (c.d.fact 12 (f := .glo "_law_rule") rfl))
  obtain ⟨fd16, f16⟩ := fun_at c 16
  have q_Rule_named := k_Rule_named (P := PP) (w := w) (base := base) B  (He5.fun_of f16)
  obtain ⟨fd17, f17⟩ := fun_at c 17
  have h__law_ends := k__law_ends (P := PP) (w := w) (base := base) B  (He5.fun_of f17) (He.glo_ok X G (c.d.fact 13 (f := .glo "_law_ends") rfl))
  obtain ⟨fd18, f18⟩ := fun_at c 18
  have h__law_run := k__law_run (P := PP) (w := w) (base := base) B h__law_ends (He5.fun_of f18) (He.glo_ok X G (c.d.fact 14 (f := .glo "_law_run") rfl))
  obtain ⟨fd19, f19⟩ := fun_at c 19
  have h_check_table := k_check_table (P := PP) (w := w) (base := base) B  (He5.fun_of f19) (He.glo_ok X G (c.d.fact 15 (f := .glo "check_table") rfl))
  obtain ⟨fd20, f20⟩ := fun_at c 20
  have q_Table___contains__ := k_Table___contains__ (P := PP) (w := w) (base := base) B h_is_integer (He5.fun_of f20)
  have hM_Table___contains__ := knM_of (c := "Table") (m := "__contains__") (cs := CS) (ex_at c.more 43 rfl) q_Table___contains__
  obtain ⟨fd21, f21⟩ := fun_at c 21
  have h_are_rows := k_are_rows (P := PP) (w := w) (base := base) B hM_Table___contains__ (He5.fun_of f21) (He.glo_ok X G (c.d.fact 16 (f := .glo "are_rows") rfl))
  obtain ⟨fd22, f22⟩ := fun_at c 22
  have q_Table___len__ := k_Table___len__ (P := PP) (w := w) (base := base) B  (He5.fun_of f22)
  have hM_Table___len__ := knM_of (c := "Table") (m := "__len__") (cs := CS) (ex_at c.more 44 rfl) q_Table___len__
  obtain ⟨fd23, f23⟩ := fun_at c 23
  have h_is_order := k_is_order (P := PP) (w := w) (base := base) B h_are_rows hM_Table___len__ (He5.fun_of f23) (He.glo_ok X G (c.d.fact 17 (f := .glo "is_order") rfl))
  obtain ⟨fd24, f24⟩ := fun_at c 24
  have h_check_order := k_check_order (P := PP) (w := w) (base := base) B h_is_order (He5.fun_of f24) (He.glo_ok X G (c.d.fact 18 (f := .glo "check_order") rfl))
  obtain ⟨fd25, f25⟩ := fun_at c 25
  have q_Run_start_again := k_Run_start_again (P := PP) (w := w) (base := base) B  (He5.fun_of f25)
  have hMe_start_again : KnMs PP w mg base (TT K) "start_again" 1 tbl_start_again := (.cons ((knMe_of (c := "Run") (m := "start_again") (cs := CS) (ex_at c.more 45 rfl) q_Run_start_again).up (fun _ hr => hr.less (by decide))) .nil)
  obtain ⟨fd26, f26⟩ := fun_at c 26
  have q_Run___init__ := k_Run___init__ (P := PP) (w := w) (base := base) B hMe_start_again (He5.fun_of f26)
  obtain ⟨fd27, f27⟩ := fun_at c 27
  have q_Run_move := k_Run_move (P := PP) (w := w) (base := base) B  (He5.fun_of f27)
  have hMe_move : KnMs PP w mg base (TT K) "move" 1 tbl_move := (.cons ((knMe_of (c := "Run") (m := "move") (cs := CS) (ex_at c.more 46 rfl) q_Run_move).up (fun _ hr => hr.less (by decide))) .nil)
  obtain ⟨fd28, f28⟩ := fun_at c 28
  have q_Run_visit := k_Run_visit (P := PP) (w := w) (base := base) B hMe_move (He5.fun_of f28)
  obtain ⟨fd29, f29⟩ := fun_at c 29
  have q_Undoes_settle := k_Undoes_settle (P := PP) (w := w) (base := base) B hMe_start_again (He5.fun_of f29)
  obtain ⟨fd30, f30⟩ := fun_at c 30
  have q_Leaves_settle := k_Leaves_settle (P := PP) (w := w) (base := base) B  (He5.fun_of f30)
  obtain ⟨fd31, f31⟩ := fun_at c 31
  have q_Run_take_out := k_Run_take_out (P := PP) (w := w) (base := base) B  (He5.fun_of f31)
  have hMe_take_out : KnMs PP w mg base (TT K) "take_out" 1 tbl_take_out := (.cons ((knMe_of (c := "Run") (m := "take_out") (cs := CS) (ex_at c.more 47 rfl) q_Run_take_out).up (fun _ hr => hr.less (by decide))) .nil)
  obtain ⟨fd32, f32⟩ := fun_at c 32
  have q_Removes_settle := k_Removes_settle (P := PP) (w := w) (base := base) B hMe_take_out hMe_move (He5.fun_of f32)
  obtain ⟨fd33, f33⟩ := fun_at c 33
  have q_Stops_goes_on := k_Stops_goes_on (P := PP) (w := w) (base := base) B  (He5.fun_of f33)
  obtain ⟨fd34, f34⟩ := fun_at c 34
  have q_Continues_goes_on := k_Continues_goes_on (P := PP) (w := w) (base := base) B  (He5.fun_of f34)
  have hMe_visit : KnMs PP w mg base (TT K) "visit" 2 tbl_visit := (.cons ((knMe_of (c := "Run") (m := "visit") (cs := CS) (ex_at c.more 48 rfl) q_Run_visit).up (fun _ hr => hr.less (by decide))) .nil)
  have hMe_settle : KnMs PP w mg base (TT K) "settle" 2 tbl_settle := (.cons ((knMe_of (c := "Abort") (m := "settle") (cs := CS) (ex_at c.more 52 rfl) q_Undoes_settle).up (fun _ hr => hr.less (by decide))) (.cons ((knMe_of (c := "Fail") (m := "settle") (cs := CS) (ex_at c.more 51 rfl) q_Leaves_settle).up (fun _ hr => hr.less (by decide))) (.cons ((knMe_of (c := "Ignore") (m := "settle") (cs := CS) (ex_at c.more 50 rfl) q_Leaves_settle).up (fun _ hr => hr.less (by decide))) (.cons ((knMe_of (c := "Replace") (m := "settle") (cs := CS) (ex_at c.more 49 rfl) q_Removes_settle).up (fun _ hr => hr.less (by decide))) .nil))))
  have hMe_goes_on : KnMs PP w mg base (TT K) "goes_on" 1 tbl_goes_on := (.cons ((knMe_of (c := "Abort") (m := "goes_on") (cs := CS) (ex_at c.more 56 rfl) q_Stops_goes_on).up (fun _ hr => hr.less (by decide))) (.cons ((knMe_of (c := "Fail") (m := "goes_on") (cs := CS) (ex_at c.more 55 rfl) q_Stops_goes_on).up (fun _ hr => hr.less (by decide))) (.cons ((knMe_of (c := "Ignore") (m := "goes_on") (cs := CS) (ex_at c.more 54 rfl) q_Continues_goes_on).up (fun _ hr => hr.less (by decide))) (.cons ((knMe_of (c := "Replace") (m := "goes_on") (cs := CS) (ex_at c.more 53 rfl) q_Continues_goes_on).up (fun _ hr => hr.less (by decide))) .nil))))
  obtain ⟨fd35, f35⟩ := fun_at c 35
  have q_Rule_visit_all := k_Rule_visit_all (P := PP) (w := w) (base := base) B hMe_visit hMe_settle hMe_goes_on (He5.fun_of f35)
  obtain ⟨fd36, f36⟩ := fun_at c 36
  have q_Outcome___init__ := k_Outcome___init__ (P := PP) (w := w) (base := base) B  (He5.fun_of f36)
  obtain ⟨fd37, f37⟩ := fun_at c 37
  have q_Run_held_by_rows := k_Run_held_by_rows (P := PP) (w := w) (base := base) B  (He5.fun_of f37)
  have hT_Run := knT_of (c := "Run") (cs := CS) (by decide +kernel) (He.glo_ok X G (c.d.fact 30 (f := .glo "Run") rfl)) (ex_at c.more 57 rfl) q_Run___init__
  have hPb_Table_rows := prK_of (c := "Table") (f := "rows") (cs := CS) (ex_at c.more 17 rfl) (ex_at c.more 41 rfl) q_Table_rows_b
  have hMe_visit_all : KnMs PP w mg base (TT K) "visit_all" 3 tbl_visit_all := (.cons ((knMe_of (c := "Abort") (m := "visit_all") (cs := CS) (ex_at c.more 61 rfl) q_Rule_visit_all).up (fun _ hr => hr.less (by decide))) (.cons ((knMe_of (c := "Fail") (m := "visit_all") (cs := CS) (ex_at c.more 60 rfl) q_Rule_visit_all).up (fun _ hr => hr.less (by decide))) (.cons ((knMe_of (c := "Ignore") (m := "visit_all") (cs := CS) (ex_at c.more 59 rfl) q_Rule_visit_all).up (fun _ hr => hr.less (by decide))) (.cons ((knMe_of (c := "Replace") (m := "visit_all") (cs := CS) (ex_at c.more 58 rfl) q_Rule_visit_all).up (fun _ hr => hr.less (by decide))) .nil))))
  have hT_Outcome := knT_of (c := "Outcome") (cs := CS) (by decide +kernel) (He.glo_ok X G (c.d.fact 28 (f := .glo "Outcome") rfl)) (ex_at c.more 62 rfl) q_Outcome___init__
  have hMe_held_by_rows : KnMs PP w mg base (TT K) "held_by_rows" 1 tbl_held_by_rows := (.cons ((knMe_of (c := "Run") (m := "held_by_rows") (cs := CS) (ex_at c.more 63 rfl) q_Run_held_by_rows).up (fun _ hr => hr.less (by decide))) .nil)
  obtain ⟨fd38, f38⟩ := fun_at c 38
  have q_Rule___call__ := k_Rule___call__ (P := PP) (w := w) (base := base) B h_check_table h_check_order hT_Run hPb_Table_rows hMe_visit_all hT_Outcome hMe_held_by_rows (He5.fun_of f38)
  obtain ⟨fd39, f39⟩ := fun_at c 39
  have q_Outcome_ends := k_Outcome_ends (P := PP) (w := w) (base := base) B  (He5.fun_of f39)
  have hP_Outcome_ends := prK_of (c := "Outcome") (f := "ends") (cs := CS) (ex_at c.more 20 rfl) (ex_at c.more 64 rfl) q_Outcome_ends
  obtain ⟨fd40, f40⟩ := fun_at c 40
  have q_Outcome___len__ := k_Outcome___len__ (P := PP) (w := w) (base := base) B hP_Outcome_ends (He5.fun_of f40)
  obtain ⟨fd41, f41⟩ := fun_at c 41
  have q_Outcome_held := k_Outcome_held (P := PP) (w := w) (base := base) B hP_Outcome_ends (He5.fun_of f41)
  obtain ⟨fd42, f42⟩ := fun_at c 42
  have q_Outcome_left := k_Outcome_left (P := PP) (w := w) (base := base) B hP_Outcome_ends (He5.fun_of f42)
  obtain ⟨fd43, f43⟩ := fun_at c 43
  have q_Outcome_rows := k_Outcome_rows (P := PP) (w := w) (base := base) B  (He5.fun_of f43)
  have hP_Outcome_rows := prK_of (c := "Outcome") (f := "rows") (cs := CS) (ex_at c.more 20 rfl) (ex_at c.more 65 rfl) q_Outcome_rows
  obtain ⟨fd44, f44⟩ := fun_at c 44
  have q_Outcome_moved := k_Outcome_moved (P := PP) (w := w) (base := base) B hP_Outcome_rows hP_Outcome_ends (He5.fun_of f44)
  obtain ⟨fd45, f45⟩ := fun_at c 45
  have q_Outcome_stop := k_Outcome_stop (P := PP) (w := w) (base := base) B  (He5.fun_of f45)
  obtain ⟨fd46, f46⟩ := fun_at c 46
  have h__law_same := k__law_same (P := PP) (w := w) (base := base) B  (He5.fun_of f46) (He.glo_ok X G (c.d.fact 19 (f := .glo "_law_same") rfl))
  obtain ⟨fd47, f47⟩ := fun_at c 47
  have q_Outcome___getitem__ := k_Outcome___getitem__ (P := PP) (w := w) (base := base) B h_is_integer hP_Outcome_rows hP_Outcome_ends (He5.fun_of f47)
  have hM_Outcome___len__ := knM_of (c := "Outcome") (m := "__len__") (cs := CS) (ex_at c.more 66 rfl) q_Outcome___len__
  have hP_Outcome_held := prK_of (c := "Outcome") (f := "held") (cs := CS) (ex_at c.more 20 rfl) (ex_at c.more 67 rfl) q_Outcome_held
  have hP_Outcome_left := prK_of (c := "Outcome") (f := "left") (cs := CS) (ex_at c.more 20 rfl) (ex_at c.more 68 rfl) q_Outcome_left
  have hP_Outcome_moved := prK_of (c := "Outcome") (f := "moved") (cs := CS) (ex_at c.more 20 rfl) (ex_at c.more 69 rfl) q_Outcome_moved
  have hP_Outcome_stop := prK_of (c := "Outcome") (f := "stop") (cs := CS) (ex_at c.more 20 rfl) (ex_at c.more 70 rfl) q_Outcome_stop
  have hM_Outcome___getitem__ := knM_of (c := "Outcome") (m := "__getitem__") (cs := CS) (ex_at c.more 71 rfl) q_Outcome___getitem__
  obtain ⟨fd48, f48⟩ := fun_at c 48
  have h__law_outcome_right := k__law_outcome_right (P := PP) (w := w) (base := base) B hM_Outcome___len__ hP_Outcome_held hP_Outcome_left hP_Outcome_moved hP_Outcome_ends hP_Outcome_stop hP_Outcome_rows h__law_same hM_Outcome___getitem__ (He5.fun_of f48) (He.glo_ok X G (c.d.fact 20 (f := .glo "_law_outcome_right") rfl))
  obtain ⟨fd49, f49⟩ := fun_at c 49
  have q_Table___setitem__ := k_Table___setitem__ (P := PP) (w := w) (base := base) B hM_Table___contains__ h_is_key (He5.fun_of f49)
  have hM_Table___add__ := knM_of (c := "Table") (m := "__add__") (cs := CS) (ex_at c.more 72 rfl) q_Table___add__
  have hS_Rule_named := knSm_of (c := "Rule") (m := "named") (cs := CS) (ex_at c.more 73 rfl) q_Rule_named
  have hCi___call__ : KnCs PP w mg base (TT K) 6 tbl___call__ := (knCs_cons (c := "Abort") (cs := CS) (ex_at c.more 77 rfl) q_Rule___call__ (fun _ hr => hr.less (by decide)) (knCs_cons (c := "Fail") (cs := CS) (ex_at c.more 76 rfl) q_Rule___call__ (fun _ hr => hr.less (by decide)) (knCs_cons (c := "Ignore") (cs := CS) (ex_at c.more 75 rfl) q_Rule___call__ (fun _ hr => hr.less (by decide)) (knCs_cons (c := "Replace") (cs := CS) (ex_at c.more 74 rfl) q_Rule___call__ (fun _ hr => hr.less (by decide)) knCs_nil))))
  have hM_Table___setitem__ := knM_of (c := "Table") (m := "__setitem__") (cs := CS) (ex_at c.more 78 rfl) q_Table___setitem__
  obtain ⟨fd50, f50⟩ := fun_at c 50
  have h_law := k_law (P := PP) (w := w) (base := base) B h__law_cell_at h__law_pen h__law_pairs h__law_pick hM_Table___add__ hT_Table hP_Table_rows h__law_rule hS_Rule_named h__law_mixed h__law_run hCi___call__ h__law_outcome_right hM_Table___setitem__ (He5.fun_of f50) (He.glo_ok X G (c.d.fact 21 (f := .glo "law") rfl))
  exact h_law
end Lw
namespace Lw
open L2 PySem.W Ma PySem.Spec PySem PyProof.Rows
end Lw
-- LACK getP_mem
namespace Lw
open L2 Ma PySem.Spec PySem PyProof.Rows
/-! RA -/
abbrev pen (a b c : Int) : Cell := .lst [.int a, .int b, .int c]
structure PenK (a b c : Int) : Prop where
  a0 : 0 ≤ a
  b0 : 0 ≤ b
  b1 : b < 2147483647
  c0 : 0 ≤ c
/-- one cell is a pen -/
def IsPen (c : Cell) : Prop := ∃ a b d, c = pen a b d ∧ PenK a b d
theorem draw_at {n : Nat} {m : Int} {hp : List Cell} {c0 : Cell} (h : hp[n]? = some c0) (p0 : IsPen c0) (hm : 0 < m) (hm2 : m < 1073741824) :
    ∃ d c', F__law_draw [.box n, .int m] hp = .ok (.int d) (hp.set n c') ∧ 0 ≤ d ∧ d < m ∧ IsPen c' := by
  obtain ⟨a, b, c, rfl, p⟩ := p0
  have hm3 : m < 18446744073709551616 := by omega
  obtain ⟨hn, hg⟩ := List.getElem?_eq_some_iff.mp h
  by_cases ha : 0 < a
  · refine ⟨a % m, pen (a / m) b c, ?_, Int.emod_nonneg _ (by omega), Int.emod_lt_of_pos _ hm, _, _, _, rfl, ⟨Int.ediv_nonneg p.a0 (by omega), p.b0, p.b1, p.c0⟩⟩
    simp [F__law_draw, m__law_draw, posF, bodyF, starF, sSeq, sIf, sSet, sRet, sNx, sAsg, sExpr, sForI, sPut, fPut, putFM, Ma.gSub, gSet, fSetL, fSetD, fSetI, dictL, dictOf, oIxD, m2, mv, mc, mB, isB, mNot, mAnd, mOr, mAndV, mNotV, mCons, mNil, mCall, mFn, upF, mLst, mTup, mFld, oFld, fldM, cInt, cLenD, cLen, cMax, oIx, seqL, lstOf, itemsOf, oInt, oGt, oLt, oAdd, oSub, oMul, oDivW, oMod, yes, Res.bind, atI, ixN, mYes, mAt, oPrp, isIns, noErr, mItems, iSeq, mChain, mNeg, oInD, oEqK, oEqD, datT, dat, datL, big, upP, pBl, pNot, pNat, pTru, cDun, oDunR, oDunC, oDunN, oDun, tin, tyAt, oDunBs, oDunRf, oMulL, cMin, oInL, oIsN, Ma.isNon, gUnpN, gTupN, setM, hg, ha, hm, hm2, hm3, hn]
  · have e1 : ∀ x y : Int, 0 < y → 0 ≤ x % y := fun x y hy => Int.emod_nonneg x (by omega)
    have e2 : ∀ x y : Int, 0 < y → x % y < y := fun x y hy => Int.emod_lt_of_pos x hy
    have b0 := e1 (b * 48271 + 7919 * (c + 1) + 11) 2147483647 (by decide)
    have b1 := e2 (b * 48271 + 7919 * (c + 1) + 11) 2147483647 (by decide)
    generalize hb : (b * 48271 + 7919 * (c + 1) + 11) % 2147483647 = b' at b0 b1
    have m1 : ∀ x : Int, mulOk x 48271 = true := fun x => decide_eq_true (Or.inr ⟨by decide, by decide⟩)
    have m2' : ∀ x : Int, mulOk x 16807 = true := fun x => decide_eq_true (Or.inr ⟨by decide, by decide⟩)
    have m3 : ∀ x : Int, mulOk 7919 x = true := fun x => decide_eq_true (Or.inl ⟨by decide, by decide⟩)
    have m4 : ∀ x : Int, mulOk 40014 x = true := fun x => decide_eq_true (Or.inl ⟨by decide, by decide⟩)
    have mo : mulOk b' b' = true := by unfold mulOk; exact decide_eq_true (Or.inl ⟨by omega, by omega⟩)
    refine ⟨((b' * b' + 40014 * b' + (c + 1)) % 2147483563 * 16807 % 2147483647 / 64) % m, pen a b' (c + 1), ?_, e1 _ _ hm, e2 _ _ hm, _, _, _, rfl, ⟨p.a0, b0, b1, by have := p.c0; omega⟩⟩
    simp [F__law_draw, m__law_draw, posF, bodyF, starF, sSeq, sIf, sSet, sRet, sNx, sAsg, sExpr, sForI, sPut, fPut, putFM, Ma.gSub, gSet, fSetL, fSetD, fSetI, dictL, dictOf, oIxD, m2, mv, mc, mB, isB, mNot, mAnd, mOr, mAndV, mNotV, mCons, mNil, mCall, mFn, upF, mLst, mTup, mFld, oFld, fldM, cInt, cLenD, cLen, cMax, oIx, seqL, lstOf, itemsOf, oInt, oGt, oLt, oAdd, oSub, oMul, oDivW, oMod, yes, Res.bind, atI, ixN, mYes, mAt, oPrp, isIns, noErr, mItems, iSeq, mChain, mNeg, oInD, oEqK, oEqD, datT, dat, datL, big, upP, pBl, pNot, pNat, pTru, cDun, oDunR, oDunC, oDunN, oDun, tin, tyAt, oDunBs, oDunRf, oMulL, cMin, oInL, oIsN, Ma.isNon, gUnpN, gTupN, setM, hg, ha, hm, hm2, hm3, hn, hb, m1, m2', m3, m4, mo]
theorem pick_at {n : Nat} {hp : List Cell} {ms : List M} {c0 : Cell} (h : hp[n]? = some c0) (p : IsPen c0) (h0 : 0 < ms.length) (h1 : (ms.length : Int) < 1073741824) :
    ∃ m c', m ∈ ms ∧ F__law_pick [.box n, .lst ms] hp = .ok m (hp.set n c') ∧ IsPen c' := by
  obtain ⟨d, c', e, d0, d1, p'⟩ := draw_at h p (m := (ms.length : Int)) (by omega) h1
  have hd : d.toNat < ms.length := by omega
  refine ⟨ms[d.toNat], c', List.getElem_mem hd, ?_, p'⟩
  simp [F__law_pick, m__law_pick, posF, bodyF, starF, sSeq, sIf, sSet, sRet, sNx, sAsg, sExpr, sForI, sPut, fPut, putFM, Ma.gSub, gSet, fSetL, fSetD, fSetI, dictL, dictOf, oIxD, m2, mv, mc, mB, isB, mNot, mAnd, mOr, mAndV, mNotV, mCons, mNil, mCall, mFn, upF, mLst, mTup, mFld, oFld, fldM, cInt, cLenD, cLen, cMax, oIx, seqL, lstOf, itemsOf, oInt, oGt, oLt, oAdd, oSub, oMul, oDivW, oMod, yes, Res.bind, atI, ixN, mYes, mAt, oPrp, isIns, noErr, mItems, iSeq, mChain, mNeg, oInD, oEqK, oEqD, datT, dat, datL, big, upP, pBl, pNot, pNat, pTru, cDun, oDunR, oDunC, oDunN, oDun, tin, tyAt, oDunBs, oDunRf, oMulL, cMin, oInL, oIsN, Ma.isNon, gUnpN, gTupN, setM, e, d0, d1, hd]
theorem pen_of (i : Int) : IsPen (pen (if i - 10 ^ 18 > 0 then i - 10 ^ 18 else 0) (i % 2147483629) 1) :=
  ⟨_, _, _, rfl, ⟨by split <;> omega, by omega, by omega, by omega⟩⟩
theorem pen_at {i : Int} {hp : List Cell} : F__law_pen [.int i] hp = .ok (.box hp.length) (hp ++ [pen (if i - 10 ^ 18 > 0 then i - 10 ^ 18 else 0) (i % 2147483629) 1]) := by kernel_rfl
/-! RB -/
def KB (i : Int) : Prop := -10 ^ 30 < i ∧ i < 10 ^ 30
def KP (p : IP) : Prop := KB p.1 ∧ KB p.2
theorem is_integer_at {i : Int} {hp : List Cell} : F_is_integer [.int i] hp = .ok (.bl true) hp := by kernel_rfl
theorem is_key_at {i : Int} {hp : List Cell} (h : KB i) : F_is_key [.int i] hp = .ok (.bl true) hp := by
  obtain ⟨h1, h2⟩ := h
  have z : (10 : Int) ^ 30 = 1000000000000000000000000000000 := by decide
  rw [z] at h1 h2
  simp [F_is_key, m_is_key, is_integer_at, posF, bodyF, starF, sSeq, sIf, sSet, sRet, sNx, sAsg, sExpr, sForI, sPut, fPut, putFM, Ma.gSub, gSet, fSetL, fSetD, fSetI, dictL, dictOf, oIxD, m2, mv, mc, mB, isB, mNot, mAnd, mOr, mAndV, mNotV, mCons, mNil, mCall, mFn, upF, mLst, mTup, mFld, oFld, fldM, cInt, cLenD, cLen, cMax, oIx, seqL, lstOf, itemsOf, oInt, oGt, oLt, oAdd, oSub, oMul, oDivW, oMod, yes, Res.bind, atI, ixN, mYes, mAt, oPrp, isIns, noErr, mItems, iSeq, mChain, mNeg, oInD, oEqK, oEqD, datT, dat, datL, big, upP, pBl, pNot, pNat, pTru, cDun, oDunR, oDunC, oDunN, oDun, tin, tyAt, oDunBs, oDunRf, oMulL, cMin, oInL, oIsN, Ma.isNon, gUnpN, gTupN, setM, h1, h2]
theorem is_pair_at {p : IP} {hp : List Cell} (h : KP p) : F_is_pair [pM p] hp = .ok (.bl true) hp := by
  have e : ∀ {s : MS}, cIsi IS XS isi [.tup [.int p.1, .int p.2], .ty "tuple"] s = .ok (.bl true) s := fun {s} => by kernel_rfl
  simp [F_is_pair, m_is_pair, is_key_at h.1, is_key_at h.2, pM, e, posF, bodyF, starF, sSeq, sIf, sSet, sRet, sNx, sAsg, sExpr, sForI, sPut, fPut, putFM, Ma.gSub, gSet, fSetL, fSetD, fSetI, dictL, dictOf, oIxD, m2, mv, mc, mB, isB, mNot, mAnd, mOr, mAndV, mNotV, mCons, mNil, mCall, mFn, upF, mLst, mTup, mFld, oFld, fldM, cInt, cLenD, cLen, cMax, oIx, seqL, lstOf, itemsOf, oInt, oGt, oLt, oAdd, oSub, oMul, oDivW, oMod, yes, Res.bind, atI, ixN, mYes, mAt, oPrp, isIns, noErr, mItems, iSeq, mChain, mNeg, oInD, oEqK, oEqD, datT, dat, datL, big, upP, pBl, pNot, pNat, pTru, cDun, oDunR, oDunC, oDunN, oDun, tin, tyAt, oDunBs, oDunRf, oMulL, cMin, oInL, oIsN, Ma.isNon, gUnpN, gTupN, setM, SeqAt.shaped, PyData.canLay0, PyData.depth, PyData.eqv]
/-- the rows of a table: keys, each once, at most 40 -/
structure Rows (ps : List IP) : Prop where
  kp : ∀ p ∈ ps, KP p
  nd : (keysP ps).Nodup
  le : ps.length ≤ 40
def seenM (ps : List IP) : List (Key × M) := ps.map fun p => (.inl p.1, .bl true)
theorem valG_seen (k : Int) (ps : List IP) (h : k ∉ keysP ps) : valG (seenM ps) (.inl k) = none := by
  unfold valG seenM
  rw [Option.map_eq_none_iff, List.find?_eq_none]
  intro x hx
  obtain ⟨p, hp, rfl⟩ := List.mem_map.mp hx
  simp only [decide_eq_true_eq]
  intro e
  exact h (List.mem_map.mpr ⟨p, hp, Sum.inl.inj e⟩)
theorem putG_seen (k : Int) (ps : List IP) (v : Int) (h : k ∉ keysP ps) : putG (seenM ps) (.inl k) (.bl true) = seenM (ps ++ [(k, v)]) := by
  unfold putG
  have e : ((seenM ps).any fun kv => decide (kv.1 = (.inl k : Key))) = false := by
    rw [List.any_eq_false]
    intro x hx
    obtain ⟨p, hp, rfl⟩ := List.mem_map.mp hx
    simp only [decide_eq_true_eq]
    intro e
    exact h (List.mem_map.mpr ⟨p, hp, Sum.inl.inj e⟩)
  rw [e, if_neg (by decide)]
  simp [seenM]
def crLoop : MStm := (sSeq (sIf (mB (m2 (oInD false (oInL false)) (mv 2) (mv 1))) (sRaiI "Twice" ["key"] [.inl "two rows have the key ", .inr 0] (mCons (mv 2) mNil)) sNx) (sAsg (mc (.bl true)) (gSub (mv 1) (mv 2) (fSetD fSetL))))
theorem cr_step {n : Nat} {ts : M} {o2 o3 : Option M} {p : IP} {ps : List IP} {hp : List Cell} (h : hp[n]? = some (.dK (seenM ps))) (hk : p.1 ∉ keysP ps) (hl : ps.length < 40) :
    ∃ s1 s2, gUnpN [2, 3] (pM p) ⟨[some ts, some (.box n), o2, o3, none], hp⟩ = .ok () s1 ∧ crLoop s1 = .ok .nx s2 ∧ s2 = ⟨[some ts, some (.box n), some (.int p.1), some (.int p.2), none], hp.set n (.dK (seenM (ps ++ [p])))⟩ := by
  refine ⟨⟨[some ts, some (.box n), some (.int p.1), some (.int p.2), none], hp⟩, _, by rfl, ?_, rfl⟩
  have e := valG_seen _ _ hk
  have e2 := putG_seen p.1 ps p.2 hk
  have e3 : (seenM ps).length < 16777216 := by unfold seenM; rw [List.length_map]; omega
  simp [crLoop, posF, bodyF, starF, sSeq, sIf, sSet, sRet, sNx, sAsg, sExpr, sForI, sPut, fPut, putFM, Ma.gSub, gSet, fSetL, fSetD, fSetI, dictL, dictOf, oIxD, m2, mv, mc, mB, isB, mNot, mAnd, mOr, mAndV, mNotV, mCons, mNil, mCall, mFn, upF, mLst, mTup, mFld, oFld, fldM, cInt, cLenD, cLen, cMax, oIx, seqL, lstOf, itemsOf, oInt, oGt, oLt, oAdd, oSub, oMul, oDivW, oMod, yes, Res.bind, atI, ixN, mYes, mAt, oPrp, isIns, noErr, mItems, iSeq, mChain, mNeg, oInD, oEqK, oEqD, datT, dat, datL, big, upP, pBl, pNot, pNat, pTru, cDun, oDunR, oDunC, oDunN, oDun, tin, tyAt, oDunBs, oDunRf, oMulL, cMin, oInL, oIsN, Ma.isNon, gUnpN, gTupN, setM, h, keyM, e, e2, e3]
theorem cr_loop {n : Nat} {ts : M} : ∀ {qs ps : List IP} {o2 o3 : Option M} {hp : List Cell}, hp[n]? = some (.dK (seenM ps)) → (keysP (ps ++ qs)).Nodup → ps.length + qs.length ≤ 40 →
    ∃ o2' o3', sFor (gUnpN [2, 3]) crLoop (rm qs) ⟨[some ts, some (.box n), o2, o3, none], hp⟩ = .ok .nx ⟨[some ts, some (.box n), o2', o3', none], hp.set n (.dK (seenM (ps ++ qs)))⟩
  | [], ps, o2, o3, hp, h, _, _ => by
    obtain ⟨hn, hg⟩ := List.getElem?_eq_some_iff.mp h
    refine ⟨o2, o3, ?_⟩
    show Res.ok _ _ = _
    rw [List.append_nil, ← hg, List.set_getElem_self]
  | q :: qs, ps, o2, o3, hp, h, hnd, hl => by
    obtain ⟨hn, hg⟩ := List.getElem?_eq_some_iff.mp h
    rw [List.length_cons] at hl
    have hq : q.1 ∉ keysP ps := by
      intro hm
      rw [keysP, List.map_append, List.nodup_append] at hnd
      exact hnd.2.2 q.1 hm q.1 (by simp) rfl
    obtain ⟨s1, s2, e1, e2, rfl⟩ := cr_step (ts := ts) (o2 := o2) (o3 := o3) h hq (by omega)
    have ea : ps ++ q :: qs = (ps ++ [q]) ++ qs := by simp
    rw [ea] at hnd ⊢
    obtain ⟨o2', o3', e3⟩ := cr_loop (n := n) (ts := ts) (qs := qs) (ps := ps ++ [q]) (o2 := some (.int q.1)) (o3 := some (.int q.2)) (hp := hp.set n (.dK (seenM (ps ++ [q])))) (by rw [List.getElem?_set_self hn]) hnd (by simp; omega)
    refine ⟨o2', o3', ?_⟩
    show sFor (gUnpN [2, 3]) crLoop (pM q :: rm qs) _ = _
    rw [sFor]; dsimp only; rw [e1]; show (crLoop s1).bind _ = _; rw [e2]
    rw [List.set_set] at e3
    exact e3
theorem check_rows_at {ps : List IP} {hp : List Cell} (R : Rows ps) : F_check_rows [.tup (rm ps)] hp = .ok .non (hp ++ [.dK (seenM ps)]) := by
  have e1 : mLc [4] (iSeq (mv 0)) (gSet 4) mYes (mFn (mCons (mv 4) mNil) F_is_pair) ⟨[some (.tup (rm ps)), none, none, none, none], hp⟩ = .ok (.lst ((rm ps).map fun _ => M.bl true)) ⟨[some (.tup (rm ps)), none, none, none, none], hp⟩ := by
    refine mlc_of (xs := rm ps) (f := fun _ => M.bl true) rfl (by rw [List.length_map]; exact Nat.le_trans R.le (by decide)) fun x hx => ?_
    obtain ⟨p, hp', rfl⟩ := List.mem_map.mp hx
    exact ⟨_, _, [some (.tup (rm ps)), none, none, none, some (pM p)], rfl, rfl, fn_of (ms := [pM p]) rfl (is_pair_at (R.kp p hp'))⟩
  have e2 : mCall (mCons (mLc [4] (iSeq (mv 0)) (gSet 4) mYes (mFn (mCons (mv 4) mNil) F_is_pair)) mNil) (cAll false) ⟨[some (.tup (rm ps)), none, none, none, none], hp⟩ = .ok (.bl true) ⟨[some (.tup (rm ps)), none, none, none, none], hp⟩ := by
    refine call_of (mone e1) ?_
    show (match blsOf ((rm ps).map fun _ => M.bl true) with | some bs => Res.ok (M.bl (bs.all id)) _ | none => Res.stuck) = _
    rw [blsOf_map (fun _ => true)]
    simp
  have e3 : (hp ++ [Cell.dK (seenM [])])[hp.length]? = some (.dK (seenM [])) := List.getElem?_concat_length
  obtain ⟨o2, o3, e4⟩ := cr_loop (n := hp.length) (ts := .tup (rm ps)) (qs := ps) (ps := []) (o2 := none) (o3 := none) e3 R.nd (by have := R.le; simpa using this)
  have e5 : (hp ++ [Cell.dK (seenM [])]).set hp.length (.dK (seenM ([] ++ ps))) = hp ++ [.dK (seenM ps)] := by simp
  rw [e5] at e4
  have e6 : ¬ ((rm ps).length : Int) > 40 := by rw [List.length_map]; have := R.le; omega
  have e7 : (sIf (mB (m2 oGt (mCall (mCons (mv 0) mNil) (cLenD cLen)) (mc (.int 40)))) (sRaiI "TooMany" ["many", "most"] [.inr 0, .inl " are too many, ", .inr 1, .inl " is the most"] (mCons (mCall (mCons (mv 0) mNil) (cLenD cLen)) (mCons (mc (.int 40)) mNil))) sNx) ⟨[some (.tup (rm ps)), some (.box hp.length), o2, o3, none], hp ++ [.dK (seenM ps)]⟩ = .ok .nx ⟨[some (.tup (rm ps)), some (.box hp.length), o2, o3, none], hp ++ [.dK (seenM ps)]⟩ := by
    refine (if_of (k := false) (b_of (m2_of (x := .int (rm ps).length) (y := .int 40) rfl rfl ?_))).trans rfl
    show Res.ok (M.bl (decide (((rm ps).length : Int) > 40))) _ = _
    rw [decide_eq_false e6]
  refine body_nx (s' := ⟨[some (.tup (rm ps)), some (.box hp.length), o2, o3, none], hp ++ [.dK (seenM ps)]⟩) ?_
  refine seq_of ((if_of (k := false) (not_of (b_of e2))).trans rfl) (seq_of (set_of (m := .box hp.length) rfl) (seq_of (for_of (xs := rm ps) rfl ?_) e7))
  exact e4
/-! RC -/
abbrev insT (d : Nat) : Cell := .ins "Table" [("_new_keys", .box d)]
structure TabAt (hp : List Cell) (n d : Nat) (T : List IP) : Prop where
  i : hp[n]? = some (insT d)
  d : hp[d]? = some (.dK (dm T))
theorem srtP_len (ps : List IP) : (srtP ps).length = ps.length := (srtP_perm ps).length_eq
theorem new_keys_at {ps : List IP} {hp : List Cell} (R : Rows ps) : F_new_keys [.tup (rm ps)] hp = .ok (.box (hp.length + 1)) (hp ++ [.dK (seenM ps), .dK (dm (srtP ps))]) := by
  have e1 : mCall (mCons (mv 0) mNil) cSort ⟨[some (.tup (rm ps)), none, none], hp ++ [.dK (seenM ps)]⟩ = .ok (.lst (rm (srtP ps))) ⟨[some (.tup (rm ps)), none, none], hp ++ [.dK (seenM ps)]⟩ := by
    refine call_of (mone (x := .tup (rm ps)) rfl) ?_
    show (match pairsOf (rm ps) with | some ps => Res.ok (M.lst ((srtP ps).map pM)) _ | none => Res.stuck) = _
    rw [pairsOf_rm]
  have e2 : mDc [1, 2] (iSeq (mCall (mCons (mv 0) mNil) cSort)) (gTupN [1, 2]) mYes (mv 1) (mv 2) ⟨[some (.tup (rm ps)), none, none], hp ++ [.dK (seenM ps)]⟩ =
      .ok (.box (hp.length + 1)) ⟨[some (.tup (rm ps)), none, none], hp ++ [.dK (seenM ps), .dK (dm (srtP ps))]⟩ := by
    unfold mDc
    have e3 : iSeq (mCall (mCons (mv 0) mNil) cSort) ⟨[some (.tup (rm ps)), none, none], hp ++ [.dK (seenM ps)]⟩ = .ok (rm (srtP ps)) ⟨[some (.tup (rm ps)), none, none], hp ++ [.dK (seenM ps)]⟩ := by
      unfold iSeq; rw [e1]; rfl
    rw [e3]
    show Res.bind (dcLoop [1, 2] (gTupN [1, 2]) mYes (mv 1) (mv 2) (rm (srtP ps)) (dm []) _) _ = _
    have hn : (keysP ([] ++ srtP ps)).Nodup := ((srtP_perm ps).map _).nodup_iff.mpr R.nd
    have e4 := dc_rows (vs := [1, 2]) (tg := gTupN [1, 2]) (tt := mYes) (kx := mv 1) (el := mv 2) (ps := srtP ps) (acc := []) (s := ⟨[some (.tup (rm ps)), none, none], hp ++ [.dK (seenM ps)]⟩) (by rw [srtP_len]; have := R.le; simp [big]; omega) hn
      (fun p _ => ⟨_, _, [some (.tup (rm ps)), some (.int p.1), some (.int p.2)], [some (.tup (rm ps)), some (.int p.1), some (.int p.2)], rfl, rfl, rfl, rfl⟩)
    rw [e4]
    show Res.ok _ _ = _
    simp
  refine body_rt (s' := ⟨[some (.tup (rm ps)), none, none], hp ++ [.dK (seenM ps), .dK (dm (srtP ps))]⟩) ?_
  refine seq_of (s1 := ⟨[some (.tup (rm ps)), none, none], hp ++ [.dK (seenM ps)]⟩) ?_ (ret_of e2)
  have e0 : mFn (mCons (mv 0) mNil) F_check_rows ⟨[some (.tup (rm ps)), none, none], hp⟩ = .ok .non ⟨[some (.tup (rm ps)), none, none], hp ++ [.dK (seenM ps)]⟩ := fn_of (ms := [.tup (rm ps)]) (mone rfl) (check_rows_at R)
  show sExpr _ ⟨[some (.tup (rm ps)), none, none], hp⟩ = _
  unfold sExpr
  rw [e0]
  rfl
theorem init_at {n : Nat} {ps : List IP} {hp : List Cell} (h : hp[n]? = some (.ins "Table" [])) (R : Rows ps) :
    F_Table___init__ (.box n :: rm ps) hp = .ok .non (hp.set n (insT (hp.length + 1)) ++ [.dK (seenM ps), .dK (dm (srtP ps))]) := by
  obtain ⟨hn, hg⟩ := List.getElem?_eq_some_iff.mp h
  have hl : 1 ≤ (M.box n :: rm ps).length ∧ (M.box n :: rm ps).length ≤ big := by
    rw [List.length_cons, List.length_map]
    have := R.le
    exact ⟨by omega, by simp [big]; omega⟩
  unfold F_Table___init__ starF
  rw [if_pos hl]
  refine body_nx (s' := ⟨[some (.box n), some (.tup (rm ps))], hp.set n (insT (hp.length + 1)) ++ [.dK (seenM ps), .dK (dm (srtP ps))]⟩) ?_
  show m_Table___init__ ⟨[some (.box n), some (.tup (rm ps))], hp⟩ = _
  unfold m_Table___init__ sPut
  have e1 : mFn (mCons (mv 1) mNil) F_new_keys ⟨[some (.box n), some (.tup (rm ps))], hp⟩ = .ok (.box (hp.length + 1)) ⟨[some (.box n), some (.tup (rm ps))], hp ++ [.dK (seenM ps), .dK (dm (srtP ps))]⟩ := fn_of (ms := [.tup (rm ps)]) (mone rfl) (new_keys_at R)
  rw [e1]
  have hg2 : (hp ++ [Cell.dK (seenM ps), .dK (dm (srtP ps))])[n]? = some (.ins "Table" []) := by rw [List.getElem?_append_left hn]; exact h
  show fPut "Table" "_new_keys" (.box n) (.box (hp.length + 1)) ⟨_, hp ++ [.dK (seenM ps), .dK (dm (srtP ps))]⟩ = _
  unfold fPut
  dsimp only
  rw [hg2]
  dsimp only
  rw [if_pos ⟨rfl, by decide⟩, List.set_append_left _ _ hn]
  rfl
abbrev mkCells (l : Nat) (ps : List IP) : List Cell := [insT (l + 2), .dK (seenM ps), .dK (dm (srtP ps))]
theorem mk_at {ps : List IP} {hp : List Cell} {env : List (Option M)} (R : Rows ps) : mkM "Table" F_Table___init__ (rm ps) ⟨env, hp⟩ = .ok (.box hp.length) ⟨env, hp ++ mkCells hp.length ps⟩ := by
  unfold mkM
  have e := init_at (n := hp.length) (ps := ps) (hp := hp ++ [.ins "Table" []]) (by simp) R
  dsimp only
  rw [e]
  simp [mkCells]
theorem mk_tab {ps : List IP} {hp : List Cell} : TabAt (hp ++ mkCells hp.length ps) hp.length (hp.length + 2) (srtP ps) := ⟨by simp, by simp⟩
theorem fld_at {n d : Nat} {T : List IP} {s : MS} (t : TabAt s.hp n d T) : oFld ["Table"] [] "_new_keys" (.box n) s = .ok (.box d) s := by
  unfold oFld fldM
  dsimp only
  rw [t.i]
  rfl
theorem isIns_at {n d : Nat} {T : List IP} {s : MS} (t : TabAt s.hp n d T) : isIns "Table" (.box n) s = true := by
  unfold isIns
  dsimp only
  rw [t.i]
  rfl
theorem dict_at {n d : Nat} {T : List IP} {hp : List Cell} (t : TabAt hp n d T) : dictOf hp (.box d) = some (dm T) := by
  unfold dictOf
  dsimp only
  rw [t.d]
theorem dictL_at' {n d : Nat} {T : List IP} {hp : List Cell} (t : TabAt hp n d T) : dictL hp (.box d) = some (dm T) := by
  unfold dictL
  dsimp only
  rw [t.d]
theorem rows_at {n d : Nat} {T : List IP} {hp : List Cell} (t : TabAt hp n d T) (hl : T.length ≤ 40) : F_Table_rows [.box n] hp = .ok (.tup (rm T)) hp := by
  refine body_rt (s' := ⟨[some (.box n)], hp⟩) (ret_of ?_)
  show mItems _ ⟨[some (.box n)], hp⟩ = _
  unfold mItems
  have e : mFld ["Table"] [] "_new_keys" (mv 0) ⟨[some (.box n)], hp⟩ = .ok (.box d) ⟨[some (.box n)], hp⟩ := by
    unfold mFld
    exact fld_at (s := ⟨[some (.box n)], hp⟩) t
  rw [e]
  show oItems (.box d) ⟨[some (.box n)], hp⟩ = _
  unfold oItems
  rw [show dictL (MS.hp ⟨[some (.box n)], hp⟩) (.box d) = some (dm T) from dictL_at' t]
  dsimp only
  rw [if_pos (by rw [List.length_map]; exact Nat.le_trans hl (by decide))]
  have e2 : itemsM (dm T) = rm T := by
    unfold itemsM dm rm
    rw [List.map_map]
    rfl
  rw [e2]
theorem self_rows {n d : Nat} {T : List IP} {s : MS} {env : List (Option M)} {i : Nat} (hs : s.env[i]? = some (some (.box n))) (t : TabAt s.hp n d T) (hl : T.length ≤ 40) : mAt (mv i) (oPrp "Table" F_Table_rows (fun _ _ => .stuck)) s = .ok (.tup (rm T)) s := by
  refine (at_of (mv_of hs)).trans ?_
  unfold oPrp
  rw [if_pos (isIns_at t), rows_at t hl]
  rfl
theorem rows_to_add_tup {ps : List IP} {hp : List Cell} : F_rows_to_add [.tup (rm ps)] hp = .ok (.tup (rm ps)) hp := by kernel_rfl
theorem add_at {n d : Nat} {qs : List IP} {hp : List Cell} (t : TabAt hp n d []) (R : Rows qs) : F_Table___add__ [.box n, .tup (rm qs)] hp = .ok (.box hp.length) (hp ++ mkCells hp.length qs) := by
  refine body_rt (s' := ⟨[some (.box n), some (.tup (rm qs)), some (.tup (rm qs))], hp ++ mkCells hp.length qs⟩) ?_
  refine seq_of (s1 := ⟨[some (.box n), some (.tup (rm qs)), some (.tup (rm qs))], hp⟩) ?_ (ret_of ?_)
  · refine set_of (m := .tup (rm qs)) (s1 := ⟨[some (.box n), some (.tup (rm qs)), none], hp⟩) (m2_of (x := .tup (rm [])) (y := .tup (rm qs)) (self_rows (d := d) (env := []) rfl t (by decide)) (fn_of (ms := [.tup (rm qs)]) (mone rfl) rows_to_add_tup) ?_)
    show (if ([] : List M).length + (rm qs).length ≤ big then Res.ok (M.tup ([] ++ rm qs)) _ else Res.stuck) = _
    rw [if_pos (by rw [List.length_map]; have := R.le; simp [big]; omega)]
    rfl
  · show mkM "Table" F_Table___init__ (rm qs) ⟨_, hp⟩ = _
    exact mk_at R
theorem contains_int {n d : Nat} {T : List IP} {i : Int} {hp : List Cell} (t : TabAt hp n d T) : F_Table___contains__ [.box n, .int i] hp = .ok (.bl (getP T i).isSome) hp := by
  refine body_rt (s' := ⟨[some (.box n), some (.int i)], hp⟩) (ret_of ?_)
  have e1 : mFn (mCons (mv 1) mNil) F_is_integer ⟨[some (.box n), some (.int i)], hp⟩ = .ok (.bl true) ⟨[some (.box n), some (.int i)], hp⟩ := fn_of (ms := [.int i]) (mone rfl) is_integer_at
  refine (andv_t e1).trans ?_
  refine m2_of (x := .int i) (y := .box d) (s2 := ⟨[some (.box n), some (.int i)], hp⟩) rfl (by unfold mFld; exact fld_at (s := ⟨[some (.box n), some (.int i)], hp⟩) t) ?_
  unfold oInD
  rw [show dictOf (MS.hp ⟨[some (.box n), some (.int i)], hp⟩) (.box d) = some (dm T) from dict_at t]
  show Res.ok (M.bl (valG (dm T) (.inl i)).isSome) _ = _
  rw [valG_dm, Option.isSome_map]
theorem isi_table {n d : Nat} {T : List IP} {s : MS} (t : TabAt s.hp n d T) : cIsi IS XS isi [.box n, .cls "Table"] s = .ok (.bl true) s := by
  have e : tgOf IS XS s.hp (.box n) = some (.own "Table") := by
    unfold tgOf
    dsimp only
    rw [t.i]
    rfl
  unfold cIsi
  dsimp only
  rw [e]
  rfl
/-! RG -/
theorem TabAt.app {hp ex : List Cell} {n d : Nat} {T : List IP} (h : TabAt hp n d T) : TabAt (hp ++ ex) n d T := by
  have g : ∀ {i : Nat} {c : Cell}, hp[i]? = some c → (hp ++ ex)[i]? = some c := fun {i c} e => by
    obtain ⟨hl, _⟩ := List.getElem?_eq_some_iff.mp e
    rw [List.getElem?_append_left hl]; exact e
  exact ⟨g h.i, g h.d⟩
theorem Rows.perm {ps qs : List IP} (R : Rows ps) (h : ps.Perm qs) : Rows qs := ⟨fun p hp => R.kp p (h.mem_iff.mpr hp), (h.map _).nodup_iff.mp R.nd, h.length_eq ▸ R.le⟩
theorem Rows.srt {ps : List IP} (R : Rows ps) : Rows (srtP ps) := R.perm (srtP_perm ps).symm
theorem Rows.sub {ps qs : List IP} (R : Rows ps) (h : qs.Sublist ps) : Rows qs := ⟨fun p hp => R.kp p (h.subset hp), (h.map _).nodup R.nd, Nat.le_trans h.length_le R.le⟩
theorem mkE_at {ps : List IP} {ma : MA} {s : MS} (R : Rows ps) (h : ma s = .ok (rm ps) s) : mMk "Table" F_Table___init__ ma s = .ok (.box s.hp.length) ⟨s.env, s.hp ++ mkCells s.hp.length ps⟩ := by
  unfold mMk
  rw [h]
  exact mk_at R
theorem rows_nil : Rows [] := ⟨fun p h => by simp at h, List.nodup_nil, Nat.zero_le _⟩
theorem tadd_of {qs : List IP} {e : ME} {env : List (Option M)} {hp h2 : List Cell} (R : Rows qs) (h : e ⟨env, hp ++ mkCells hp.length []⟩ = .ok (.tup (rm qs)) ⟨env, h2⟩) (t : TabAt h2 hp.length (hp.length + 2) []) :
    m2 (oDunB "Table" F_Table___add__ "tuple" oAdd) (mMk "Table" F_Table___init__ mNil) e ⟨env, hp⟩ = .ok (.box h2.length) ⟨env, h2 ++ mkCells h2.length qs⟩ := by
  refine m2_of (mkE_at (s := ⟨env, hp⟩) (ps := []) rows_nil rfl) h ?_
  unfold oDunB
  rw [if_pos (isIns_at (s := ⟨env, h2⟩) t)]
  show (if (some "tuple" == some "tuple") = true then _ else _) = _
  rw [if_pos (by decide), add_at t R]
  rfl
theorem ix_lst {ms : List M} {j : Nat} {m : M} {s : MS} (h : ms[j]? = some m) : oIxD oIx (.lst ms) (.int (j : Nat)) s = .ok m s := by
  obtain ⟨hl, e⟩ := List.getElem?_eq_some_iff.mp h
  have h1 : ((j : Nat) : Int) < ms.length := by omega
  simp [oIxD, dictOf, oIx, seqL, lstOf, atI, ixN, h1, h]
  try omega
/-! RI -/
def DatOk (m : M) : Prop := ∃ d, dat m = some d ∧ d.canLay0 = true ∧ d.depth ≤ 10
theorem datL_ok : ∀ {ms : List M}, (∀ m ∈ ms, DatOk m) → ∃ ds, datL ms = some ds ∧ PyData.canLayAll0 ds = true ∧ PyData.depthAll ds ≤ 10 ∧ ds.length = ms.length
  | [], _ => ⟨[], rfl, rfl, Nat.zero_le _, rfl⟩
  | m :: ms, h => by
    obtain ⟨d, h1, h2, h3⟩ := h m (by simp)
    obtain ⟨ds, e1, e2, e3, e4⟩ := datL_ok (ms := ms) fun x hx => h x (by simp [hx])
    refine ⟨d :: ds, ?_, ?_, ?_, by rw [List.length_cons, List.length_cons, e4]⟩
    · show (match dat m, datL ms with | some d, some ds => some (d :: ds) | _, _ => none) = _
      rw [h1, e1]
    · simp [PyData.canLayAll0, h2, e2]
    · simp only [PyData.depthAll]; omega
theorem dat_int (i : Int) : DatOk (.int i) := ⟨_, rfl, rfl, Nat.zero_le _⟩
abbrev hpX (hp : List Cell) (n : Nat) (c : Cell) (l f : List M) : List Cell := hp.set n c ++ [.lst l, .lst f]
section
variable {hp : List Cell} {n : Nat} {c c' : Cell} {l f : List M} (hn : n < hp.length)
theorem hpX_l : (hpX hp n c l f)[hp.length]? = some (.lst l) := by
  rw [List.getElem?_append_right (by simp)]; simp
theorem hpX_f : (hpX hp n c l f)[hp.length + 1]? = some (.lst f) := by
  rw [List.getElem?_append_right (by simp)]; simp
include hn in
theorem hpX_n : (hpX hp n c l f)[n]? = some c := by
  rw [List.getElem?_append_left (by simpa using hn), List.getElem?_set_self hn]
include hn in
theorem hpX_sn : (hpX hp n c l f).set n c' = hpX hp n c' l f := by
  rw [List.set_append_left _ _ (by simpa using hn), List.set_set]
theorem hpX_sl {l' : List M} : (hpX hp n c l f).set hp.length (.lst l') = hpX hp n c l' f := by
  rw [List.set_append_right _ _ (by simp)]; simp
theorem hpX_sf {f' : List M} : (hpX hp n c l f).set (hp.length + 1) (.lst f') = hpX hp n c l f' := by
  rw [List.set_append_right _ _ (by simp)]; simp
theorem hpX_dead : (hpX hp n c l f).set (hp.length + 1) .dead = hp.set n c ++ [.lst l, .dead] := by
  rw [List.set_append_right _ _ (by simp)]; simp
end
def lenB (i : Nat) : ME := (mCall (mCons (mv i) mNil) (cLenD cLen))
def mixT : MT := (mB (m2 (oEqK true (oEqD true)) (mv 2) (mLst mNil)))
def mixB : MStm := (sExpr (mAppend (mv 3) (mPopAt (mv 2) (mFn (mCons (mv 0) (mCons (lenB 2) mNil)) F__law_draw))))
theorem mixed_eq : m__law_mixed = (sSeq (sPar2 2 3 (mCons (mCall (mCons (mv 1) mNil) cListB) (mCons (mLstB mNil) mNil))) (sSeq (sWh mixT mixB 1000000) (sRet (mFrz (mv 3))))) := rfl
abbrev envX (n L : Nat) (ms : List M) : List (Option M) := [some (.box n), some (.lst ms), some (.box L), some (.box (L + 1))]
theorem lenB_at {i L : Nat} {l : List M} {s : MS} (h : s.env[i]? = some (some (.box L))) (hl : s.hp[L]? = some (.lst l)) : lenB i s = .ok (.int l.length) s := by
  refine call_of (mone (mv_of h)) ?_
  unfold cLenD
  dsimp only
  have e : dictOf s.hp (.box L) = none := by unfold dictOf; dsimp only; rw [hl]
  rw [e]
  unfold cLen
  dsimp only
  have e2 : seqL s.hp (.box L) = some l := by unfold seqL lstOf; dsimp only; rw [hl]
  rw [e2]
theorem mixT_at {hp : List Cell} {n : Nat} {c : Cell} {l f ms : List M} (h : ∀ m ∈ l, DatOk m) : mixT ⟨envX n hp.length ms, hpX hp n c l f⟩ = .ok (!l.isEmpty) ⟨envX n hp.length ms, hpX hp n c l f⟩ := by
  obtain ⟨ds, e1, e2, e3, e4⟩ := datL_ok h
  refine b_of (m2_of (x := .box hp.length) (y := .lst []) (s2 := ⟨envX n hp.length ms, hpX hp n c l f⟩) rfl rfl ?_)
  unfold oEqK
  have d1 : dictOf (hpX hp n c l f) (.box hp.length) = none := by unfold dictOf; dsimp only; rw [hpX_l]
  have d2 : dictOf (hpX hp n c l f) (.lst []) = none := rfl
  rw [show dictOf (MS.hp ⟨envX n hp.length ms, hpX hp n c l f⟩) (.box hp.length) = none from d1, show dictOf (MS.hp ⟨envX n hp.length ms, hpX hp n c l f⟩) (.lst []) = none from d2]
  dsimp only
  unfold oEqD
  have t1 : datT (hpX hp n c l f) (.box hp.length) = some (.list ds) := by
    unfold datT
    dsimp only
    have e : lstOf (hpX hp n c l f) (.box hp.length) = some l := by unfold lstOf; dsimp only; rw [hpX_l]
    rw [e]
    dsimp only
    rw [e1]; rfl
  rw [show datT (MS.hp ⟨envX n hp.length ms, hpX hp n c l f⟩) (.box hp.length) = some (.list ds) from t1, show datT (MS.hp ⟨envX n hp.length ms, hpX hp n c l f⟩) (.lst []) = some (.list []) from rfl]
  dsimp only
  have sh : (SeqAt.shaped (.list ds) && SeqAt.shaped (.list [])) = true := by
    have a : SeqAt.shaped (.list ds) = true := by
      unfold SeqAt.shaped
      rw [show PyData.canLay0 (.list ds) = true from e2, show PyData.depth (.list ds) = PyData.depthAll ds + 1 from rfl, decide_eq_true (by omega)]; rfl
    rw [a]; rfl
  rw [if_pos sh, if_pos rfl]
  cases l with
  | nil =>
    cases ds with
    | nil => rfl
    | cons _ _ => simp at e4
  | cons m l =>
    cases ds with
    | nil => simp at e4
    | cons d ds => simp [PyData.eqv, PyData.eqvAll]
theorem mixB_at {hp : List Cell} {n : Nat} {c : Cell} {l f ms : List M} (hn : n < hp.length) (p : IsPen c) (h0 : 0 < l.length) (h1 : l.length ≤ 1000) (hf : f.length ≤ 1000) :
    ∃ (d : Nat) (m : M) (c' : Cell), IsPen c' ∧ l[d]? = some m ∧ mixB ⟨envX n hp.length ms, hpX hp n c l f⟩ = .ok .nx ⟨envX n hp.length ms, hpX hp n c' (l.eraseIdx d) (f ++ [m])⟩ := by
  obtain ⟨d, c', e, d0, d1, p'⟩ := draw_at (m := (l.length : Int)) (hpX_n (c := c) (l := l) (f := f) hn) p (by omega) (by omega)
  rw [hpX_sn hn] at e
  have hd : d.toNat < l.length := by omega
  have e1 : mFn (mCons (mv 0) (mCons (lenB 2) mNil)) F__law_draw ⟨envX n hp.length ms, hpX hp n c l f⟩ = .ok (.int d) ⟨envX n hp.length ms, hpX hp n c' l f⟩ :=
    fn_of (mcons_of rfl (mone (lenB_at rfl hpX_l))) e
  have e2 : mPopAt (mv 2) (mFn (mCons (mv 0) (mCons (lenB 2) mNil)) F__law_draw) ⟨envX n hp.length ms, hpX hp n c l f⟩ = .ok (l[d.toNat]) ⟨envX n hp.length ms, hpX hp n c' (l.eraseIdx d.toNat) f⟩ := by
    unfold mPopAt mMeth
    show (if isBoxL (.box hp.length) ⟨envX n hp.length ms, hpX hp n c l f⟩ = true then Res.bind (mCons (mFn (mCons (mv 0) (mCons (lenB 2) mNil)) F__law_draw) mNil ⟨envX n hp.length ms, hpX hp n c l f⟩) (fun ms s2 => fPopAt (.box hp.length) ms s2) else Res.stuck) = _
    have b : isBoxL (.box hp.length) ⟨envX n hp.length ms, hpX hp n c l f⟩ = true := by unfold isBoxL; dsimp only; rw [hpX_l]
    rw [if_pos b, mone e1]
    show fPopAt (.box hp.length) [.int d] ⟨envX n hp.length ms, hpX hp n c' l f⟩ = _
    unfold fPopAt
    dsimp only
    rw [hpX_l]
    dsimp only
    rw [if_pos ⟨d0, by omega⟩, List.getElem?_eq_getElem hd]
    dsimp only
    rw [hpX_sl]
  refine ⟨d.toNat, l[d.toNat], c', p', List.getElem?_eq_getElem hd, ?_⟩
  have e3 : mAppend (mv 3) (mPopAt (mv 2) (mFn (mCons (mv 0) (mCons (lenB 2) mNil)) F__law_draw)) ⟨envX n hp.length ms, hpX hp n c l f⟩ = .ok .non ⟨envX n hp.length ms, hpX hp n c' (l.eraseIdx d.toNat) (f ++ [l[d.toNat]])⟩ := by
    unfold mAppend mMeth
    show (if isBoxL (.box (hp.length + 1)) ⟨envX n hp.length ms, hpX hp n c l f⟩ = true then Res.bind (mCons (mPopAt (mv 2) (mFn (mCons (mv 0) (mCons (lenB 2) mNil)) F__law_draw)) mNil ⟨envX n hp.length ms, hpX hp n c l f⟩) (fun ms s2 => fAppend (.box (hp.length + 1)) ms s2) else Res.stuck) = _
    have b : isBoxL (.box (hp.length + 1)) ⟨envX n hp.length ms, hpX hp n c l f⟩ = true := by unfold isBoxL; dsimp only; rw [hpX_f]
    rw [if_pos b, mone e2]
    show fAppend (.box (hp.length + 1)) [l[d.toNat]] ⟨envX n hp.length ms, hpX hp n c' (l.eraseIdx d.toNat) f⟩ = _
    unfold fAppend
    dsimp only
    rw [hpX_f]
    dsimp only
    rw [if_pos (Nat.lt_of_le_of_lt hf (by decide)), hpX_sf]
  unfold mixB sExpr
  rw [e3]
  rfl
theorem erase_perm {α : Type} : ∀ {l : List α} {d : Nat} {m : α}, l[d]? = some m → l.Perm (m :: l.eraseIdx d)
  | [], _, _, h => by simp at h
  | x :: l, 0, m, h => by simp at h; subst h; exact List.Perm.refl _
  | x :: l, d + 1, m, h => by
    have h : l[d]? = some m := by simpa using h
    exact ((erase_perm h).cons x).trans (List.Perm.swap m x _)
theorem mixed_at {hp : List Cell} {n : Nat} {c : Cell} {ms : List M} (hc : hp[n]? = some c) (p : IsPen c) (hm : ∀ m ∈ ms, DatOk m) (hl : ms.length ≤ 500) :
    ∃ ms' c', ms'.Perm ms ∧ IsPen c' ∧ F__law_mixed [.box n, .lst ms] hp = .ok (.lst ms') (hp.set n c' ++ [.lst [], .dead]) := by
  obtain ⟨hn, hg⟩ := List.getElem?_eq_some_iff.mp hc
  let I : Nat → MS → Prop := fun k s => ∃ l f c', s = ⟨envX n hp.length ms, hpX hp n c' l f⟩ ∧ IsPen c' ∧ l.length = k ∧ (l ++ f).Perm ms
  have step : ∀ k s, I (k + 1) s → ∃ s1 s2, mixT s = .ok true s1 ∧ mixB s1 = .ok .nx s2 ∧ I k s2 := by
    rintro k s ⟨l, f, c', rfl, pc, hk, hp'⟩
    have hlen := hp'.length_eq
    rw [List.length_append] at hlen
    have hda : ∀ m ∈ l, DatOk m := fun m hm' => hm m (hp'.mem_iff.mp (by simp [hm']))
    obtain ⟨d, m, c2, p2, hd, e⟩ := mixB_at (ms := ms) (f := f) hn pc (l := l) (by omega) (by omega) (by omega)
    refine ⟨_, _, (mixT_at hda).trans ?_, e, l.eraseIdx d, f ++ [m], c2, rfl, p2, ?_, ?_⟩
    · cases l with
      | nil => simp at hk
      | cons _ _ => rfl
    · have := (erase_perm hd).length_eq
      rw [List.length_cons] at this; omega
    · refine List.Perm.trans ?_ hp'
      have q1 : (l.eraseIdx d ++ (f ++ [m])).Perm (m :: (l.eraseIdx d ++ f)) := by
        rw [← List.append_assoc]
        exact List.perm_append_comm (l₁ := l.eraseIdx d ++ f) (l₂ := [m])
      exact q1.trans ((erase_perm hd).symm.append_right f)
  have stop : ∀ s, I 0 s → mixT s = .ok false s := by
    rintro s ⟨l, f, c', rfl, pc, hk, hp'⟩
    have : l = [] := List.length_eq_zero_iff.mp hk
    subst this
    exact mixT_at fun m hm => by simp at hm
  have i0 : I ms.length ⟨envX n hp.length ms, hpX hp n c ms []⟩ := ⟨ms, [], c, rfl, p, rfl, by simp⟩
  obtain ⟨s', e, l, f, c', rfl, pc, hk, hp'⟩ := wh_inv I step stop (fuel := 1000000) i0 (by omega)
  have : l = [] := List.length_eq_zero_iff.mp hk
  subst this
  refine ⟨f, c', hp', pc, body_rt (s' := ⟨envX n hp.length ms, hp.set n c' ++ [Cell.lst [], Cell.dead]⟩) ?_⟩
  rw [mixed_eq]
  refine seq_of (s1 := ⟨envX n hp.length ms, hpX hp n c ms []⟩) ?_ (seq_of e (ret_of ?_))
  · have e0 : hp.set n c = hp := by rw [← hg, List.set_getElem_self]
    unfold hpX
    rw [e0]
    unfold sPar2
    have a1 : mCall (mCons (mv 1) mNil) cListB ⟨[some (.box n), some (.lst ms), none, none], hp⟩ = .ok (.box hp.length) ⟨[some (.box n), some (.lst ms), none, none], hp ++ [.lst ms]⟩ := call_of (mone rfl) rfl
    have a2 : mLstB mNil ⟨[some (.box n), some (.lst ms), none, none], hp ++ [.lst ms]⟩ = .ok (.box (hp.length + 1)) ⟨[some (.box n), some (.lst ms), none, none], hp ++ [.lst ms] ++ [.lst []]⟩ := by
      unfold mLstB
      show Res.ok (M.box (hp ++ [Cell.lst ms]).length) _ = _
      rw [List.length_append]
      rfl
    have a3 := mcons_of a1 (mone a2)
    show Res.bind (mCons (mCall (mCons (mv 1) mNil) cListB) (mCons (mLstB mNil) mNil) ⟨[some (.box n), some (.lst ms), none, none], hp⟩) _ = _
    rw [a3, List.append_assoc]
    rfl
  · unfold mFrz
    show frz (.box (hp.length + 1)) ⟨envX n hp.length ms, hpX hp n c' [] f⟩ = _
    unfold frz
    dsimp only
    rw [hpX_f]
    dsimp only
    rw [hpX_dead]
/-! RJ -/
abbrev hpY (B : List Cell) (n : Nat) (c : Cell) (P : List M) : List Cell := B.set n c ++ [Cell.lst P]
section
variable {B : List Cell} {n : Nat} {c c' : Cell} {P : List M} (hn : n < B.length)
theorem hpY_p : (hpY B n c P)[B.length]? = some (.lst P) := by
  rw [List.getElem?_append_right (by simp)]; simp
include hn in
theorem hpY_n : (hpY B n c P)[n]? = some c := by
  rw [List.getElem?_append_left (by simpa using hn), List.getElem?_set_self hn]
include hn in
theorem hpY_sn : (hpY B n c P).set n c' = hpY B n c' P := by
  rw [List.set_append_left _ _ (by simpa using hn), List.set_set]
theorem hpY_sp {P' : List M} : (hpY B n c P).set B.length (.lst P') = hpY B n c P' := by
  rw [List.set_append_right _ _ (by simp)]; simp
theorem hpY_dead : (hpY B n c P).set B.length .dead = B.set n c ++ [Cell.dead] := by
  rw [List.set_append_right _ _ (by simp)]; simp
end
theorem eq_int {i j : Int} {s : MS} : oEqK false (oEqD false) (.int i) (.int j) s = .ok (.bl (i == j)) s := by rfl
/-- draw, in a row -/
theorem drawE {B : List Cell} {n : Nat} {c : Cell} {P : List M} {env : List (Option M)} {m : Int} (hn : n < B.length) (p : IsPen c) (h0 : env[0]? = some (some (.box n))) (hm : 0 < m) (hm2 : m < 1073741824) :
    ∃ d c', mFn (mCons (mv 0) (mCons (mc (.int m)) mNil)) F__law_draw ⟨env, hpY B n c P⟩ = .ok (.int d) ⟨env, hpY B n c' P⟩ ∧ 0 ≤ d ∧ d < m ∧ IsPen c' := by
  obtain ⟨d, c', e, d0, d1, p'⟩ := draw_at (m := m) (hpY_n (c := c) (P := P) hn) p hm hm2
  rw [hpY_sn hn] at e
  exact ⟨d, c', fn_of (mcons_of (mv_of h0) (mone rfl)) e, d0, d1, p'⟩
/-- pick, of ints -/
theorem pickE {B : List Cell} {n : Nat} {c c1 : Cell} {P : List M} {env : List (Option M)} {a : ME} {js : List Int} (hn : n < B.length) (p : IsPen c1) (h0 : env[0]? = some (some (.box n))) (ha : a ⟨env, hpY B n c P⟩ = .ok (.lst (js.map M.int)) ⟨env, hpY B n c1 P⟩) (hj : 0 < js.length) (hj2 : js.length < 1000) :
    ∃ d c', mFn (mCons (mv 0) (mCons a mNil)) F__law_pick ⟨env, hpY B n c P⟩ = .ok (.int d) ⟨env, hpY B n c' P⟩ ∧ d ∈ js ∧ IsPen c' := by
  obtain ⟨m, c', hm, e, p'⟩ := pick_at (ms := js.map M.int) (hpY_n (c := c1) (P := P) hn) p (by simpa using hj) (by rw [List.length_map]; omega)
  obtain ⟨d, hd, rfl⟩ := List.mem_map.mp hm
  rw [hpY_sn hn] at e
  exact ⟨d, c', fn_of (mcons_of (mv_of h0) (mone ha)) e, hd, p'⟩
theorem lst_add {xs ys : List Int} {s : MS} (h : xs.length + ys.length ≤ 1000) : oAdd (.lst (xs.map M.int)) (.lst (ys.map M.int)) s = .ok (.lst ((xs ++ ys).map M.int)) s := by
  show (if (xs.map M.int).length + (ys.map M.int).length ≤ big then Res.ok (M.lst (xs.map M.int ++ ys.map M.int)) s else Res.stuck) = _
  rw [if_pos (by rw [List.length_map, List.length_map]; exact Nat.le_trans h (by decide)), List.map_append]
theorem cut_hi {js : List Int} {k : Nat} : cutM (js.map M.int) none (some (k : Nat)) = (js.take k).map M.int := by
  unfold cutM
  rw [HT.sIx_none, HT.sIx_nat, List.drop_zero, Nat.sub_zero, List.map_take, List.length_map]
  by_cases h : k ≤ js.length
  · rw [Nat.min_eq_left h]
  · rw [Nat.min_eq_right (by omega), List.take_of_length_le (by simp), List.take_of_length_le (by simp; omega)]
theorem cut_lo {js : List Int} {k : Nat} : cutM (js.map M.int) (some (k : Nat)) none = (js.drop k).map M.int := by
  unfold cutM
  rw [HT.sIx_none, HT.sIx_nat, List.map_drop, List.length_map]
  by_cases h : k ≤ js.length
  · rw [Nat.min_eq_left h, List.take_of_length_le (by simp)]
  · rw [Nat.min_eq_right (by omega)]
    rw [List.drop_of_length_le (l := js.map M.int) (i := k) (by simp; omega), List.drop_of_length_le (by simp)]
    simp
theorem sl_hi {a b : ME} {js : List Int} {k : Nat} {s : MS} (ha : a s = .ok (.lst (js.map M.int)) s) (hb : b s = .ok (.int (k : Nat)) s) : mSl a oNo (oSome b) s = .ok (.lst ((js.take k).map M.int)) s := by
  rw [← cut_hi]
  unfold mSl
  rw [ha]
  show Res.bind (oSome b s) _ = _
  unfold oSome
  rw [hb]
  rfl
theorem sl_lo {a b : ME} {js : List Int} {k : Nat} {s : MS} (ha : a s = .ok (.lst (js.map M.int)) s) (hb : b s = .ok (.int (k : Nat)) s) : mSl a (oSome b) oNo s = .ok (.lst ((js.drop k).map M.int)) s := by
  rw [← cut_lo]
  unfold mSl
  rw [ha]
  show Res.bind (oSome b s) _ = _
  unfold oSome
  rw [hb]
  rfl
theorem map_inv {l : List M} {ks : List Int} (h : l.Perm (ks.map M.int)) : ∃ l' : List Int, l = l'.map M.int ∧ l'.Perm ks := by
  let g : M → Int := fun m => match m with | .int i => i | _ => 0
  refine ⟨l.map g, ?_, ?_⟩
  · rw [List.map_map]
    conv => lhs; rw [← List.map_id l]
    refine List.map_congr_left fun m hm => ?_
    obtain ⟨i, _, rfl⟩ := List.mem_map.mp (h.mem_iff.mp hm)
    rfl
  · have e := h.map g
    rw [List.map_map] at e
    have e2 : ks.map (g ∘ M.int) = ks := by
      conv => rhs; rw [← List.map_id ks]
      exact List.map_congr_left fun i _ => rfl
    rwa [e2] at e
theorem ix_int {js : List Int} {j : Nat} {s : MS} (h : j < js.length) : oIxD oIx (.lst (js.map M.int)) (.int (j : Nat)) s = .ok (.int js[j]) s :=
  ix_lst (by rw [List.getElem?_map, List.getElem?_eq_getElem h]; rfl)
abbrev envP (mx : Int) (n L : Nat) (m sc sh wy : Int) (js ks fs ts : List Int) (at_ key : Int) (to : Option M) : List (Option M) := [some (.box n), some (.int mx), some (.int m), some (.lst (js.map M.int)), some (.box L), some (.int sc), some (.int sh), some (.int wy), some (.lst (ks.map M.int)), some (.lst (fs.map M.int)), some (.lst (ts.map M.int)), some (.int at_), some (.int key), to]
structure PC (js ks fs ts : List Int) : Prop where
  e : js = ks ++ fs
  t : ts.Perm ks
  f : 2 ≤ fs.length
  k : ks.length ≤ 40
  l : js.length ≤ 100
def way (k : Int) : MT := (mB (m2 (oEqK false (oEqD false)) (mv 7) (mc (.int k))))
def drawM (k : Int) : ME := (mFn (mCons (mv 0) (mCons (mc (.int k)) mNil)) F__law_draw)
def pickM (a : ME) : ME := (mFn (mCons (mv 0) (mCons a mNil)) F__law_pick)
def q0 : MStm := (sSet 13 (pickM (mLst (mCons (pickM (mv 3)) (mCons (pickM (mv 9)) (mCons (mv 12) (mCons (pickM (mv 8)) mNil)))))))
def q1 : MStm := (sIf (way 1) (sSet 13 (m2 (oIxD oIx) (mv 10) (mv 11))) sNx)
def q2 : MStm := (sIf (mAnd (way 2) (mB (m2 oGt (drawM 8) (mc (.int 0))))) (sSet 13 (m2 (oIxD oIx) (m2 oAdd (mv 8) (mv 9)) (m2 oAdd (mv 11) (mc (.int 1))))) sNx)
def q3 : MStm := (sIf (way 3) (sSet 13 (m2 (oIxD oIx) (m2 oAdd (mv 8) (mv 9)) (m2 oSub (m2 oAdd (mv 11) (mc (.int 1))) (m2 oMul (drawM 2) (mv 11))))) sNx)
def q4 : MStm := (sIf (way 4) (sSet 13 (m2 (oIxD oIx) (m2 oAdd (mSl (mv 9) oNo (oSome (mc (.int 1)))) (mv 8)) (mCall (mCons (mc (.int 0)) (mCons (m2 oSub (mv 11) (drawM 4)) mNil)) cMax))) sNx)
def q5 : MStm := (sIf (mAnd (way 5) (mB (m2 oGt (mv 11) (mc (.int 0))))) (sSet 13 (pickM (m2 oAdd (mSl (mv 8) oNo (oSome (mv 11))) (mSl (mv 9) oNo (oSome (mc (.int 2))))))) sNx)
def q6 : MStm := (sExpr (mAppend (mv 4) (mTup (mCons (m2 oMul (m2 oSub (mv 12) (mv 6)) (mv 5)) (mCons (m2 oMul (m2 oSub (mv 13) (mv 6)) (mv 5)) mNil)))))
def pairB : MStm := sSeq q0 (sSeq q1 (sSeq q2 (sSeq q3 (sSeq q4 (sSeq q5 q6)))))
section
variable {mx : Int} {B : List Cell} {n L : Nat} {c : Cell} {P : List M} {m sc sh wy key to : Int} {js ks fs ts : List Int} {at_ : Nat} (hn : n < B.length) (C : PC js ks fs ts) (ha : at_ < ks.length) (hk : key ∈ js) (p : IsPen c)
include C in
theorem PC.len : js.length = ks.length + fs.length := by rw [C.e, List.length_append]
include hn C ha hk p in
theorem q0_at {o : Option M} : ∃ to' c', q0 ⟨envP mx n L m sc sh wy js ks fs ts at_ key o, hpY B n c P⟩ = .ok .nx ⟨envP mx n L m sc sh wy js ks fs ts at_ key (some (.int to')), hpY B n c' P⟩ ∧ to' ∈ js ∧ IsPen c' := by
  have l0 := C.len; have l1 := C.l; have l2 := C.f
  obtain ⟨d1, c1, e1, m1, p1⟩ := pickE (env := envP mx n L m sc sh wy js ks fs ts at_ key o) (a := mv 3) (js := js) (P := P) hn p rfl rfl (by omega) (by omega)
  obtain ⟨d2, c2, e2, m2, p2⟩ := pickE (env := envP mx n L m sc sh wy js ks fs ts at_ key o) (a := mv 9) (js := fs) (P := P) hn p1 rfl rfl (by omega) (by omega)
  obtain ⟨d3, c3, e3, m3, p3⟩ := pickE (env := envP mx n L m sc sh wy js ks fs ts at_ key o) (a := mv 8) (js := ks) (P := P) hn p2 rfl rfl (by omega) (by omega)
  have el : mLst (mCons (pickM (mv 3)) (mCons (pickM (mv 9)) (mCons (mv 12) (mCons (pickM (mv 8)) mNil)))) ⟨envP mx n L m sc sh wy js ks fs ts at_ key o, hpY B n c P⟩ = .ok (.lst ([d1, d2, key, d3].map M.int)) ⟨envP mx n L m sc sh wy js ks fs ts at_ key o, hpY B n c3 P⟩ :=
    mlst_of (mcons_of e1 (mcons_of e2 (mcons_of rfl (mone e3)))) (show 4 ≤ 16777216 by decide)
  obtain ⟨d4, c4, e4, m4, p4⟩ := pickE hn p3 rfl el (show 0 < 4 by decide) (show 4 < 1000 by decide)
  refine ⟨d4, c4, set_of e4, ?_, p4⟩
  simp only [List.mem_cons, List.not_mem_nil, or_false] at m4
  rcases m4 with rfl | rfl | rfl | rfl
  · exact m1
  · rw [C.e]; exact List.mem_append_right _ m2
  · exact hk
  · rw [C.e]; exact List.mem_append_left _ m3
include C ha in
theorem q1_at (ht : to ∈ js) : ∃ to', q1 ⟨envP mx n L m sc sh wy js ks fs ts at_ key (some (.int to)), hpY B n c P⟩ = .ok .nx ⟨envP mx n L m sc sh wy js ks fs ts at_ key (some (.int to')), hpY B n c P⟩ ∧ to' ∈ js := by
  have e : way 1 ⟨envP mx n L m sc sh wy js ks fs ts at_ key (some (.int to)), hpY B n c P⟩ = .ok (wy == 1) ⟨envP mx n L m sc sh wy js ks fs ts at_ key (some (.int to)), hpY B n c P⟩ := b_of (m2_of rfl rfl eq_int)
  cases h : wy == 1 with
  | false => rw [h] at e; exact ⟨to, (if_of e).trans rfl, ht⟩
  | true =>
    rw [h] at e
    have hl : at_ < ts.length := by rw [C.t.length_eq]; exact ha
    refine ⟨ts[at_], (if_of e).trans (set_of (m2_of rfl rfl (ix_int hl))), ?_⟩
    rw [C.e]
    exact List.mem_append_left _ (C.t.mem_iff.mp (List.getElem_mem hl))
theorem add_all (C : PC js ks fs ts) {s : MS} (h8 : s.env[8]? = some (some (.lst (ks.map M.int)))) (h9 : s.env[9]? = some (some (.lst (fs.map M.int)))) : m2 oAdd (mv 8) (mv 9) s = .ok (.lst (js.map M.int)) s := by
  have l0 := C.len; have l1 := C.l
  refine m2_of (mv_of h8) (mv_of h9) ?_
  rw [lst_add (by omega), ← C.e]
include hn C ha p in
theorem q2_at (ht : to ∈ js) : ∃ to' c', q2 ⟨envP mx n L m sc sh wy js ks fs ts at_ key (some (.int to)), hpY B n c P⟩ = .ok .nx ⟨envP mx n L m sc sh wy js ks fs ts at_ key (some (.int to')), hpY B n c' P⟩ ∧ to' ∈ js ∧ IsPen c' := by
  have l0 := C.len; have l2 := C.f
  have e : way 2 ⟨envP mx n L m sc sh wy js ks fs ts at_ key (some (.int to)), hpY B n c P⟩ = .ok (wy == 2) ⟨envP mx n L m sc sh wy js ks fs ts at_ key (some (.int to)), hpY B n c P⟩ := b_of (m2_of rfl rfl eq_int)
  cases h : wy == 2 with
  | false => rw [h] at e; exact ⟨to, c, (if_of (and_f e)).trans rfl, ht, p⟩
  | true =>
    rw [h] at e
    obtain ⟨d, c', ed, d0, d1, p'⟩ := drawE (P := P) (m := 8) (env := envP mx n L m sc sh wy js ks fs ts at_ key (some (.int to))) hn p rfl (by decide) (by decide)
    have e2 : mAnd (way 2) (mB (m2 oGt (drawM 8) (mc (.int 0)))) ⟨envP mx n L m sc sh wy js ks fs ts at_ key (some (.int to)), hpY B n c P⟩ = .ok (decide (0 < d)) ⟨envP mx n L m sc sh wy js ks fs ts at_ key (some (.int to)), hpY B n c' P⟩ :=
      (and_t e).trans (b_of (m2_of ed rfl rfl))
    cases hd : decide (0 < d) with
    | false => rw [hd] at e2; exact ⟨to, c', (if_of e2).trans rfl, ht, p'⟩
    | true =>
      rw [hd] at e2
      have hl : at_ + 1 < js.length := by omega
      have ei : m2 oAdd (mv 11) (mc (.int 1)) ⟨envP mx n L m sc sh wy js ks fs ts at_ key (some (.int to)), hpY B n c' P⟩ = .ok (.int ((at_ + 1 : Nat) : Int)) ⟨envP mx n L m sc sh wy js ks fs ts at_ key (some (.int to)), hpY B n c' P⟩ := m2_of (x := .int at_) (y := .int 1) rfl rfl rfl
      exact ⟨js[at_ + 1], c', (if_of e2).trans (set_of (m2_of (add_all C rfl rfl) ei (ix_int hl))), List.getElem_mem hl, p'⟩
include hn C ha p in
theorem q3_at (ht : to ∈ js) : ∃ to' c', q3 ⟨envP mx n L m sc sh wy js ks fs ts at_ key (some (.int to)), hpY B n c P⟩ = .ok .nx ⟨envP mx n L m sc sh wy js ks fs ts at_ key (some (.int to')), hpY B n c' P⟩ ∧ to' ∈ js ∧ IsPen c' := by
  have l0 := C.len; have l2 := C.f
  have e : way 3 ⟨envP mx n L m sc sh wy js ks fs ts at_ key (some (.int to)), hpY B n c P⟩ = .ok (wy == 3) ⟨envP mx n L m sc sh wy js ks fs ts at_ key (some (.int to)), hpY B n c P⟩ := b_of (m2_of rfl rfl eq_int)
  cases h : wy == 3 with
  | false => rw [h] at e; exact ⟨to, c, (if_of e).trans rfl, ht, p⟩
  | true =>
    rw [h] at e
    obtain ⟨d, c', ed, d0, d1, p'⟩ := drawE (P := P) (m := 2) (env := envP mx n L m sc sh wy js ks fs ts at_ key (some (.int to))) hn p rfl (by decide) (by decide)
    have mo : mulOk d at_ = true := decide_eq_true (Or.inl ⟨by omega, by omega⟩)
    have e1 : m2 oMul (drawM 2) (mv 11) ⟨envP mx n L m sc sh wy js ks fs ts at_ key (some (.int to)), hpY B n c P⟩ = .ok (.int (d * at_)) ⟨envP mx n L m sc sh wy js ks fs ts at_ key (some (.int to)), hpY B n c' P⟩ := by
      refine m2_of ed rfl ?_
      unfold oMul oInt
      dsimp only
      rw [if_pos mo]
    obtain ⟨i, hi, hil⟩ : ∃ i : Nat, ((at_ : Int) + 1) - d * at_ = (i : Int) ∧ i < js.length := by
      rcases (show d = 0 ∨ d = 1 by omega) with rfl | rfl
      · exact ⟨at_ + 1, by omega, by omega⟩
      · exact ⟨1, by omega, by omega⟩
    have e2 : m2 oSub (m2 oAdd (mv 11) (mc (.int 1))) (m2 oMul (drawM 2) (mv 11)) ⟨envP mx n L m sc sh wy js ks fs ts at_ key (some (.int to)), hpY B n c P⟩ = .ok (.int (i : Int)) ⟨envP mx n L m sc sh wy js ks fs ts at_ key (some (.int to)), hpY B n c' P⟩ := by
      rw [← hi]
      exact m2_of (m2_of (x := .int at_) (y := .int 1) rfl rfl rfl) e1 rfl
    exact ⟨js[i], c', (if_of e).trans (set_of (m2_of (add_all C rfl rfl) e2 (ix_int hil))), List.getElem_mem hil, p'⟩
include hn C ha p in
theorem q4_at (ht : to ∈ js) : ∃ to' c', q4 ⟨envP mx n L m sc sh wy js ks fs ts at_ key (some (.int to)), hpY B n c P⟩ = .ok .nx ⟨envP mx n L m sc sh wy js ks fs ts at_ key (some (.int to')), hpY B n c' P⟩ ∧ to' ∈ js ∧ IsPen c' := by
  have l0 := C.len; have l2 := C.f; have l3 := C.k
  have e : way 4 ⟨envP mx n L m sc sh wy js ks fs ts at_ key (some (.int to)), hpY B n c P⟩ = .ok (wy == 4) ⟨envP mx n L m sc sh wy js ks fs ts at_ key (some (.int to)), hpY B n c P⟩ := b_of (m2_of rfl rfl eq_int)
  cases h : wy == 4 with
  | false => rw [h] at e; exact ⟨to, c, (if_of e).trans rfl, ht, p⟩
  | true =>
    rw [h] at e
    obtain ⟨d, c', ed, d0, d1, p'⟩ := drawE (P := P) (m := 4) (env := envP mx n L m sc sh wy js ks fs ts at_ key (some (.int to))) hn p rfl (by decide) (by decide)
    have e1 : m2 oAdd (mSl (mv 9) oNo (oSome (mc (.int 1)))) (mv 8) ⟨envP mx n L m sc sh wy js ks fs ts at_ key (some (.int to)), hpY B n c P⟩ = .ok (.lst ((fs.take 1 ++ ks).map M.int)) ⟨envP mx n L m sc sh wy js ks fs ts at_ key (some (.int to)), hpY B n c P⟩ :=
      m2_of (sl_hi (js := fs) (k := 1) rfl rfl) rfl (lst_add (by rw [List.length_take]; omega))
    obtain ⟨i, hi, hil⟩ : ∃ i : Nat, (if (at_ : Int) - d > 0 then (at_ : Int) - d else 0) = (i : Int) ∧ i < (fs.take 1 ++ ks).length := by
      rw [List.length_append, List.length_take]
      by_cases hx : (at_ : Int) - d > 0
      · exact ⟨((at_ : Int) - d).toNat, by rw [if_pos hx]; omega, by omega⟩
      · exact ⟨0, by rw [if_neg hx]; rfl, by omega⟩
    have e2 : mCall (mCons (mc (.int 0)) (mCons (m2 oSub (mv 11) (drawM 4)) mNil)) cMax ⟨envP mx n L m sc sh wy js ks fs ts at_ key (some (.int to)), hpY B n c P⟩ = .ok (.int (i : Int)) ⟨envP mx n L m sc sh wy js ks fs ts at_ key (some (.int to)), hpY B n c' P⟩ := by
      rw [← hi]
      exact call_of (mcons_of (x := .int 0) rfl (mone (m2_of (x := .int at_) (y := .int d) rfl ed rfl))) rfl
    refine ⟨(fs.take 1 ++ ks)[i], c', (if_of e).trans (set_of (m2_of e1 e2 (ix_int hil))), ?_, p'⟩
    rw [C.e]
    rcases List.mem_append.mp (List.getElem_mem hil) with hm | hm
    · exact List.mem_append_right _ (List.mem_of_mem_take hm)
    · exact List.mem_append_left _ hm
include hn C ha p in
theorem q5_at (ht : to ∈ js) : ∃ to' c', q5 ⟨envP mx n L m sc sh wy js ks fs ts at_ key (some (.int to)), hpY B n c P⟩ = .ok .nx ⟨envP mx n L m sc sh wy js ks fs ts at_ key (some (.int to')), hpY B n c' P⟩ ∧ to' ∈ js ∧ IsPen c' := by
  have l0 := C.len; have l2 := C.f; have l3 := C.k; have l4 := C.l
  have e : way 5 ⟨envP mx n L m sc sh wy js ks fs ts at_ key (some (.int to)), hpY B n c P⟩ = .ok (wy == 5) ⟨envP mx n L m sc sh wy js ks fs ts at_ key (some (.int to)), hpY B n c P⟩ := b_of (m2_of rfl rfl eq_int)
  cases h : wy == 5 with
  | false => rw [h] at e; exact ⟨to, c, (if_of (and_f e)).trans rfl, ht, p⟩
  | true =>
    rw [h] at e
    have e2 : mAnd (way 5) (mB (m2 oGt (mv 11) (mc (.int 0)))) ⟨envP mx n L m sc sh wy js ks fs ts at_ key (some (.int to)), hpY B n c P⟩ = .ok (decide (0 < (at_ : Int))) ⟨envP mx n L m sc sh wy js ks fs ts at_ key (some (.int to)), hpY B n c P⟩ :=
      (and_t e).trans (b_of (m2_of (x := .int at_) (y := .int 0) rfl rfl rfl))
    cases hd : decide (0 < (at_ : Int)) with
    | false => rw [hd] at e2; exact ⟨to, c, (if_of e2).trans rfl, ht, p⟩
    | true =>
      rw [hd] at e2
      have e1 : m2 oAdd (mSl (mv 8) oNo (oSome (mv 11))) (mSl (mv 9) oNo (oSome (mc (.int 2)))) ⟨envP mx n L m sc sh wy js ks fs ts at_ key (some (.int to)), hpY B n c P⟩ = .ok (.lst ((ks.take at_ ++ fs.take 2).map M.int)) ⟨envP mx n L m sc sh wy js ks fs ts at_ key (some (.int to)), hpY B n c P⟩ :=
        m2_of (sl_hi (js := ks) (k := at_) rfl rfl) (sl_hi (js := fs) (k := 2) rfl rfl) (lst_add (by rw [List.length_take, List.length_take]; omega))
      obtain ⟨d, c', ed, hm, p'⟩ := pickE (c1 := c) hn p rfl e1 (by rw [List.length_append, List.length_take, List.length_take]; omega) (by rw [List.length_append, List.length_take, List.length_take]; omega)
      refine ⟨d, c', (if_of e2).trans (set_of ed), ?_, p'⟩
      rw [C.e]
      rcases List.mem_append.mp hm with hm | hm
      · exact List.mem_append_left _ (List.mem_of_mem_take hm)
      · exact List.mem_append_right _ (List.mem_of_mem_take hm)
end
/-! RK -/
abbrev envQ (mx : Int) (n L : Nat) (m sc sh wy : Int) (js ks fs ts : List Int) (o11 o12 o13 : Option M) : List (Option M) := [some (.box n), some (.int mx), some (.int m), some (.lst (js.map M.int)), some (.box L), some (.int sc), some (.int sh), some (.int wy), some (.lst (ks.map M.int)), some (.lst (fs.map M.int)), some (.lst (ts.map M.int)), o11, o12, o13]
abbrev prP (sc sh key to : Int) : IP := ((key - sh) * sc, (to - sh) * sc)
section
variable {mx : Int} {B : List Cell} {n : Nat} {c : Cell} {m sc sh wy key to : Int} {js ks fs ts : List Int} {at_ : Nat} {ps : List IP}
theorem mul_at {a b sc : Int} {s : MS} (h : -1000 ≤ a ∧ a ≤ 1000) : oMul (.int a) (.int sc) s = .ok (.int (a * sc)) s := by
  have mo : mulOk a sc = true := decide_eq_true (Or.inl ⟨by omega, by omega⟩)
  unfold oMul oInt
  dsimp only
  rw [if_pos mo]
theorem q6_at (hk : 0 ≤ key ∧ key ≤ 500) (ht : 0 ≤ to ∧ to ≤ 500) (hs : 0 ≤ sh ∧ sh ≤ 500) (hl : ps.length ≤ 100) :
    q6 ⟨envP mx n B.length m sc sh wy js ks fs ts at_ key (some (.int to)), hpY B n c (rm ps)⟩ = .ok .nx ⟨envP mx n B.length m sc sh wy js ks fs ts at_ key (some (.int to)), hpY B n c (rm (ps ++ [prP sc sh key to]))⟩ := by
  have e1 : mTup (mCons (m2 oMul (m2 oSub (mv 12) (mv 6)) (mv 5)) (mCons (m2 oMul (m2 oSub (mv 13) (mv 6)) (mv 5)) mNil)) ⟨envP mx n B.length m sc sh wy js ks fs ts at_ key (some (.int to)), hpY B n c (rm ps)⟩ = .ok (pM (prP sc sh key to)) ⟨envP mx n B.length m sc sh wy js ks fs ts at_ key (some (.int to)), hpY B n c (rm ps)⟩ := by
    have a1 : m2 oMul (m2 oSub (mv 12) (mv 6)) (mv 5) ⟨envP mx n B.length m sc sh wy js ks fs ts at_ key (some (.int to)), hpY B n c (rm ps)⟩ = .ok (.int ((key - sh) * sc)) ⟨envP mx n B.length m sc sh wy js ks fs ts at_ key (some (.int to)), hpY B n c (rm ps)⟩ :=
      m2_of (m2_of (x := .int key) (y := .int sh) rfl rfl rfl) rfl (mul_at (b := 0) (by omega))
    have a2 : m2 oMul (m2 oSub (mv 13) (mv 6)) (mv 5) ⟨envP mx n B.length m sc sh wy js ks fs ts at_ key (some (.int to)), hpY B n c (rm ps)⟩ = .ok (.int ((to - sh) * sc)) ⟨envP mx n B.length m sc sh wy js ks fs ts at_ key (some (.int to)), hpY B n c (rm ps)⟩ :=
      m2_of (m2_of (x := .int to) (y := .int sh) rfl rfl rfl) rfl (mul_at (b := 0) (by omega))
    unfold mTup
    rw [mcons_of a1 (mone a2)]
    rfl
  have e3 : mAppend (mv 4) (mTup (mCons (m2 oMul (m2 oSub (mv 12) (mv 6)) (mv 5)) (mCons (m2 oMul (m2 oSub (mv 13) (mv 6)) (mv 5)) mNil))) ⟨envP mx n B.length m sc sh wy js ks fs ts at_ key (some (.int to)), hpY B n c (rm ps)⟩ = .ok .non ⟨envP mx n B.length m sc sh wy js ks fs ts at_ key (some (.int to)), hpY B n c (rm (ps ++ [prP sc sh key to]))⟩ := by
    unfold mAppend mMeth
    show (if isBoxL (.box B.length) ⟨envP mx n B.length m sc sh wy js ks fs ts at_ key (some (.int to)), hpY B n c (rm ps)⟩ = true then Res.bind (mCons (mTup (mCons (m2 oMul (m2 oSub (mv 12) (mv 6)) (mv 5)) (mCons (m2 oMul (m2 oSub (mv 13) (mv 6)) (mv 5)) mNil))) mNil ⟨envP mx n B.length m sc sh wy js ks fs ts at_ key (some (.int to)), hpY B n c (rm ps)⟩) (fun ms s2 => fAppend (.box B.length) ms s2) else Res.stuck) = _
    have b : isBoxL (.box B.length) ⟨envP mx n B.length m sc sh wy js ks fs ts at_ key (some (.int to)), hpY B n c (rm ps)⟩ = true := by unfold isBoxL; dsimp only; rw [hpY_p]
    rw [if_pos b, mone e1]
    show fAppend (.box B.length) [pM (prP sc sh key to)] ⟨envP mx n B.length m sc sh wy js ks fs ts at_ key (some (.int to)), hpY B n c (rm ps)⟩ = _
    unfold fAppend
    dsimp only
    rw [hpY_p]
    dsimp only
    rw [if_pos (by rw [List.length_map]; exact Nat.lt_of_le_of_lt hl (by decide)), hpY_sp]
    simp [rm]
  unfold q6 sExpr
  rw [e3]
  rfl
structure PD (js ks fs ts : List Int) (sh : Int) : Prop extends PC js ks fs ts where
  jb : ∀ j ∈ js, 0 ≤ j ∧ j ≤ 500
  sb : 0 ≤ sh ∧ sh ≤ 500
theorem pairB_at (hn : n < B.length) (D : PD js ks fs ts sh) (ha : at_ < ks.length) (hk : key ∈ js) (p : IsPen c) (hl : ps.length ≤ 100) {o : Option M} :
    ∃ to c', pairB ⟨envP mx n B.length m sc sh wy js ks fs ts at_ key o, hpY B n c (rm ps)⟩ = .ok .nx ⟨envP mx n B.length m sc sh wy js ks fs ts at_ key (some (.int to)), hpY B n c' (rm (ps ++ [prP sc sh key to]))⟩ ∧ to ∈ js ∧ IsPen c' := by
  have C := D.toPC
  obtain ⟨t0, c0, e0, h0, p0⟩ := q0_at (L := B.length) (m := m) (sc := sc) (sh := sh) (wy := wy) (P := rm ps) hn C ha hk p (o := o)
  obtain ⟨t1, e1, h1⟩ := q1_at (B := B) (n := n) (c := c0) (L := B.length) (m := m) (sc := sc) (sh := sh) (wy := wy) (key := key) (P := rm ps) C ha h0
  obtain ⟨t2, c2, e2, h2, p2⟩ := q2_at (L := B.length) (m := m) (sc := sc) (sh := sh) (wy := wy) (key := key) (P := rm ps) hn C ha p0 h1
  obtain ⟨t3, c3, e3, h3, p3⟩ := q3_at (L := B.length) (m := m) (sc := sc) (sh := sh) (wy := wy) (key := key) (P := rm ps) hn C ha p2 h2
  obtain ⟨t4, c4, e4, h4, p4⟩ := q4_at (L := B.length) (m := m) (sc := sc) (sh := sh) (wy := wy) (key := key) (P := rm ps) hn C ha p3 h3
  obtain ⟨t5, c5, e5, h5, p5⟩ := q5_at (L := B.length) (m := m) (sc := sc) (sh := sh) (wy := wy) (key := key) (P := rm ps) hn C ha p4 h4
  exact ⟨t5, c5, seq_of e0 (seq_of e1 (seq_of e2 (seq_of e3 (seq_of e4 (seq_of e5 (q6_at (D.jb _ hk) (D.jb _ h5) D.sb hl)))))), h5, p5⟩
theorem pairs_loop (hn : n < B.length) (D : PD js ks fs ts sh) : ∀ {ls : List (Int × Nat)} {ps : List IP} {c : Cell} {o11 o12 o13 : Option M}, (∀ z ∈ ls, z.2 < ks.length ∧ z.1 ∈ ks) → IsPen c → ps.length + ls.length ≤ 100 →
    ∃ qs c' o11' o12' o13', sFor (gUnpN [11, 12]) pairB (ls.map fun z => M.tup [.int (z.2 : Nat), .int z.1]) ⟨envQ mx n B.length m sc sh wy js ks fs ts o11 o12 o13, hpY B n c (rm ps)⟩ = .ok .nx ⟨envQ mx n B.length m sc sh wy js ks fs ts o11' o12' o13', hpY B n c' (rm (ps ++ qs))⟩ ∧
      IsPen c' ∧ keysP qs = ls.map (fun z => (z.1 - sh) * sc) ∧ ∀ q ∈ qs, ∃ to ∈ js, q.2 = (to - sh) * sc
  | [], ps, c, o11, o12, o13, _, p, _ => ⟨[], c, o11, o12, o13, by rw [List.append_nil]; rfl, p, rfl, fun q h => by simp at h⟩
  | z :: ls, ps, c, o11, o12, o13, hz, p, hl => by
    rw [List.length_cons] at hl
    obtain ⟨z1, z2⟩ := hz z (by simp)
    have hk : z.1 ∈ js := by rw [D.e]; exact List.mem_append_left _ z2
    obtain ⟨to, c1, e1, ht, p1⟩ := pairB_at (m := m) (sc := sc) (wy := wy) (ps := ps) hn D z1 hk p (by omega) (o := o13)
    obtain ⟨qs, c2, a1, a2, a3, e2, p2, k2, b2⟩ := pairs_loop hn D (ls := ls) (ps := ps ++ [prP sc sh z.1 to]) (c := c1) (o11 := some (.int (z.2 : Nat))) (o12 := some (.int z.1)) (o13 := some (.int to)) (fun y hy => hz y (by simp [hy])) p1 (by rw [List.length_append]; simp; omega)
    refine ⟨prP sc sh z.1 to :: qs, c2, a1, a2, a3, ?_, p2, ?_, ?_⟩
    · show sFor (gUnpN [11, 12]) pairB (M.tup [.int (z.2 : Nat), .int z.1] :: _) _ = _
      rw [sFor]
      show (pairB ⟨envP mx n B.length m sc sh wy js ks fs ts z.2 z.1 o13, hpY B n c (rm ps)⟩).bind _ = _
      rw [e1, show ps ++ prP sc sh z.1 to :: qs = ps ++ [prP sc sh z.1 to] ++ qs by simp]
      exact e2
    · rw [keysP, List.map_cons, List.map_cons, ← k2]
    · intro q hq
      rcases List.mem_cons.mp hq with rfl | hq
      · exact ⟨to, ht, rfl⟩
      · exact b2 q hq
end
def n2E : ME := (m2 oAdd (m2 oMul (mc (.int 2)) (mv 2)) (mc (.int 2)))
def scE : ME := (mLst (mCons (mc (.int 1)) (mCons (mc (.int 1)) (mCons (mc (.int 3)) (mCons (m2 oPow (mc (.int 10)) (mc (.int 9))) (mCons (m2 oPow (mc (.int 10)) (mc (.int 28))) mNil))))))
def drawA (e : ME) : ME := (mFn (mCons (mv 0) (mCons e mNil)) F__law_draw)
def mixA (e : ME) : ME := (mFn (mCons (mv 0) (mCons e mNil)) F__law_mixed)
def pA : MStm := (sSet 2 (drawA (m2 oAdd (mv 1) (mc (.int 1)))))
def pB : MStm := (sPar3 5 6 7 (mCons (pickM scE) (mCons (drawA n2E) (mCons (drawA (mc (.int 7))) mNil))))
def pC : MStm := (sSet 3 (mixA (mListRange n2E)))
def pD : MStm := (sPar3 8 9 10 (mCons (mSl (mv 3) oNo (oSome (mv 2))) (mCons (mSl (mv 3) (oSome (mv 2)) oNo) (mCons (mixA (mSl (mv 3) oNo (oSome (mv 2)))) mNil))))
theorem pairs_eq : m__law_pairs = (sSeq pA (sSeq pB (sSeq pC (sSeq pD (sSeq (sSet 4 (mLstB mNil)) (sSeq (sForI (iEnum (mCons (mv 8) mNil)) (gUnpN [11, 12]) pairB) (sRet (mFrz (mv 4))))))))) := rfl
/-- draw and mixed in any heap -/
theorem drawH {hp : List Cell} {n : Nat} {c : Cell} {env : List (Option M)} {e : ME} {m : Int} (hc : hp[n]? = some c) (p : IsPen c) (h0 : env[0]? = some (some (.box n))) (he : e ⟨env, hp⟩ = .ok (.int m) ⟨env, hp⟩) (hm : 0 < m) (hm2 : m < 1073741824) :
    ∃ d c', drawA e ⟨env, hp⟩ = .ok (.int d) ⟨env, hp.set n c'⟩ ∧ 0 ≤ d ∧ d < m ∧ IsPen c' ∧ (hp.set n c')[n]? = some c' := by
  obtain ⟨hn, _⟩ := List.getElem?_eq_some_iff.mp hc
  obtain ⟨d, c', e1, d0, d1, p'⟩ := draw_at (m := m) hc p hm hm2
  exact ⟨d, c', fn_of (mcons_of (mv_of h0) (mone he)) e1, d0, d1, p', List.getElem?_set_self hn⟩
theorem mixH {hp : List Cell} {n : Nat} {c : Cell} {env : List (Option M)} {e : ME} {js : List Int} (hc : hp[n]? = some c) (p : IsPen c) (h0 : env[0]? = some (some (.box n))) (he : e ⟨env, hp⟩ = .ok (.lst (js.map M.int)) ⟨env, hp⟩) (hl : js.length ≤ 500) :
    ∃ (js' : List Int) (c' : Cell), mixA e ⟨env, hp⟩ = .ok (.lst (js'.map M.int)) ⟨env, hp.set n c' ++ [.lst [], .dead]⟩ ∧ js'.Perm js ∧ IsPen c' ∧ (hp.set n c' ++ [Cell.lst [], Cell.dead])[n]? = some c' := by
  obtain ⟨hn, _⟩ := List.getElem?_eq_some_iff.mp hc
  obtain ⟨ms, c', hp', p', e1⟩ := mixed_at (ms := js.map M.int) hc p (fun m hm => by
    obtain ⟨i, _, rfl⟩ := List.mem_map.mp hm
    exact dat_int i) (by rw [List.length_map]; exact hl)
  obtain ⟨js', rfl, pj⟩ := map_inv hp'
  exact ⟨js', c', fn_of (mcons_of (mv_of h0) (mone he)) e1, pj, p', by rw [List.getElem?_append_left (by simpa using hn), List.getElem?_set_self hn]⟩
def NB (i : Int) : Prop := -(9 * 10 ^ 29) < i ∧ i < 9 * 10 ^ 29
theorem mul_bound {a sc : Int} (ha : -82 < a ∧ a < 82) (hs : 0 < sc ∧ sc ≤ 10 ^ 28) : NB (a * sc) := by
  have z : (10 : Int) ^ 28 = 10000000000000000000000000000 := by decide
  have z2 : (10 : Int) ^ 29 = 100000000000000000000000000000 := by decide
  rw [z] at hs
  unfold NB
  rw [z2]
  have h1 : a * sc ≤ 82 * sc := Int.mul_le_mul_of_nonneg_right (by omega) (by omega)
  have h2 : -82 * sc ≤ a * sc := Int.mul_le_mul_of_nonneg_right (by omega) (by omega)
  omega
theorem NB.kb {i : Int} (h : NB i) : KB i := by
  obtain ⟨h1, h2⟩ := h
  have z : (10 : Int) ^ 29 = 100000000000000000000000000000 := by decide
  have z2 : (10 : Int) ^ 30 = 1000000000000000000000000000000 := by decide
  rw [z] at h1 h2
  unfold KB
  rw [z2]
  omega
abbrev rgI (k : Nat) : List Int := (List.range k).map fun i => (0 : Int) + (i : Nat)
theorem upTo_rg (k : Nat) : Ma.upTo 0 k = (rgI k).map M.int := by
  unfold Ma.upTo rgI
  rw [List.map_map]
  rfl
theorem rgI_nodup (k : Nat) : (rgI k).Nodup := by
  unfold rgI List.Nodup
  rw [List.pairwise_map]
  exact (List.nodup_range (n := k)).imp fun {a b} h => by omega
theorem n2_at {m : Int} {env : List (Option M)} {hp : List Cell} (h : env[2]? = some (some (.int m))) (h0 : 0 ≤ m) (h1 : m ≤ 40) : n2E ⟨env, hp⟩ = .ok (.int (2 * m + 2)) ⟨env, hp⟩ :=
  m2_of (m2_of (x := .int 2) (y := .int m) rfl (mv_of h) (mul_at (b := 0) (by omega))) rfl rfl
theorem pairs_at {mx : Int} (mx0 : 0 ≤ mx) (mx1 : mx ≤ 40) {hp : List Cell} {n : Nat} {c : Cell} (hc : hp[n]? = some c) (p : IsPen c) :
    ∃ ps c' ex, F__law_pairs [.box n, .int mx] hp = .ok (.lst (rm ps)) (hp.set n c' ++ ex) ∧ IsPen c' ∧ Rows ps ∧ (∀ q ∈ ps, NB q.1 ∧ NB q.2) ∧ (∀ q ∈ ps, q.1 ≠ 100000000000000000000000000003 ∧ q.1 ≠ 100000000000000000000000000001) ∧ ps.length ≤ mx.toNat := by
  obtain ⟨hn, _⟩ := List.getElem?_eq_some_iff.mp hc
  -- how many
  obtain ⟨m, c1, e1, m0, m1, p1, g1⟩ := drawH (env := [some (.box n), some (.int mx), none, none, none, none, none, none, none, none, none, none, none, none]) (e := m2 oAdd (mv 1) (mc (.int 1))) (m := mx + 1) hc p rfl rfl (by omega) (by omega)
  -- scale, shift, way
  obtain ⟨sm, c2, hsm, e2, p2⟩ := pick_at (ms := [.int 1, .int 1, .int 3, .int (10 ^ 9), .int (10 ^ 28)]) g1 p1 (by decide) (by decide)
  obtain ⟨sc, rfl, hsc, hsv⟩ : ∃ sc : Int, sm = .int sc ∧ (0 < sc ∧ sc ≤ 10 ^ 28) ∧ (sc = 1 ∨ sc = 3 ∨ sc = 1000000000 ∨ sc = 10000000000000000000000000000) := by
    simp only [List.mem_cons, List.not_mem_nil, or_false] at hsm
    rcases hsm with rfl | rfl | rfl | rfl | rfl <;> exact ⟨_, rfl, ⟨by decide, by decide⟩, by decide⟩
  have g2 : ((hp.set n c1).set n c2)[n]? = some c2 := List.getElem?_set_self (by simpa using hn)
  have esc : scE ⟨[some (.box n), some (.int mx), some (.int m), none, none, none, none, none, none, none, none, none, none, none], hp.set n c1⟩ = .ok (.lst [.int 1, .int 1, .int 3, .int (10 ^ 9), .int (10 ^ 28)]) ⟨[some (.box n), some (.int mx), some (.int m), none, none, none, none, none, none, none, none, none, none, none], hp.set n c1⟩ := by rfl
  have e2' : pickM scE ⟨[some (.box n), some (.int mx), some (.int m), none, none, none, none, none, none, none, none, none, none, none], hp.set n c1⟩ = .ok (.int sc) ⟨[some (.box n), some (.int mx), some (.int m), none, none, none, none, none, none, none, none, none, none, none], (hp.set n c1).set n c2⟩ :=
    Ma.fn_of (F := F__law_pick) (mcons_of (a := mv 0) (mv_of rfl) (mone esc)) e2
  obtain ⟨sh, c3, e3, s0, s1, p3, g3⟩ := drawH (env := [some (.box n), some (.int mx), some (.int m), none, none, none, none, none, none, none, none, none, none, none]) (e := n2E) (m := 2 * m + 2) g2 p2 rfl (n2_at rfl m0 (by omega)) (by omega) (by omega)
  obtain ⟨wy, c4, e4, w0, w1, p4, g4⟩ := drawH (env := [some (.box n), some (.int mx), some (.int m), none, none, none, none, none, none, none, none, none, none, none]) (e := mc (.int 7)) (m := 7) g3 p3 rfl rfl (by decide) (by decide)
  simp only [List.set_set] at e2' e3 e4 g4
  -- spots
  have hk : (2 * m + 2).toNat ≤ 82 := by omega
  obtain ⟨js, c5, e5, pj, p5, g5⟩ := mixH (env := [some (.box n), some (.int mx), some (.int m), none, none, some (.int sc), some (.int sh), some (.int wy), none, none, none, none, none, none]) (e := mListRange n2E) (js := rgI (2 * m + 2).toNat) g4 p4 rfl (by
    unfold mListRange
    rw [n2_at rfl m0 (by omega), ← upTo_rg]
    show (if 0 ≤ 2 * m + 2 ∧ 2 * m + 2 ≤ 1048576 then _ else _) = _
    rw [if_pos ⟨by omega, by omega⟩]) (by simp; omega)
  rw [List.set_set] at e5 g5
  -- keys, free, turned
  obtain ⟨mn, rfl⟩ : ∃ k : Nat, m = k := ⟨m.toNat, by omega⟩
  obtain ⟨ts, c6, e6, pt, p6, g6⟩ := mixH (env := [some (.box n), some (.int mx), some (.int mn), some (.lst (js.map M.int)), none, some (.int sc), some (.int sh), some (.int wy), none, none, none, none, none, none]) (e := mSl (mv 3) oNo (oSome (mv 2))) (js := js.take mn) g5 p5 rfl (sl_hi rfl rfl) (by rw [List.length_take, pj.length_eq]; simp; omega)
  have B0 : (hp.set n c5 ++ [Cell.lst [], Cell.dead]).set n c6 ++ [Cell.lst [], Cell.dead] = hp.set n c6 ++ [.lst [], .dead, .lst [], .dead] := by
    rw [List.set_append_left _ _ (by simpa using hn), List.set_set, List.append_assoc]; rfl
  rw [B0] at e6 g6
  have jl : js.length = 2 * mn + 2 := by rw [pj.length_eq]; simp; omega
  have jn : js.Nodup := pj.nodup_iff.mpr (rgI_nodup _)
  have jb : ∀ j ∈ js, 0 ≤ j ∧ j < 82 := fun j hj => by
    obtain ⟨i, hi, rfl⟩ := List.mem_map.mp (pj.mem_iff.mp hj)
    rw [List.mem_range] at hi
    omega
  have D : PD js (js.take mn) (js.drop mn) ts sh :=
    { e := (List.take_append_drop mn js).symm, t := pt, f := by rw [List.length_drop]; omega, k := by rw [List.length_take]; omega, l := by omega, jb := fun j hj => by have := jb j hj; omega, sb := by omega }
  generalize hB : hp.set n c6 ++ [Cell.lst [], .dead, .lst [], .dead] = B at e6 g6
  have hnB : n < B.length := by rw [← hB]; simp; omega
  obtain ⟨qs, c7, a1, a2, a3, e7, p7, kq, bq⟩ := pairs_loop (m := mn) (sc := sc) (wy := wy) hnB D (ls := (js.take mn).zipIdx) (ps := []) (c := c6) (o11 := none) (o12 := none) (o13 := none) (fun z hz => by
    obtain ⟨h1, h2, h3⟩ := List.mem_zipIdx hz
    simp only [Nat.zero_add, Nat.sub_zero] at h2 h3
    exact ⟨h2, by rw [h3]; exact List.getElem_mem _⟩) p6 (by rw [List.length_zipIdx, List.length_take]; simp; omega)
  have Bs : B.set n c6 = B := by
    obtain ⟨hl, hg⟩ := List.getElem?_eq_some_iff.mp g6
    rw [← hg, List.set_getElem_self]
  have R : Rows qs := by
    have kq2 : keysP qs = (js.take mn).map fun k => (k - sh) * sc := by
      rw [kq]
      have e : (js.take mn).zipIdx.map (fun z => (z.1 - sh) * sc) = ((js.take mn).zipIdx.map (·.1)).map (fun k => (k - sh) * sc) := by rw [List.map_map]; rfl
      rw [e, List.zipIdx_map_fst]
    refine ⟨fun q hq => ⟨?_, ?_⟩, ?_, ?_⟩
    · have hm : q.1 ∈ keysP qs := List.mem_map.mpr ⟨q, hq, rfl⟩
      rw [kq2] at hm
      obtain ⟨k, hk, e⟩ := List.mem_map.mp hm
      have := jb k (List.mem_of_mem_take hk)
      rw [← e]
      exact (mul_bound (by omega) hsc).kb
    · obtain ⟨to, ht, e⟩ := bq q hq
      have := jb to ht
      rw [e]
      exact (mul_bound (by omega) hsc).kb
    · rw [kq2]
      unfold List.Nodup
      rw [List.pairwise_map]
      refine (jn.sublist (List.take_sublist _ _)).imp fun {a b} hab h => hab ?_
      have := Int.eq_of_mul_eq_mul_right (by omega) h
      omega
    · have := congrArg List.length kq2
      rw [List.length_map, List.length_map, List.length_take] at this
      omega
  refine ⟨qs, c7, [.lst [], .dead, .lst [], .dead, .dead], body_rt (s' := ⟨envQ mx n B.length mn sc sh wy js (js.take mn) (js.drop mn) ts a1 a2 a3, hp.set n c7 ++ [Cell.lst [], .dead, .lst [], .dead, .dead]⟩) ?_, p7, R, fun q hq => ?_, fun q hq => ?_, ?_⟩
  · rw [pairs_eq]
    refine seq_of (set_of e1) (seq_of (s1 := ⟨[some (.box n), some (.int mx), some (.int mn), none, none, some (.int sc), some (.int sh), some (.int wy), none, none, none, none, none, none], hp.set n c4⟩) ?_ (seq_of (set_of e5) (seq_of (s1 := ⟨[some (.box n), some (.int mx), some (.int mn), some (.lst (js.map M.int)), none, some (.int sc), some (.int sh), some (.int wy), some (.lst ((js.take mn).map M.int)), some (.lst ((js.drop mn).map M.int)), some (.lst (ts.map M.int)), none, none, none], B⟩) ?_ (seq_of (s1 := ⟨envQ mx n B.length mn sc sh wy js (js.take mn) (js.drop mn) ts none none none, B ++ [Cell.lst []]⟩) (by rfl) (seq_of (for_of ?_ e7) (ret_of ?_))))))
    · exact par3_of (mcons_of e2' (mcons_of e3 (mone e4)))
    · have b1 := sl_hi (a := mv 3) (b := mv 2) (js := js) (k := mn) (s := ⟨[some (.box n), some (.int mx), some (.int mn), some (.lst (js.map M.int)), none, some (.int sc), some (.int sh), some (.int wy), none, none, none, none, none, none], hp.set n c5 ++ [.lst [], .dead]⟩) rfl rfl
      have b2 := sl_lo (a := mv 3) (b := mv 2) (js := js) (k := mn) (s := ⟨[some (.box n), some (.int mx), some (.int mn), some (.lst (js.map M.int)), none, some (.int sc), some (.int sh), some (.int wy), none, none, none, none, none, none], hp.set n c5 ++ [.lst [], .dead]⟩) rfl rfl
      exact par3_of (mcons_of b1 (mcons_of b2 (mone e6)))
    · show Ma.iEnum (mCons (mv 8) mNil) ⟨envQ mx n B.length mn sc sh wy js (js.take mn) (js.drop mn) ts none none none, B ++ [Cell.lst []]⟩ = _
      unfold Ma.iEnum
      show Res.ok (enumM ((js.take mn).map M.int)) _ = _
      have e9 : enumM ((js.take mn).map M.int) = (js.take mn).zipIdx.map fun z => M.tup [.int (z.2 : Nat), .int z.1] := by
        unfold enumM
        rw [List.zipIdx_map, List.map_map]
        rfl
      rw [e9]
      show _ = Res.ok _ ⟨_, hpY B n c6 (rm [])⟩
      unfold hpY
      rw [Bs]
      rfl
    · unfold mFrz
      show frz (.box B.length) ⟨envQ mx n B.length mn sc sh wy js (js.take mn) (js.drop mn) ts a1 a2 a3, hpY B n c7 (rm ([] ++ qs))⟩ = _
      unfold frz
      dsimp only
      rw [hpY_p]
      dsimp only
      rw [hpY_dead, List.nil_append, ← hB, List.set_append_left _ _ (by simpa using hn), List.set_set, List.append_assoc]
      rfl
  · refine ⟨?_, ?_⟩
    · have hm : q.1 ∈ keysP qs := List.mem_map.mpr ⟨q, hq, rfl⟩
      rw [kq] at hm
      obtain ⟨z, hz, e⟩ := List.mem_map.mp hm
      obtain ⟨h1, h2, h3⟩ := List.mem_zipIdx (show (z.1, z.2) ∈ (js.take mn).zipIdx from hz)
      have hj : z.1 ∈ js.take mn := by rw [h3]; exact List.getElem_mem _
      have := jb z.1 (List.mem_of_mem_take hj)
      rw [← e]
      exact mul_bound (by omega) hsc
    · obtain ⟨to, ht, e⟩ := bq q hq
      have := jb to ht
      rw [e]
      exact mul_bound (by omega) hsc
  · have hm : q.1 ∈ keysP qs := List.mem_map.mpr ⟨q, hq, rfl⟩
    rw [kq] at hm
    obtain ⟨z, hz, e⟩ := List.mem_map.mp hm
    obtain ⟨h1, h2, h3⟩ := List.mem_zipIdx (show (z.1, z.2) ∈ (js.take mn).zipIdx from hz)
    have hj : z.1 ∈ js.take mn := by rw [h3]; exact List.getElem_mem _
    have := jb z.1 (List.mem_of_mem_take hj)
    rw [← e]
    refine ⟨?_, ?_⟩ <;> (rcases hsv with rfl | rfl | rfl | rfl <;> omega)
  · have := congrArg List.length kq
    rw [List.length_map, List.length_map, List.length_zipIdx, List.length_take] at this
    omega
/-! SA -/
theorem sub_len : ∀ {l m : List Int}, l.Nodup → (∀ x ∈ l, x ∈ m) → l.length ≤ m.length
  | [], m, _, _ => Nat.zero_le _
  | a :: l, m, h, hs => by
    obtain ⟨h1, h2⟩ := List.nodup_cons.mp h
    have ha := hs a List.mem_cons_self
    have := sub_len (l := l) (m := m.erase a) h2 fun x hx => by
      have : x ≠ a := fun e => h1 (e ▸ hx)
      exact (List.mem_erase_of_ne this).mpr (hs x (List.mem_cons_of_mem _ hx))
    have hl := List.length_erase_of_mem ha
    have hp : 0 < m.length := List.length_pos_of_mem ha
    simp only [List.length_cons]
    omega
theorem datL_ints : ∀ l : List Int, datL (l.map M.int) = some (l.map PyData.int)
  | [] => by simp [datL]
  | x :: l => by simp [datL, dat, datL_ints l]
/-! SB -/
section
variable {L w : Nat} {hp : List Cell} {W : List IP} {k v row : Int} {env : List (Option M)} {i j : Nat} {neg : Bool} {o : M → M → MS → Res M}
theorem ixw (hw : dictOf hp (.box w) = some (dm W)) (hv : getP W k = some v) : oIxD oIx (.box w) (.int k) ⟨env, hp⟩ = .ok (.int v) ⟨env, hp⟩ := by
  unfold oIxD
  rw [show dictOf (MS.hp ⟨env, hp⟩) (.box w) = some (dm W) from hw]
  show (match valG (dm W) (.inl k) with | some m => Res.ok m _ | none => Res.stuck) = _
  rw [valG_dm, hv]
  rfl
theorem inw (hw : dictOf hp (.box w) = some (dm W)) : oInD neg o (.int k) (.box w) ⟨env, hp⟩ = .ok (.bl (if neg then !(getP W k).isSome else (getP W k).isSome)) ⟨env, hp⟩ := by
  unfold oInD
  rw [show dictOf (MS.hp ⟨env, hp⟩) (.box w) = some (dm W) from hw]
  show Res.ok (M.bl (if neg then !(valG (dm W) (.inl k)).isSome else (valG (dm W) (.inl k)).isSome)) _ = _
  rw [valG_dm, Option.isSome_map]
end
/-! SC -/
structure TW (hp : List Cell) (n d w : Nat) (T W : List IP) : Prop where
  t : TabAt hp n d T
  hw : hp[w]? = some (.dK (dm W))
  dw : d ≠ w
  r : Rows T
  s : Srt T
  p : W.Perm T
theorem TW.app {hp ex : List Cell} {n d w : Nat} {T W : List IP} (h : TW hp n d w T W) : TW (hp ++ ex) n d w T W := by
  have g : ∀ {i : Nat} {c : Cell}, hp[i]? = some c → (hp ++ ex)[i]? = some c := fun {i c} e => by
    obtain ⟨hl, _⟩ := List.getElem?_eq_some_iff.mp e
    rw [List.getElem?_append_left hl]; exact e
  exact ⟨⟨g h.t.i, g h.t.d⟩, g h.hw, h.dw, h.r, h.s, h.p⟩
/-! GA -/
theorem fnE {ma : MA} {F : Fn} {env : List (Option M)} {hp0 hp1 hp2 : List Cell} {ms : List M} {m : M} (h : ma ⟨env, hp0⟩ = .ok ms ⟨env, hp1⟩) (hf : F ms hp1 = .ok m hp2) : mFn ma F ⟨env, hp0⟩ = .ok m ⟨env, hp2⟩ := by
  unfold mFn; rw [h]; show upF env (F ms hp1) = _; rw [hf]; rfl
end Lw
-- LACK ssI_mem
-- LACK sub_len
-- LACK isIns_at
-- LACK seqA
-- LACK intsM_map
-- LACK len_tab
-- LACK check_table_at
-- LACK sortD_box
-- LACK perm_nd
namespace Lw
open L2 Ma PySem.Spec PySem PyProof.Rows
/-! RC -/
/-- what is no integer is no key -/
theorem contains_no {n : Nat} {x : M} {hp : List Cell} (h : F_is_integer [x] hp = .ok (.bl false) hp) : F_Table___contains__ [.box n, x] hp = .ok (.bl false) hp := by
  refine body_rt (s' := ⟨[some (.box n), some x], hp⟩) (ret_of ?_)
  have e1 : mFn (mCons (mv 1) mNil) F_is_integer ⟨[some (.box n), some x], hp⟩ = .ok (.bl false) ⟨[some (.box n), some x], hp⟩ := fn_of (ms := [x]) (mone rfl) h
  exact andv_f e1
/-! CL -/
section
variable {n d w L D : Nat} {T W ps : List IP} {hp hp' A B : List Cell} {c c' : Cell} {k v row : Int} {env : List (Option M)} {i j : Nat} {neg : Bool} {o : M → M → MS → Res M} {l : List Int} {ks p done acc R : List Int} {y : M} {g : Int → Option Int} {st res : List Int} {e : Str}
open PySem.W in
theorem sortD_ints {l m : List Int} (hp : l.Perm m) (hs : m.Pairwise (· ≤ ·)) {s : MS} : cSortD [.lst (l.map M.int)] s = .ok (.lst (m.map M.int)) s := by
  unfold cSortD
  dsimp only
  rw [show lstOf s.hp (.lst (l.map M.int)) = some (l.map M.int) from rfl]
  dsimp only
  rw [datL_ints]
  dsimp only
  have ok : sortOk (l.map PyData.int) = true := by
    unfold sortOk
    rw [Bool.and_eq_true, Bool.and_eq_true, Bool.or_eq_true]
    refine ⟨⟨List.all_eq_true.mpr fun d hd => List.all_eq_true.mpr fun e he => ?_, .inr (List.all_eq_true.mpr fun d hd => ?_)⟩, List.all_eq_true.mpr fun d hd => ?_⟩
    · obtain ⟨a, _, rfl⟩ := List.mem_map.mp hd
      obtain ⟨b, _, rfl⟩ := List.mem_map.mp he
      simp [alike]
    · obtain ⟨a, _, rfl⟩ := List.mem_map.mp hd
      rfl
    · obtain ⟨a, _, rfl⟩ := List.mem_map.mp hd
      rfl
  rw [if_pos ok]
  have ez : ∀ L : List Int, (L.map M.int).zip (L.map PyData.int) = L.map fun i => (M.int i, PyData.int i) := fun L => by
    induction L with
    | nil => rfl
    | cons l L ih => rw [List.map_cons, List.map_cons, List.zip_cons_cons, ih]; rfl
  have e2 : (l.mergeSort (dataLe false PyData.int)).map (fun i => (M.int i, PyData.int i)) = (l.map fun i => (M.int i, PyData.int i)).mergeSort leMD := sort_maps _ fun a _ b _ => rfl
  have le_iff : ∀ a b : Int, dataLe false PyData.int a b = true ↔ a ≤ b := fun a b => by
    rw [dataLe_eq]
    show (!dataLt (PyData.int b) (PyData.int a)) = true ↔ _
    rw [dataLt_int]
    simp
  have e3 : m = l.mergeSort (dataLe false PyData.int) := by
    refine List.Perm.eq_of_pairwise (le := fun a b => dataLe false PyData.int a b = true) (fun a b _ _ h1 h2 => ?_) (hs.imp fun {a b} h => (le_iff a b).mpr h) (sort_pairwise (sortLe_total _ _ _) l) (hp.symm.trans (List.mergeSort_perm l _).symm)
    exact Int.le_antisymm ((le_iff a b).mp h1) ((le_iff b a).mp h2)
  rw [ez, ← e2, ← e3, List.map_map]
  rfl
end
/-! TC -/
section
variable {l : List Int} {v : Int → Int} {S : List Int} {a b k : Int}
theorem ssI_nd (l : List Int) : (ssI l).Nodup := (ssI_up l).imp fun h => by omega
end
/-! LA -/
def fT (T : List IP) : M → Bool
  | .int k => (getP T k).isSome
  | _ => false
def plainM : M → Bool
  | .non => true
  | .bl _ => true
  | .int _ => true
  | .str _ => true
  | .tup _ => true
  | .lst _ => true
  | _ => false
section
variable {n d w D : Nat} {T W : List IP} {hp B : List Cell} {S l : List Int} {k row v : Int} {env : List (Option M)} {y : M} {ms : List M}
theorem part_at (t : TabAt hp n d T) (h : plainM y = true) : F_Table___contains__ [.box n, y] hp = .ok (.bl (fT T y)) hp := by
  cases y with
  | int i => exact contains_int t
  | non => exact contains_no (by kernel_rfl)
  | bl b => exact contains_no (by cases b <;> kernel_rfl)
  | str x => exact contains_no (by kernel_rfl)
  | tup ms => exact contains_no (by kernel_rfl)
  | lst ms => exact contains_no (by kernel_rfl)
  | _ => cases h
theorem are_rows_tup (t : TabAt hp n d T) (h : ∀ m ∈ ms, plainM m = true) (hl : ms.length ≤ 1000) : F_are_rows [.box n, .tup ms] hp = .ok (.bl (ms.all (fT T))) hp := by
  have c1 : mCall (mCons (mv 1) (mCons (mc (.ty "tuple")) mNil)) (cIsi IS XS isi) ⟨[some (.box n), some (.tup ms), none], hp⟩ = .ok (.bl true) ⟨[some (.box n), some (.tup ms), none], hp⟩ := call_of (mcons_of (mv_of rfl) (mone rfl)) rfl
  have c2 : mLc [2] (iSeq (mv 1)) (gSet 2) mYes (m2 (oDunR "Table" F_Table___contains__ pBl (oInD false (oInL false))) (mv 2) (mv 0)) ⟨[some (.box n), some (.tup ms), none], hp⟩ = .ok (.lst (ms.map fun m => .bl (fT T m))) ⟨[some (.box n), some (.tup ms), none], hp⟩ := by
    have z := mlc_if (vs := [2]) (it := iSeq (mv 1)) (tg := gSet 2) (tt := mYes) (el := m2 (oDunR "Table" F_Table___contains__ pBl (oInD false (oInL false))) (mv 2) (mv 0)) (em := fun m : M => m) (f := fun m : M => M.bl (fT T m)) (p := fun _ => true) (xs := ms) (s := ⟨[some (.box n), some (.tup ms), none], hp⟩) (s1 := ⟨[some (.box n), some (.tup ms), none], hp⟩) (by rw [List.map_id']; rfl) (Nat.le_trans hl (by decide)) fun m hm =>
      ⟨⟨[some (.box n), some (.tup ms), some m], hp⟩, [some (.box n), some (.tup ms), some m], rfl, rfl, fun _ => ⟨_, m2_of (mv_of rfl) (mv_of rfl) (by
        unfold oDunR
        rw [if_pos (isIns_at (s := ⟨[some (.box n), some (.tup ms), some m], hp⟩) t), part_at t (h m hm)]
        rfl)⟩⟩
    rw [z, List.filter_eq_self.mpr (fun _ _ => rfl)]
  refine (show F_are_rows [.box n, .tup ms] hp = bodyF 2 3 m_are_rows [.box n, .tup ms] hp from rfl).trans (body_rt (s' := ⟨[some (.box n), some (.tup ms), none], hp⟩) (ret_of ?_))
  refine (andv_t c1).trans (call_of (mone c2) ?_)
  show (match blsOf (ms.map fun m => M.bl (fT T m)) with | some bs => Res.ok (M.bl (bs.all id)) _ | none => Res.stuck) = _
  rw [blsOf_map]
  simp [List.all_map, Function.comp_def]
end
end Lw
namespace Lw
open L2 Ma PySem.Spec PySem PyProof.Rows
/-! dicts of ints that change; pieces of the machine over them -/
def putP (ps : List IP) (k v : Int) : List IP := if k ∈ keysP ps then updP ps k v else ps ++ [(k, v)]
def dropP (ps : List IP) (k : Int) : List IP := ps.filter fun p => decide (p.1 ≠ k)
theorem putG_put (ps : List IP) (k v : Int) : putG (dm ps) (.inl k) (.int v) = dm (putP ps k v) := by
  unfold putP
  by_cases h : k ∈ keysP ps
  · rw [if_pos h]; exact putG_upd h
  · rw [if_neg h]; exact putG_new h
theorem dropG_dm : ∀ (ps : List IP) (k : Int), dropG (dm ps) (.inl k) = dm (dropP ps k)
  | [], k => rfl
  | p :: ps, k => by
    have ih := dropG_dm ps k
    show List.filter (fun kv => decide (kv.1 ≠ Sum.inl k)) ((Sum.inl p.1, M.int p.2) :: dm ps) = dm (List.filter (fun p => decide (p.1 ≠ k)) (p :: ps))
    have ih : List.filter (fun kv : Key × M => decide (kv.1 ≠ Sum.inl k)) (dm ps) = dm (List.filter (fun p : IP => decide (p.1 ≠ k)) ps) := ih
    rw [List.filter_cons, List.filter_cons]
    by_cases e : p.1 = k
    · have e1 : decide ((Sum.inl p.1 : Key) ≠ Sum.inl k) = false := by simp [e]
      have e2 : decide (p.1 ≠ k) = false := by simp [e]
      simp only [e1, e2, Bool.false_eq_true, if_false]
      exact ih
    · have e1 : decide ((Sum.inl p.1 : Key) ≠ Sum.inl k) = true := decide_eq_true fun z => e (Sum.inl.inj z)
      have e2 : decide (p.1 ≠ k) = true := by simp [e]
      simp only [e1, e2, if_true]
      rw [ih]; rfl
theorem getP_cons (p : IP) (ps : List IP) (j : Int) : getP (p :: ps) j = if p.1 = j then some p.2 else getP ps j := by
  by_cases h : p.1 = j
  · rw [if_pos h]; simp [getP, List.find?_cons, h]
  · rw [if_neg h]; simp [getP, List.find?_cons, h]
theorem getP_upd {k v : Int} (j : Int) : ∀ {ps : List IP}, k ∈ keysP ps → getP (updP ps k v) j = if j = k then some v else getP ps j
  | [], h => by simp at h
  | p :: ps, h => by
    show getP ((if p.1 = k then (p.1, v) else p) :: updP ps k v) j = _
    by_cases hk : k ∈ keysP ps
    · rw [getP_cons, getP_upd j hk, getP_cons]
      by_cases e : p.1 = k
      · rw [if_pos e]
        by_cases z : p.1 = j
        · rw [if_pos z, if_pos (z.symm.trans e)]
        · rw [if_neg z, if_neg z]
      · rw [if_neg e]
        by_cases z : p.1 = j
        · rw [if_pos z, if_pos z, if_neg fun y => e (z.trans y)]
        · rw [if_neg z, if_neg z]
    · have e : p.1 = k := by
        rcases List.mem_cons.mp h with e | e
        · exact e.symm
        · exact absurd e hk
      have same : updP ps k v = ps := by
        unfold updP
        refine (List.map_congr_left (g := id) fun q hq => ?_).trans (List.map_id ps)
        have z : q.1 ≠ k := fun z => hk (z ▸ List.mem_map.mpr ⟨q, hq, rfl⟩)
        show (if q.1 = k then (q.1, v) else q) = id q
        rw [if_neg z]
        rfl
      rw [if_pos e, same, getP_cons, getP_cons]
      by_cases z : p.1 = j
      · rw [if_pos z, if_pos (z.symm.trans e)]
      · rw [if_neg z, if_neg fun y => z (e.trans y.symm), if_neg z]
theorem getP_snoc {k v : Int} (j : Int) : ∀ {ps : List IP}, k ∉ keysP ps → getP (ps ++ [(k, v)]) j = if j = k then some v else getP ps j
  | [], _ => by
    show getP [(k, v)] j = _
    rw [getP_cons]
    by_cases e : k = j
    · rw [if_pos e, if_pos e.symm]
    · rw [if_neg e, if_neg fun z => e z.symm]
  | p :: ps, h => by
    have hp : p.1 ≠ k := fun z => h (List.mem_cons.mpr (.inl z.symm))
    have hk : k ∉ keysP ps := fun z => h (List.mem_cons_of_mem _ z)
    show getP (p :: (ps ++ [(k, v)])) j = _
    rw [getP_cons, getP_snoc j hk, getP_cons]
    by_cases e : p.1 = j
    · rw [if_pos e, if_pos e, if_neg fun z => hp (e.trans z)]
    · rw [if_neg e, if_neg e]
theorem getP_put (ps : List IP) (k v j : Int) : getP (putP ps k v) j = if j = k then some v else getP ps j := by
  unfold putP
  by_cases h : k ∈ keysP ps
  · rw [if_pos h]; exact getP_upd j h
  · rw [if_neg h]; exact getP_snoc j h
theorem getP_drop (k j : Int) : ∀ ps : List IP, getP (dropP ps k) j = if j = k then none else getP ps j
  | [] => by show (none : Option Int) = if j = k then none else none; split <;> rfl
  | p :: ps => by
    have ih := getP_drop k j ps
    unfold dropP at ih ⊢
    rw [List.filter_cons]
    by_cases e : p.1 = k
    · have e2 : decide (p.1 ≠ k) = false := by simp [e]
      simp only [e2, Bool.false_eq_true, if_false]
      rw [ih, getP_cons]
      by_cases z : j = k
      · rw [if_pos z, if_pos z]
      · rw [if_neg z, if_neg z, if_neg fun y => z (y.symm.trans e)]
    · have e2 : decide (p.1 ≠ k) = true := by simp [e]
      simp only [e2, if_true]
      rw [getP_cons, ih, getP_cons]
      by_cases y : p.1 = j
      · rw [if_pos y, if_pos y, if_neg fun z => e (y.trans z)]
      · rw [if_neg y, if_neg y]
theorem getP_key {ps : List IP} {k : Int} : (getP ps k).isSome = true ↔ k ∈ keysP ps := by
  cases h : getP ps k with
  | none => simp only [Option.isSome_none, Bool.false_eq_true, false_iff]; exact getP_none.mp h
  | some v => simp only [Option.isSome_some, true_iff]; exact List.mem_map.mpr ⟨_, getP_mem h, rfl⟩
theorem nd_put {ps : List IP} {k v : Int} (h : (keysP ps).Nodup) : (keysP (putP ps k v)).Nodup := by
  unfold putP
  by_cases e : k ∈ keysP ps
  · rw [if_pos e, keys_upd]; exact h
  · rw [if_neg e]
    rw [keysP, List.map_append, List.nodup_append]
    refine ⟨h, by simp, fun a ha b hb z => ?_⟩
    simp at hb
    subst hb z
    exact e ha
theorem nd_drop {ps : List IP} {k : Int} (h : (keysP ps).Nodup) : (keysP (dropP ps k)).Nodup := (List.filter_sublist.map _).nodup h
theorem len_put {ps : List IP} {k v : Int} : (putP ps k v).length ≤ ps.length + 1 := by
  unfold putP
  split
  · unfold updP; rw [List.length_map]; omega
  · simp
theorem len_upd {ps : List IP} {k v : Int} (h : k ∈ keysP ps) : (putP ps k v).length = ps.length := by
  unfold putP
  rw [if_pos h]
  unfold updP; rw [List.length_map]
theorem len_drop {ps : List IP} {k : Int} (h : k ∈ keysP ps) : (dropP ps k).length + 1 ≤ ps.length := by
  obtain ⟨p, hp, e⟩ := List.mem_map.mp h
  have := List.length_filter_lt_length_iff_exists (p := fun p : IP => decide (p.1 ≠ k)) (l := ps) |>.mpr ⟨p, hp, by simp [e]⟩
  unfold dropP
  omega
theorem len_drop' (ps : List IP) (k : Int) : (dropP ps k).length ≤ ps.length := List.length_filter_le _ _
/-! ### the machine's pieces -/
section
variable {s s1 s2 s3 : MS} {a b e : ME} {ma : MA} {x y : M} {xs : List M} {F : Fn} {m : Str} {c f : Str} {fms : List (Str × M)} {tbl : List (Str × Fn)} {is : List Str} {hp : List Cell} {i n w : Nat} {k v : Int} {W : List IP}
theorem fld_ins (h : a s = .ok (.box n) s1) (hn : s1.hp[n]? = some (.ins c fms)) (hc : is.contains c = true) (hf : fms.lookup f = some y) : mFld is [] f a s = .ok y s1 := by
  unfold mFld
  rw [h]
  show oFld is [] f (.box n) s1 = _
  unfold oFld fldM
  dsimp only
  rw [hn]
  dsimp only
  rw [if_pos hc, hf]
theorem own_of {res : M} (ha : a s = .ok x s1) (hm : methOf m tbl x s1 = some F) (hx : ma s1 = .ok xs s2) (hF : F (x :: xs) s2.hp = .ok res hp) : mOwn m tbl a ma s = .ok res ⟨s2.env, hp⟩ := by
  unfold mOwn
  rw [ha]
  show (match methOf m tbl x s1 with | some F => (ma s1).bind fun xs s2 => upF s2.env (F (x :: xs) s2.hp) | none => .stuck) = _
  rw [hm]
  show (ma s1).bind _ = _
  rw [hx]
  show upF s2.env (F (x :: xs) s2.hp) = _
  rw [hF]
  rfl
theorem methOf_of (hn : s.hp[n]? = some (.ins c fms)) (h1 : fms.lookup m = none) (h2 : tbl.lookup c = some F) : methOf m tbl (.box n) s = some F := by
  unfold methOf
  dsimp only
  rw [hn]
  dsimp only
  rw [if_pos h1, h2]
theorem callI_of {res : M} (ha : a s = .ok (.box n) s1) (h1 : s1.hp[n]? = some (.ins c fms)) (hx : ma s1 = .ok xs s2) (h2 : s2.hp[n]? = some (.ins c fms)) (ht : tbl.lookup c = some F) (hF : F (.box n :: xs) s2.hp = .ok res hp) : mCallI tbl a ma s = .ok res ⟨s2.env, hp⟩ := by
  have e1 : callOf tbl (.box n) s1 = some F := by unfold callOf; dsimp only; rw [h1]; exact ht
  have e2 : callOf tbl (.box n) s2 = some F := by unfold callOf; dsimp only; rw [h2]; exact ht
  unfold mCallI
  rw [ha]
  show (match callOf tbl (.box n) s1 with | none => Res.stuck | some _ => (ma s1).bind fun xs s2 => match callOf tbl (.box n) s2 with | some F => upF s2.env (F (.box n :: xs) s2.hp) | none => .stuck) = _
  rw [e1]
  show (ma s1).bind _ = _
  rw [hx]
  show (match callOf tbl (.box n) s2 with | some F => upF s2.env (F (.box n :: xs) s2.hp) | none => .stuck) = _
  rw [e2]
  show upF s2.env (F (.box n :: xs) s2.hp) = _
  rw [hF]
  rfl
theorem dicL {kms : List (L2.Key × M)} (h : hp[w]? = some (.dK kms)) : dictL hp (.box w) = some kms := by
  unfold dictL
  dsimp only
  rw [h]
theorem dicO {kms : List (L2.Key × M)} (h : hp[w]? = some (.dK kms)) : dictOf hp (.box w) = some kms := by
  unfold dictOf
  dsimp only
  rw [h]
theorem del_of (ha : a s = .ok (.box w) s1) (hb : b s1 = .ok (.int k) s2) (hw : s2.hp[w]? = some (.dK (dm W))) (hk : k ∈ keysP W) : sDel a b s = .ok .nx ⟨s2.env, s2.hp.set w (.dK (dm (dropP W k)))⟩ := by
  unfold sDel
  rw [ha]
  show (b s1).bind _ = _
  rw [hb]
  show fDel (.box w) (.int k) s2 = _
  unfold fDel
  rw [dicL hw]
  dsimp only [keyM]
  have z : (valG (dm W) (.inl k)).isSome = true := by rw [valG_dm, Option.isSome_map]; exact getP_key.mpr hk
  rw [if_pos z, dropG_dm]
theorem put_of (he : e s = .ok (.int v) s1) (ha : a s1 = .ok (.box w) s2) (hb : b s2 = .ok (.int k) s3) (hw : s3.hp[w]? = some (.dK (dm W))) (hl : W.length < 1000) : sAsg e (gSub a b (fSetD fSetL)) s = .ok .nx ⟨s3.env, s3.hp.set w (.dK (dm (putP W k v)))⟩ := by
  unfold sAsg
  rw [he]
  unfold Ma.gSub
  show (((a s1).bind fun x s1 => (b s1).bind fun k s2 => fSetD fSetL x k (.int v) s2).bind fun x s2 => Res.ok Fl.nx s2) = _
  rw [ha]
  show (((b s2).bind fun k s2 => fSetD fSetL (.box w) k (.int v) s2).bind fun x s2 => Res.ok Fl.nx s2) = _
  rw [hb]
  show ((fSetD fSetL (.box w) (.int k) (.int v) s3).bind fun x s2 => Res.ok Fl.nx s2) = _
  unfold fSetD
  rw [dicL hw]
  dsimp only [keyM]
  rw [if_pos (by rw [List.length_map]; show W.length < 16777216; omega), putG_put]
  rfl
theorem get1_of (ha : a s = .ok (.box w) s1) (hw1 : s1.hp[w]? = some (.dK (dm W))) (hb : b s1 = .ok (.int k) s2) (hw : s2.hp[w]? = some (.dK (dm W))) : mGet1 a b s = .ok (match getP W k with | some v => .int v | none => .non) s2 := by
  unfold mGet1
  rw [ha]
  show (match dictL s1.hp (.box w) with | none => Res.stuck | some _ => _) = _
  rw [dicL hw1]
  show (b s1).bind _ = _
  rw [hb]
  show (match dictL s2.hp (.box w), keyM (.int k) with | some kms, some k => (match valG kms k with | some m => Res.ok m s2 | none => .ok .non s2) | _, _ => .stuck) = _
  rw [dicL hw]
  show (match valG (dm W) (.inl k) with | some m => Res.ok m s2 | none => .ok .non s2) = _
  rw [valG_dm]
  cases getP W k <;> rfl
theorem ixd_of (ha : a s = .ok (.box w) s1) (hb : b s1 = .ok (.int k) s2) (hw : s2.hp[w]? = some (.dK (dm W))) (hk : getP W k = some v) : m2 (oIxD oIx) a b s = .ok (.int v) s2 :=
  m2_of ha hb (ixw (dicO hw) hk)
theorem gapp {L : List Cell} {c : Cell} (i : Nat) (h : L[i]? = some c) : (hp ++ L)[hp.length + i]? = some c := by
  rw [List.getElem?_append_right (Nat.le_add_right _ _), Nat.add_sub_cancel_left]
  exact h
theorem glow {L : List Cell} {c : Cell} {i : Nat} (h : hp[i]? = some c) : (hp ++ L)[i]? = some c := by
  rw [List.getElem?_append_left (List.getElem?_eq_some_iff.mp h).1]
  exact h
theorem gset {c c' : Cell} {i j : Nat} (h : hp[i]? = some c) (ne : j ≠ i) : (hp.set j c')[i]? = some c := by
  rw [List.getElem?_set_ne ne]; exact h
theorem gsame {c c' : Cell} {i : Nat} (h : hp[i]? = some c) : (hp.set i c')[i]? = some c' := by
  rw [List.getElem?_set_self (List.getElem?_eq_some_iff.mp h).1]
end
theorem dc_rowsF {vs : List Nat} {tg : MG} {tt : MT} {kx el : ME} (f : IP → Int) : ∀ {ps acc : List IP} {s : MS}, acc.length + ps.length ≤ big → (keysP (acc ++ ps)).Nodup → (keysP acc ++ keysP ps).Nodup →
    (∀ p ∈ ps, ∃ s1 s2 e3 e4, tg (pM p) ⟨wipeM s.env vs, s.hp⟩ = .ok () s1 ∧ tt s1 = .ok true s2 ∧ kx s2 = .ok (.int p.1) ⟨e3, s.hp⟩ ∧ el ⟨e3, s.hp⟩ = .ok (.int (f p)) ⟨e4, s.hp⟩) →
    dcLoop vs tg tt kx el (rm ps) (dm acc) s = .ok (dm (acc ++ ps.map fun p => (p.1, f p))) s
  | [], acc, s, _, _, _, _ => by show dcLoop vs tg tt kx el [] _ s = _; rw [dcLoop, List.map_nil, List.append_nil]
  | p :: ps, acc, s, hl, hn, hn2, h => by
    obtain ⟨s1, s2, e3, e4, h1, h2, h3, h4⟩ := h p (by simp)
    rw [List.length_cons] at hl
    have hb : (dm acc).length < big := by rw [List.length_map]; omega
    show dcLoop vs tg tt kx el (pM p :: rm ps) (dm acc) s = _
    have hq : p.1 ∉ keysP acc := by
      intro hm
      rw [List.nodup_append] at hn2
      exact hn2.2.2 p.1 hm p.1 (by simp) rfl
    rw [dcLoop, h1]
    dsimp only
    rw [h2]
    dsimp only
    rw [h3]
    dsimp only
    rw [h4]
    dsimp only [keyM]
    rw [if_pos hb, putG_new hq]
    have ih := dc_rowsF (vs := vs) (tg := tg) (tt := tt) (kx := kx) (el := el) f (ps := ps) (acc := acc ++ [(p.1, f p)]) (s := ⟨s.env, s.hp⟩) (by simp; omega)
      (by
        rw [keysP, List.map_append, List.map_append]
        rw [keysP, List.map_append, List.map_cons] at hn
        simpa using hn)
      (by
        rw [keysP, List.map_append]
        simpa using hn2) (fun q hq => h q (by simp [hq]))
    rw [ih]
    simp
end Lw
namespace Lw
open L2 Ma PySem.Spec PySem PyProof.Rows
/-! a run: what its methods do -/
abbrev insR (rw wt ks hs : Nat) : Cell := .ins "Run" [("_rows", .box rw), ("_wanted", .box wt), ("_keys", .box ks), ("_holders", .box hs)]
structure RunAt (hp : List Cell) (R rw wt ks hs : Nat) (T K Hd : List IP) : Prop where
  i : hp[R]? = some (insR rw wt ks hs)
  jw : hp[rw]? = some (.tP (rm T))
  jt : hp[wt]? = some (.dK (dm T))
  jk : hp[ks]? = some (.dK (dm K))
  jh : hp[hs]? = some (.dK (dm Hd))
  n1 : wt ≠ ks
  n2 : wt ≠ hs
  n3 : ks ≠ hs
structure Kp (hp hp' : List Cell) (ks hs : Nat) : Prop where
  len : hp'.length = hp.length
  out : ∀ (i : Nat) (c : Cell), hp[i]? = some c → i ≠ ks → i ≠ hs → hp'[i]? = some c
theorem Kp.refl (hp : List Cell) (ks hs : Nat) : Kp hp hp ks hs := ⟨rfl, fun _ _ h _ _ => h⟩
theorem Kp.trans {h1 h2 h3 : List Cell} {ks hs : Nat} (a : Kp h1 h2 ks hs) (b : Kp h2 h3 ks hs) : Kp h1 h3 ks hs := ⟨b.len.trans a.len, fun i c h n1 n2 => b.out i c (a.out i c h n1 n2) n1 n2⟩
theorem Kp.set1 {hp : List Cell} {ks hs : Nat} {c : Cell} : Kp hp (hp.set ks c) ks hs := ⟨List.length_set, fun i d h n1 _ => gset h (Ne.symm n1)⟩
theorem Kp.set2 {hp : List Cell} {ks hs : Nat} {c : Cell} : Kp hp (hp.set hs c) ks hs := ⟨List.length_set, fun i d h _ n1 => gset h (Ne.symm n1)⟩
section
variable {hp hp' : List Cell} {R rw wt ks hs n : Nat} {T K Hd K' Hd' : List IP} {env : List (Option M)} {r k w h : Int} {x : M}
theorem ne_kind {c d : Cell} {i j : Nat} (h1 : hp[i]? = some c) (h2 : hp[j]? = some d) (ne : c ≠ d) : i ≠ j := fun z => by
  subst z
  rw [h1] at h2
  exact ne (Option.some.inj h2)
theorem RunAt.next (a : RunAt hp R rw wt ks hs T K Hd) (k : Kp hp hp' ks hs) (h1 : hp'[ks]? = some (.dK (dm K'))) (h2 : hp'[hs]? = some (.dK (dm Hd'))) : RunAt hp' R rw wt ks hs T K' Hd' :=
  ⟨k.out _ _ a.i (ne_kind a.i a.jk (by unfold insR; exact fun z => by cases z)) (ne_kind a.i a.jh (by unfold insR; exact fun z => by cases z)),
   k.out _ _ a.jw (ne_kind a.jw a.jk fun z => by cases z) (ne_kind a.jw a.jh fun z => by cases z),
   k.out _ _ a.jt a.n1 a.n2, h1, h2, a.n1, a.n2, a.n3⟩
theorem RunAt.fK (a : RunAt hp R rw wt ks hs T K Hd) (e : env[0]? = some (some (.box R))) : mFld ["Run"] [] "_keys" (mv 0) ⟨env, hp⟩ = .ok (.box ks) ⟨env, hp⟩ := fld_ins (mv_of e) a.i rfl rfl
theorem RunAt.fH (a : RunAt hp R rw wt ks hs T K Hd) (e : env[0]? = some (some (.box R))) : mFld ["Run"] [] "_holders" (mv 0) ⟨env, hp⟩ = .ok (.box hs) ⟨env, hp⟩ := fld_ins (mv_of e) a.i rfl rfl
theorem RunAt.fW (a : RunAt hp R rw wt ks hs T K Hd) (e : env[0]? = some (some (.box R))) : mFld ["Run"] [] "_wanted" (mv 0) ⟨env, hp⟩ = .ok (.box wt) ⟨env, hp⟩ := fld_ins (mv_of e) a.i rfl rfl
theorem RunAt.xK (a : RunAt hp R rw wt ks hs T K Hd) (e : env[0]? = some (some (.box R))) (e1 : env[1]? = some (some (.int r))) (g : getP K r = some k) : m2 (oIxD oIx) (mFld ["Run"] [] "_keys" (mv 0)) (mv 1) ⟨env, hp⟩ = .ok (.int k) ⟨env, hp⟩ := ixd_of (a.fK e) (mv_of e1) a.jk g
theorem RunAt.xW (a : RunAt hp R rw wt ks hs T K Hd) (e : env[0]? = some (some (.box R))) (e1 : env[1]? = some (some (.int r))) (g : getP T r = some k) : m2 (oIxD oIx) (mFld ["Run"] [] "_wanted" (mv 0)) (mv 1) ⟨env, hp⟩ = .ok (.int k) ⟨env, hp⟩ := ixd_of (a.fW e) (mv_of e1) a.jt g
theorem move_at (a : RunAt hp R rw wt ks hs T K Hd) (h1 : getP K r = some k) (h2 : getP T r = some w) (h3 : k ∈ keysP Hd) (l1 : K.length ≤ 100) (l2 : Hd.length ≤ 100) :
    ∃ hp', F_Run_move [.box R, .int r] hp = .ok .non hp' ∧ RunAt hp' R rw wt ks hs T (putP K r w) (putP (dropP Hd k) w r) ∧ Kp hp hp' ks hs := by
  have hp1 := Kp.set2 (hp := hp) (ks := ks) (hs := hs) (c := .dK (dm (dropP Hd k)))
  have a1 : RunAt (hp.set hs (.dK (dm (dropP Hd k)))) R rw wt ks hs T K (dropP Hd k) := a.next hp1 (gset a.jk (Ne.symm a.n3)) (gsame a.jh)
  have hp2 := Kp.set1 (hp := hp.set hs (.dK (dm (dropP Hd k)))) (ks := ks) (hs := hs) (c := .dK (dm (putP K r w)))
  have a2 : RunAt ((hp.set hs (.dK (dm (dropP Hd k)))).set ks (.dK (dm (putP K r w)))) R rw wt ks hs T (putP K r w) (dropP Hd k) := a1.next hp2 (gsame a1.jk) (gset a1.jh a.n3)
  have hp3 := Kp.set2 (hp := (hp.set hs (.dK (dm (dropP Hd k)))).set ks (.dK (dm (putP K r w)))) (ks := ks) (hs := hs) (c := .dK (dm (putP (dropP Hd k) w r)))
  have a3 := a2.next (Hd' := putP (dropP Hd k) w r) hp3 (gset a2.jk (Ne.symm a.n3)) (gsame a2.jh)
  refine ⟨_, body_nx (s' := ⟨[some (.box R), some (.int r)], _⟩) ?_, a3, (hp1.trans hp2).trans hp3⟩
  have ld := len_drop' Hd k
  refine seq_of (del_of (a.fH rfl) (a.xK rfl rfl h1) a.jh h3) (seq_of (put_of (a1.xW rfl rfl h2) (a1.fK rfl) (mv_of rfl) a1.jk (by omega)) (put_of (mv_of rfl) (a2.fH rfl) (a2.xW rfl rfl h2) a2.jh (by omega)))
theorem take_at (a : RunAt hp R rw wt ks hs T K Hd) (h1 : getP K r = some k) (h3 : k ∈ keysP Hd) :
    ∃ hp', F_Run_take_out [.box R, .int r] hp = .ok .non hp' ∧ RunAt hp' R rw wt ks hs T (dropP K r) (dropP Hd k) ∧ Kp hp hp' ks hs := by
  have hp1 := Kp.set2 (hp := hp) (ks := ks) (hs := hs) (c := .dK (dm (dropP Hd k)))
  have a1 : RunAt (hp.set hs (.dK (dm (dropP Hd k)))) R rw wt ks hs T K (dropP Hd k) := a.next hp1 (gset a.jk (Ne.symm a.n3)) (gsame a.jh)
  have hp2 := Kp.set1 (hp := hp.set hs (.dK (dm (dropP Hd k)))) (ks := ks) (hs := hs) (c := .dK (dm (dropP K r)))
  have a2 := a1.next (K' := dropP K r) hp2 (gsame a1.jk) (gset a1.jh a.n3)
  refine ⟨_, body_nx (s' := ⟨[some (.box R), some (.int r)], _⟩) ?_, a2, hp1.trans hp2⟩
  exact seq_of (del_of (a.fH rfl) (a.xK rfl rfl h1) a.jh h3) (del_of (a1.fK rfl) (mv_of rfl) a1.jk (getP_key.mp (by rw [h1]; rfl)))
theorem notin_at (a : RunAt hp R rw wt ks hs T K Hd) (e : env[0]? = some (some (.box R))) (e1 : env[1]? = some (some (.int r))) : mB (m2 (oInD true (oInL true)) (mv 1) (mFld ["Run"] [] "_keys" (mv 0))) ⟨env, hp⟩ = .ok (!(getP K r).isSome) ⟨env, hp⟩ :=
  b_of (m2_of (mv_of e1) (a.fK e) (by rw [inw (dicO a.jk)]; rfl))
def visC (T K Hd : List IP) (r : Int) : Bool := (getP K r).isSome && (getP K r != getP T r)
theorem visit_no (a : RunAt hp R rw wt ks hs T K Hd) (ht : (getP T r).isSome = true) (hv : visC T K Hd r = false) : F_Run_visit [.box R, .int r] hp = .ok .non hp := by
  refine body_rt (s' := ⟨[some (.box R), some (.int r), none], hp⟩) ?_
  show sSeq _ _ ⟨[some (.box R), some (.int r), none], hp⟩ = _
  have t : mOr (mB (m2 (oInD true (oInL true)) (mv 1) (mFld ["Run"] [] "_keys" (mv 0)))) (mB (m2 (oEqK false (oEqD false)) (m2 (oIxD oIx) (mFld ["Run"] [] "_keys" (mv 0)) (mv 1)) (m2 (oIxD oIx) (mFld ["Run"] [] "_wanted" (mv 0)) (mv 1)))) ⟨[some (.box R), some (.int r), none], hp⟩ = .ok true ⟨[some (.box R), some (.int r), none], hp⟩ := by
    have n := notin_at (env := [some (.box R), some (.int r), none]) a rfl rfl
    unfold visC at hv
    cases hk : getP K r with
    | none =>
      rw [hk] at n
      unfold mOr
      rw [n]
      rfl
    | some k =>
      rw [hk] at n hv
      obtain ⟨w, hw⟩ := Option.isSome_iff_exists.mp ht
      rw [hw] at hv
      have e : k = w := by simpa using hv
      subst e
      refine (or_f n).trans (b_of (m2_of (a.xK rfl rfl hk) (a.xW rfl rfl hw) ?_))
      rw [eq_int]
      simp
  unfold sSeq
  rw [if_of t]
  rfl
theorem visit_hold (a : RunAt hp R rw wt ks hs T K Hd) (h1 : getP K r = some k) (h2 : getP T r = some w) (ne : k ≠ w) (h3 : getP Hd w = some h) : F_Run_visit [.box R, .int r] hp = .ok (.int h) hp := by
  refine body_rt (s' := ⟨[some (.box R), some (.int r), some (.int h)], hp⟩) ?_
  have n := notin_at (env := [some (.box R), some (.int r), none]) a rfl rfl
  rw [h1] at n
  have t : mB (m2 (oEqK false (oEqD false)) (m2 (oIxD oIx) (mFld ["Run"] [] "_keys" (mv 0)) (mv 1)) (m2 (oIxD oIx) (mFld ["Run"] [] "_wanted" (mv 0)) (mv 1))) ⟨[some (.box R), some (.int r), none], hp⟩ = .ok false ⟨[some (.box R), some (.int r), none], hp⟩ :=
    b_of (m2_of (a.xK rfl rfl h1) (a.xW rfl rfl h2) (by rw [eq_int]; simp [ne]))
  refine seq_of (s1 := ⟨[some (.box R), some (.int r), none], hp⟩) ((if_of ((or_f n).trans t)).trans rfl) ?_
  refine seq_of (set_of (m := .int h) (s1 := ⟨[some (.box R), some (.int r), none], hp⟩) ((get1_of (a.fH rfl) a.jh (a.xW rfl rfl h2) a.jh).trans (by rw [h3]))) ?_
  rfl
theorem visit_move (a : RunAt hp R rw wt ks hs T K Hd) (h1 : getP K r = some k) (h2 : getP T r = some w) (ne : k ≠ w) (h3 : getP Hd w = none) (h4 : k ∈ keysP Hd) (l1 : K.length ≤ 100) (l2 : Hd.length ≤ 100) :
    ∃ hp', F_Run_visit [.box R, .int r] hp = .ok .non hp' ∧ RunAt hp' R rw wt ks hs T (putP K r w) (putP (dropP Hd k) w r) ∧ Kp hp hp' ks hs := by
  obtain ⟨hp', e, a', k'⟩ := move_at a h1 h2 h4 l1 l2
  refine ⟨hp', body_rt (s' := ⟨[some (.box R), some (.int r), some .non], hp'⟩) ?_, a', k'⟩
  have n := notin_at (env := [some (.box R), some (.int r), none]) a rfl rfl
  rw [h1] at n
  have t : mB (m2 (oEqK false (oEqD false)) (m2 (oIxD oIx) (mFld ["Run"] [] "_keys" (mv 0)) (mv 1)) (m2 (oIxD oIx) (mFld ["Run"] [] "_wanted" (mv 0)) (mv 1))) ⟨[some (.box R), some (.int r), none], hp⟩ = .ok false ⟨[some (.box R), some (.int r), none], hp⟩ :=
    b_of (m2_of (a.xK rfl rfl h1) (a.xW rfl rfl h2) (by rw [eq_int]; simp [ne]))
  refine seq_of (s1 := ⟨[some (.box R), some (.int r), none], hp⟩) ((if_of ((or_f n).trans t)).trans rfl) ?_
  refine seq_of (set_of (m := .non) (s1 := ⟨[some (.box R), some (.int r), none], hp⟩) ((get1_of (a.fH rfl) a.jh (a.xW rfl rfl h2) a.jh).trans (by rw [h3]))) ?_
  refine seq_of (s1 := ⟨[some (.box R), some (.int r), some .non], hp'⟩) ?_ rfl
  refine (if_of (k := true) rfl).trans ?_
  rw [if_pos rfl]
  show sExpr _ ⟨[some (.box R), some (.int r), some .non], hp⟩ = _
  unfold sExpr
  rw [own_of (x := .box R) (mv_of rfl) (methOf_of (F := F_Run_move) a.i rfl rfl) (mone (mv_of rfl)) e]
  rfl
end
end Lw
namespace Lw
open L2 Ma PySem.Spec PySem PyProof.Rows
/-! a run made, and made anew; what rules do at a conflict -/
def idP (T : List IP) : List IP := T.map fun p => (p.1, p.1)
theorem keys_id (T : List IP) : keysP (idP T) = keysP T := by unfold idP keysP; rw [List.map_map]; rfl
theorem getP_id (T : List IP) (k : Int) : getP (idP T) k = if (getP T k).isSome = true then some k else none := by
  induction T with
  | nil => rfl
  | cons p T ih =>
    show getP ((p.1, p.1) :: idP T) k = _
    rw [getP_cons, getP_cons, ih]
    by_cases e : p.1 = k
    · rw [if_pos e, if_pos e, e]; rfl
    · rw [if_neg e, if_neg e]
theorem len_id (T : List IP) : (idP T).length = T.length := List.length_map ..
theorem ext_kp {B hp hp' : List Cell} {ks hs : Nat} (h : Ext B hp) (k : Kp hp hp' ks hs) (h1 : B.length ≤ ks) (h2 : B.length ≤ hs) : Ext B hp' := fun i c e => by
  have := (List.getElem?_eq_some_iff.mp e).1
  exact k.out i c (h i c e) (by omega) (by omega)
section
variable {hp hp' B : List Cell} {q R rw wt ks hs n : Nat} {T K Hd K' Hd' : List IP} {env : List (Option M)} {r k w h : Int} {x y : M} {fms : List (Str × M)} {s s1 s2 : MS} {a b : ME} {c f : Str}
theorem putf_of (hb : b s = .ok y s1) (ha : a s1 = .ok (.box R) s2) (hR : s2.hp[R]? = some (.ins c fms)) (hl : fms.length < 900) : sPut c f a b s = .ok .nx ⟨s2.env, s2.hp.set R (.ins c (putFM f y fms))⟩ := by
  unfold sPut
  rw [hb]
  show (a s1).bind _ = _
  rw [ha]
  show fPut c f (.box R) y s2 = _
  unfold fPut
  dsimp only
  rw [hR]
  dsimp only
  rw [if_pos ⟨rfl, hl⟩]
theorem expr_of {m : M} (h : a s = .ok m s1) : sExpr a s = .ok .nx s1 := by
  unfold sExpr
  rw [h]
  rfl
theorem tpL_of {ms : List M} (h : hp[n]? = some (.tP ms)) : tpL hp (.box n) = some ms := by
  unfold tpL
  dsimp only
  rw [h]
theorem seqP_of {ms : List M} (ha : a s = .ok (.box n) s1) (h : s1.hp[n]? = some (.tP ms)) : iSeqP a s = .ok ms s1 := by
  unfold iSeqP
  rw [ha]
  show (match tpL s1.hp (.box n) with | some ms => Res.ok ms s1 | none => .stuck) = _
  rw [tpL_of h]
abbrev rk0 : ME := m2 (oIxD oIx) (mv 1) (mc (.int 0))
theorem idc_at (nd : (keysP T).Nodup) (lT : T.length ≤ 40) (hR : hp[R]? = some (.ins "Run" fms)) (hf : fms.lookup ("_rows" : Str) = some (.box rw)) (hw : hp[rw]? = some (.tP (rm T))) {o : Option M} :
    mDc [1] (iSeqP (mFld ["Run"] [] "_rows" (mv 0))) (gSet 1) mYes rk0 rk0 ⟨[some (.box R), o], hp⟩ = .ok (.box hp.length) ⟨[some (.box R), o], hp ++ [.dK (dm (idP T))]⟩ := by
  unfold mDc
  rw [seqP_of (ms := rm T) (s1 := ⟨[some (.box R), o], hp⟩) (fld_ins (mv_of rfl) hR rfl hf) hw]
  show (dcLoop [1] (gSet 1) mYes rk0 rk0 (rm T) (dm []) ⟨[some (.box R), o], hp⟩).bind _ = _
  have nd' : (keysP ([] ++ T)).Nodup := nd
  rw [dc_rowsF (tt := mYes) (fun p => p.1) (ps := T) (acc := []) (by show 0 + T.length ≤ 16777216; omega) nd' nd fun p _ => ⟨_, _, [some (.box R), some (pM p)], [some (.box R), some (pM p)], rfl, rfl, rfl, rfl⟩]
  rfl
theorem start_at (nd : (keysP T).Nodup) (lT : T.length ≤ 40) (hR : hp[R]? = some (.ins "Run" fms)) (hf : fms.lookup ("_rows" : Str) = some (.box rw)) (hw : hp[rw]? = some (.tP (rm T))) (hl : fms.length < 800)
    (hf2 : (putFM "_keys" (.box hp.length) fms).lookup ("_rows" : Str) = some (.box rw)) (hl2 : (putFM "_keys" (.box hp.length) fms).length < 800) :
    ∃ hp', F_Run_start_again [.box R] hp = .ok .non hp' ∧ hp'[R]? = some (.ins "Run" (putFM "_holders" (.box (hp.length + 1)) (putFM "_keys" (.box hp.length) fms))) ∧ hp'[hp.length]? = some (.dK (dm (idP T))) ∧ hp'[hp.length + 1]? = some (.dK (dm (idP T))) ∧
      hp'.length = hp.length + 2 ∧ ∀ (i : Nat) (c : Cell), hp[i]? = some c → i ≠ R → hp'[i]? = some c := by
  have lR : R < hp.length := (List.getElem?_eq_some_iff.mp hR).1
  have h1 : (hp ++ [Cell.dK (dm (idP T))])[R]? = some (.ins "Run" fms) := glow hR
  have e1 := putf_of (f := "_keys") (idc_at nd lT hR hf hw (o := none)) (mv_of (i := 0) (m := .box R) rfl) h1 (by omega)
  have hA : ((hp ++ [Cell.dK (dm (idP T))]).set R (.ins "Run" (putFM "_keys" (.box hp.length) fms)))[R]? = some (.ins "Run" (putFM "_keys" (.box hp.length) fms)) := gsame h1
  have rwR : rw ≠ R := fun z => by subst z; rw [hR] at hw; cases hw
  have hB : ((hp ++ [Cell.dK (dm (idP T))]).set R (.ins "Run" (putFM "_keys" (.box hp.length) fms)))[rw]? = some (.tP (rm T)) := gset (glow hw) (Ne.symm rwR)
  have lA : ((hp ++ [Cell.dK (dm (idP T))]).set R (.ins "Run" (putFM "_keys" (.box hp.length) fms))).length = hp.length + 1 := by simp
  have e2 := putf_of (f := "_holders") (idc_at nd lT hA hf2 hB (o := none)) (mv_of (i := 0) (m := .box R) rfl) (glow hA) (by omega)
  rw [lA] at e2
  refine ⟨_, body_nx (s' := ⟨[some (.box R), none], _⟩) (seq_of e1 e2), gsame (glow hA), ?_, ?_, ?_, fun i c hi hn => ?_⟩
  · refine gset (glow ?_) (by omega)
    exact gset (gapp 0 rfl) (by omega)
  · refine gset ?_ (by omega)
    have := gapp (hp := ((hp ++ [Cell.dK (dm (idP T))]).set R (.ins "Run" (putFM "_keys" (.box hp.length) fms)))) (L := [Cell.dK (dm (idP T))]) 0 rfl
    rw [lA] at this
    exact this
  · simp
  · exact gset (glow (gset (glow hi) (Ne.symm hn))) (Ne.symm hn)
theorem restart_at (nd : (keysP T).Nodup) (lT : T.length ≤ 40) (a : RunAt hp R rw wt ks hs T K Hd) (e : Ext B hp) (bR : B.length ≤ R) :
    ∃ hp' ks' hs', F_Run_start_again [.box R] hp = .ok .non hp' ∧ RunAt hp' R rw wt ks' hs' T (idP T) (idP T) ∧ Ext B hp' ∧ B.length ≤ ks' ∧ B.length ≤ hs' := by
  obtain ⟨hp', e1, h1, h2, h3, h4, h5⟩ := start_at nd lT a.i rfl a.jw (by show 4 < 800; decide) rfl (by show 4 < 800; decide)
  have lw := (List.getElem?_eq_some_iff.mp a.jt).1
  have lR := (List.getElem?_eq_some_iff.mp a.i).1
  refine ⟨hp', hp.length, hp.length + 1, e1, ⟨h1, h5 _ _ a.jw (ne_kind a.jw a.i fun z => by cases z), h5 _ _ a.jt (ne_kind a.jt a.i fun z => by cases z), h2, h3, by omega, by omega, by omega⟩, fun i c hi => ?_, by omega, by omega⟩
  have := (List.getElem?_eq_some_iff.mp hi).1
  exact h5 i c (e i c hi) (by omega)
theorem dictT_of (nd : (keysP T).Nodup) (hw : s.hp[rw]? = some (.tP (rm T))) : cDictT cDict [.box rw] s = .ok (.box s.hp.length) ⟨s.env, s.hp ++ [.dK (dm T)]⟩ := by
  unfold cDictT
  dsimp only
  rw [hw]
  dsimp only
  rw [pairsM_rm]
  show Res.ok _ (⟨s.env, s.hp ++ [.dK (mergeM (dm []) (dm T))]⟩ : MS) = _
  rw [mergeM_dm (ps := []) nd]
  rfl
theorem init_run (nd : (keysP T).Nodup) (lT : T.length ≤ 40) (hR : hp[R]? = some (.ins "Run" [])) (hw : hp[rw]? = some (.tP (rm T))) :
    ∃ hp', F_Run___init__ [.box R, .box rw] hp = .ok .non hp' ∧ RunAt hp' R rw hp.length (hp.length + 1) (hp.length + 2) T (idP T) (idP T) ∧ ∀ (i : Nat) (c : Cell), hp[i]? = some c → i ≠ R → hp'[i]? = some c := by
  have rwR : rw ≠ R := ne_kind hw hR fun z => by cases z
  have lR := (List.getElem?_eq_some_iff.mp hR).1
  have e1 := putf_of (c := "Run") (f := "_rows") (s := ⟨[some (.box R), some (.box rw)], hp⟩) (mv_of (i := 1) (m := .box rw) rfl) (mv_of (i := 0) (m := .box R) rfl) hR (by decide)
  have hA : (hp.set R (.ins "Run" [("_rows", .box rw)]))[R]? = some (.ins "Run" [("_rows", .box rw)]) := gsame hR
  have hB : (hp.set R (.ins "Run" [("_rows", .box rw)]))[rw]? = some (.tP (rm T)) := gset hw (Ne.symm rwR)
  have e2 := putf_of (c := "Run") (f := "_wanted") (s := ⟨[some (.box R), some (.box rw)], hp.set R (.ins "Run" [("_rows", .box rw)])⟩) (call_of (o := cDictT cDict) (mone (mv_of (i := 1) (m := .box rw) rfl)) (dictT_of nd hB)) (mv_of (i := 0) (m := .box R) rfl) (glow hA) (by show 1 < 900; decide)
  have l1 : (hp.set R (.ins "Run" [("_rows", .box rw)])).length = hp.length := List.length_set
  dsimp only at e2
  rw [l1] at e2
  have hC : (((hp.set R (.ins "Run" [("_rows", .box rw)])) ++ [Cell.dK (dm T)]).set R (.ins "Run" [("_rows", .box rw), ("_wanted", .box hp.length)]))[R]? = some (.ins "Run" [("_rows", .box rw), ("_wanted", .box hp.length)]) := gsame (glow hA)
  have hD : (((hp.set R (.ins "Run" [("_rows", .box rw)])) ++ [Cell.dK (dm T)]).set R (.ins "Run" [("_rows", .box rw), ("_wanted", .box hp.length)]))[rw]? = some (.tP (rm T)) := gset (glow hB) (Ne.symm rwR)
  have hE : (((hp.set R (.ins "Run" [("_rows", .box rw)])) ++ [Cell.dK (dm T)]).set R (.ins "Run" [("_rows", .box rw), ("_wanted", .box hp.length)]))[hp.length]? = some (.dK (dm T)) := by
    refine gset ?_ (by omega)
    have := gapp (hp := hp.set R (.ins "Run" [("_rows", .box rw)])) (L := [Cell.dK (dm T)]) 0 rfl
    rw [l1] at this
    exact this
  have l2 : (((hp.set R (.ins "Run" [("_rows", .box rw)])) ++ [Cell.dK (dm T)]).set R (.ins "Run" [("_rows", .box rw), ("_wanted", .box hp.length)])).length = hp.length + 1 := by simp
  obtain ⟨hp', e3, h1, h2, h3, h4, h5⟩ := start_at nd lT hC rfl hD (by show 2 < 800; decide) rfl (by show 3 < 800; decide)
  rw [l2] at h1 h2 h3 h4
  refine ⟨hp', body_nx (s' := ⟨[some (.box R), some (.box rw)], hp'⟩) ?_, ⟨h1, h5 _ _ hD rwR, h5 _ _ hE (by omega), h2, h3, by omega, by omega, by omega⟩, fun i c hi hn => h5 i c (gset (glow (gset hi (Ne.symm hn))) (Ne.symm hn)) hn⟩
  refine seq_of e1 (seq_of e2 ?_)
  exact expr_of (own_of (s := ⟨[some (.box R), some (.box rw)], _⟩) (m := "start_again") (tbl := tbl_start_again) (ma := mNil) (F := F_Run_start_again) (mv_of (i := 0) (m := .box R) rfl) (methOf_of hC rfl rfl) rfl e3)
end
end Lw
namespace Lw
open L2 Ma PySem.Spec PySem PyProof.Rows
/-! a statement executed by a rule -/
inductive Rl where
  | ab | fa | ig | re
def Rl.nm : Rl → Str
  | .ab => "Abort"
  | .fa => "Fail"
  | .ig => "Ignore"
  | .re => "Replace"
abbrev LL := List IP × List IP
def wT (T : List IP) (r : Int) : Int := (getP T r).getD 0
def kS (S : LL) (r : Int) : Int := (getP S.1 r).getD 0
def mvR (T : List IP) (S : LL) (r : Int) : LL := (putP S.1 r (wT T r), putP (dropP S.2 (kS S r)) (wT T r) r)
def rmR (S : LL) (h : Int) : LL := (dropP S.1 h, dropP S.2 (kS S h))
def clR (ru : Rl) (T : List IP) (S : LL) (r h : Int) : LL := match ru with
  | .ab => (idP T, idP T)
  | .fa => S
  | .ig => S
  | .re => mvR T (rmR S h) r
def goes : Rl → Bool
  | .ab => false
  | .fa => false
  | .ig => true
  | .re => true
def goR (ru : Rl) (T : List IP) : List Int → LL → Option IP × LL
  | [], S => (none, S)
  | r :: o, S => if visC T S.1 S.2 r = true then (match getP S.2 (wT T r) with
      | some h => if goes ru = true then goR ru T o (clR ru T S r h) else (some (r, h), clR ru T S r h)
      | none => goR ru T o (mvR T S r))
    else goR ru T o S
/-- keys and holders agree -/
structure OkS (T : List IP) (S : LL) : Prop where
  nk : (keysP S.1).Nodup
  nh : (keysP S.2).Nodup
  inv : ∀ k r, getP S.2 k = some r ↔ getP S.1 r = some k
  sub : ∀ r, (getP S.1 r).isSome = true → (getP T r).isSome = true
  lk : S.1.length ≤ 40
  lh : S.2.length ≤ 40
theorem okS_0 {T : List IP} (nd : (keysP T).Nodup) (lT : T.length ≤ 40) : OkS T (idP T, idP T) := by
  refine ⟨by rw [keys_id]; exact nd, by rw [keys_id]; exact nd, fun k r => ?_, fun r h => ?_, by rw [len_id]; exact lT, by rw [len_id]; exact lT⟩
  · show getP (idP T) k = some r ↔ getP (idP T) r = some k
    rw [getP_id, getP_id]
    constructor
    · intro h
      split at h
      · rename_i z; cases h; rw [if_pos z]
      · cases h
    · intro h
      split at h
      · rename_i z; cases h; rw [if_pos z]
      · cases h
  · have h : (getP (idP T) r).isSome = true := h
    rw [getP_id] at h
    split at h
    · assumption
    · cases h
section
variable {T : List IP} {S : LL} {r h k w : Int}
theorem wT_of (h : getP T r = some w) : wT T r = w := by unfold wT; rw [h]; rfl
theorem kS_of (h : getP S.1 r = some k) : kS S r = k := by unfold kS; rw [h]; rfl
theorem okS_mv (o : OkS T S) (h1 : getP S.1 r = some k) (h2 : getP T r = some w) (h3 : getP S.2 w = none) : OkS T (mvR T S r) := by
  unfold mvR
  rw [wT_of h2, kS_of h1]
  have hk : k ∈ keysP S.2 := getP_key.mp (by rw [(o.inv k r).mpr h1]; rfl)
  refine ⟨nd_put o.nk, nd_put (nd_drop o.nh), fun k' r' => ?_, fun r' e => ?_, ?_, ?_⟩
  · show getP (putP (dropP S.2 k) w r) k' = some r' ↔ getP (putP S.1 r w) r' = some k'
    rw [getP_put, getP_drop, getP_put]
    by_cases e1 : k' = w
    · rw [if_pos e1]
      subst e1
      constructor
      · intro e; cases e; rw [if_pos rfl]
      · intro e
        by_cases e2 : r' = r
        · rw [e2]
        · rw [if_neg e2] at e
          have := (o.inv k' r').mpr e
          rw [h3] at this; cases this
    · rw [if_neg e1]
      by_cases e2 : r' = r
      · subst e2
        rw [if_pos rfl]
        constructor
        · intro e
          split at e
          · cases e
          · rename_i ne
            have := (o.inv k' r').mp e
            rw [h1] at this; cases this; exact absurd rfl ne
        · intro e; cases e; exact absurd rfl e1
      · rw [if_neg e2]
        constructor
        · intro e
          split at e
          · cases e
          · exact (o.inv k' r').mp e
        · intro e
          have := (o.inv k' r').mpr e
          rw [if_neg fun z => ?_]
          · exact this
          · subst z
            rw [(o.inv k' r).mpr h1] at this
            cases this
            exact e2 rfl
  · have e : (getP (putP S.1 r w) r').isSome = true := e
    rw [getP_put] at e
    by_cases z : r' = r
    · rw [z, h2]; rfl
    · rw [if_neg z] at e; exact o.sub r' e
  · show (putP S.1 r w).length ≤ 40
    rw [len_upd (getP_key.mp (by rw [h1]; rfl))]
    exact o.lk
  · show (putP (dropP S.2 k) w r).length ≤ 40
    have := len_put (ps := dropP S.2 k) (k := w) (v := r)
    have := len_drop hk
    have := o.lh
    omega
theorem okS_rm (o : OkS T S) (h1 : getP S.1 h = some k) : OkS T (rmR S h) := by
  unfold rmR
  rw [kS_of h1]
  refine ⟨nd_drop o.nk, nd_drop o.nh, fun k' r' => ?_, fun r' e => ?_, Nat.le_trans (len_drop' _ _) o.lk, Nat.le_trans (len_drop' _ _) o.lh⟩
  · show getP (dropP S.2 k) k' = some r' ↔ getP (dropP S.1 h) r' = some k'
    rw [getP_drop, getP_drop]
    constructor
    · intro e
      split at e
      · cases e
      · rename_i ne
        have := (o.inv k' r').mp e
        rw [if_neg fun z => ?_]
        · exact this
        · subst z; rw [h1] at this; cases this; exact ne rfl
    · intro e
      split at e
      · cases e
      · rename_i ne
        have := (o.inv k' r').mpr e
        rw [if_neg fun z => ?_]
        · exact this
        · subst z
          rw [(o.inv k' h).mpr h1] at this
          cases this
          exact ne rfl
  · have e : (getP (dropP S.1 h) r').isSome = true := e
    rw [getP_drop] at e
    split at e
    · cases e
    · exact o.sub r' e
theorem rm_at (o : OkS T S) (h1 : getP S.1 r = some k) (h2 : getP T r = some w) (ne : k ≠ w) (h3 : getP S.2 w = some h) :
    getP S.1 h = some w ∧ getP (rmR S h).1 r = some k ∧ getP (rmR S h).2 w = none := by
  have hh := (o.inv w h).mp h3
  have nr : r ≠ h := fun z => by subst z; rw [h1] at hh; cases hh; exact ne rfl
  refine ⟨hh, ?_, ?_⟩
  · show getP (dropP S.1 h) r = some k
    rw [getP_drop, if_neg nr, h1]
  · show getP (dropP S.2 (kS S h)) w = none
    rw [kS_of hh, getP_drop, if_pos rfl]
theorem okS_cl (ru : Rl) (nd : (keysP T).Nodup) (lT : T.length ≤ 40) (o : OkS T S) (h1 : getP S.1 r = some k) (h2 : getP T r = some w) (ne : k ≠ w) (h3 : getP S.2 w = some h) : OkS T (clR ru T S r h) := by
  obtain ⟨a, b, c⟩ := rm_at o h1 h2 ne h3
  cases ru with
  | ab => exact okS_0 nd lT
  | fa => exact o
  | ig => exact o
  | re => exact okS_mv (okS_rm o a) b h2 c
theorem visC_yes (o : (getP T r).isSome = true) (hv : visC T S.1 S.2 r = true) : ∃ k w, getP S.1 r = some k ∧ getP T r = some w ∧ k ≠ w := by
  unfold visC at hv
  obtain ⟨w, hw⟩ := Option.isSome_iff_exists.mp o
  cases hk : getP S.1 r with
  | none => rw [hk] at hv; cases hv
  | some k =>
    rw [hk, hw] at hv
    exact ⟨k, w, rfl, hw, by simpa using hv⟩
theorem go_ok (ru : Rl) (nd : (keysP T).Nodup) (lT : T.length ≤ 40) : ∀ (o : List Int) {S : LL}, OkS T S → (∀ r ∈ o, (getP T r).isSome = true) → OkS T (goR ru T o S).2
  | [], _, h, _ => h
  | r :: o, S, h, ho => by
    unfold goR
    by_cases hv : visC T S.1 S.2 r = true
    · rw [if_pos hv]
      obtain ⟨k, w, h1, h2, ne⟩ := visC_yes (ho r (by simp)) hv
      rw [wT_of h2]
      cases h3 : getP S.2 w with
      | none => exact go_ok ru nd lT o (okS_mv h h1 h2 h3) fun q hq => ho q (by simp [hq])
      | some x =>
        dsimp only
        have c := okS_cl ru nd lT h h1 h2 ne h3
        by_cases g : goes ru = true
        · rw [if_pos g]; exact go_ok ru nd lT o c fun q hq => ho q (by simp [hq])
        · rw [if_neg g]; exact c
    · rw [if_neg hv]; exact go_ok ru nd lT o h fun q hq => ho q (by simp [hq])
end
end Lw
namespace Lw
open L2 Ma PySem.Spec PySem PyProof.Rows
/-! a rule called: the machine -/
def setF : Rl → Fn
  | .ab => F_Undoes_settle
  | .fa => F_Leaves_settle
  | .ig => F_Leaves_settle
  | .re => F_Removes_settle
def goF : Rl → Fn
  | .ab => F_Stops_goes_on
  | .fa => F_Stops_goes_on
  | .ig => F_Continues_goes_on
  | .re => F_Continues_goes_on
theorem tbl_set (ru : Rl) : List.lookup ru.nm tbl_settle = some (setF ru) := by cases ru <;> rfl
theorem tbl_go (ru : Rl) : List.lookup ru.nm tbl_goes_on = some (goF ru) := by cases ru <;> rfl
theorem tbl_va (ru : Rl) : List.lookup ru.nm tbl_visit_all = some F_Rule_visit_all := by cases ru <;> rfl
theorem tbl_ca (ru : Rl) : List.lookup ru.nm tbl___call__ = some F_Rule___call__ := by cases ru <;> rfl
theorem goF_at (ru : Rl) (q : Nat) (hp : List Cell) : goF ru [.box q] hp = .ok (.bl (goes ru)) hp := by cases ru <;> rfl
def stM : Option IP → M
  | none => .tup []
  | some p => pM p
section
variable {T : List IP} {S : LL} {r h k w : Int} {hp B : List Cell} {q R rw wt ks hs n d : Nat}
theorem sub_ne (o : OkS T S) (h1 : getP S.1 r = some k) : k ∈ keysP S.2 := getP_key.mp (by rw [(o.inv k r).mpr h1]; rfl)
theorem settle_at (ru : Rl) (nd : (keysP T).Nodup) (lT : T.length ≤ 40) (a : RunAt hp R rw wt ks hs T S.1 S.2) (o : OkS T S) (e : Ext B hp) (bR : B.length ≤ R) (bk : B.length ≤ ks) (bh : B.length ≤ hs)
    (h1 : getP S.1 r = some k) (h2 : getP T r = some w) (ne : k ≠ w) (h3 : getP S.2 w = some h) :
    ∃ hp' ks' hs', setF ru [.box q, .box R, .int r, .int h] hp = .ok .non hp' ∧ RunAt hp' R rw wt ks' hs' T (clR ru T S r h).1 (clR ru T S r h).2 ∧ Ext B hp' ∧ B.length ≤ ks' ∧ B.length ≤ hs' := by
  cases ru with
  | ab =>
    obtain ⟨hp', ks', hs', e1, a', e', k1, k2⟩ := restart_at nd lT a e bR
    refine ⟨hp', ks', hs', body_nx (s' := ⟨[some (.box q), some (.box R), some (.int r), some (.int h)], hp'⟩) ?_, a', e', k1, k2⟩
    exact expr_of (own_of (s := ⟨[some (.box q), some (.box R), some (.int r), some (.int h)], hp⟩) (m := "start_again") (tbl := tbl_start_again) (ma := mNil) (F := F_Run_start_again) (mv_of (i := 1) (m := .box R) rfl) (methOf_of a.i rfl rfl) rfl e1)
  | fa => exact ⟨hp, ks, hs, rfl, a, e, bk, bh⟩
  | ig => exact ⟨hp, ks, hs, rfl, a, e, bk, bh⟩
  | re =>
    obtain ⟨g1, g2, g3⟩ := rm_at o h1 h2 ne h3
    have o1 := okS_rm o g1
    obtain ⟨hp1, e1, a1, kp1⟩ := take_at a g1 (sub_ne o g1)
    have a1 : RunAt hp1 R rw wt ks hs T (rmR S h).1 (rmR S h).2 := by
      unfold rmR
      rw [kS_of g1]
      exact a1
    obtain ⟨hp2, e2, a2, kp2⟩ := move_at a1 g2 h2 (sub_ne o1 g2) (by have := o1.lk; omega) (by have := o1.lh; omega)
    refine ⟨hp2, ks, hs, body_nx (s' := ⟨[some (.box q), some (.box R), some (.int r), some (.int h)], hp2⟩) ?_, ?_, ext_kp (ext_kp e kp1 bk bh) kp2 bk bh, bk, bh⟩
    · exact seq_of (expr_of (own_of (s := ⟨[some (.box q), some (.box R), some (.int r), some (.int h)], hp⟩) (m := "take_out") (tbl := tbl_take_out) (F := F_Run_take_out) (mv_of (i := 1) (m := .box R) rfl) (methOf_of a.i rfl rfl) (mone (a := mv 3) (mv_of rfl)) e1))
        (expr_of (own_of (s := ⟨[some (.box q), some (.box R), some (.int r), some (.int h)], hp1⟩) (m := "move") (tbl := tbl_move) (F := F_Run_move) (mv_of (i := 1) (m := .box R) rfl) (methOf_of a1.i rfl rfl) (mone (a := mv 2) (mv_of rfl)) e2))
    · show RunAt hp2 R rw wt ks hs T (mvR T (rmR S h) r).1 (mvR T (rmR S h) r).2
      unfold mvR
      rw [wT_of h2, kS_of g2]
      exact a2
def visB : MStm := (sSeq (sSet 4 (mOwn "visit" tbl_visit (mv 1) (mCons (mv 3) mNil))) (sIf (mB (m2 (oIsN true) (mv 4) (mc .non))) (sSeq (sExpr (mOwn "settle" tbl_settle (mv 0) (mCons (mv 1) (mCons (mv 3) (mCons (mv 4) mNil))))) (sIf (mNot (mB (mOwn "goes_on" tbl_goes_on (mv 0) mNil))) (sRet (mTup (mCons (mv 3) (mCons (mv 4) mNil)))) sNx)) sNx))
theorem va_eq : m_Rule_visit_all = sSeq (sForI (iSeq (mv 2)) (gSet 3) visB) (sRet (mTup mNil)) := rfl
def flM : Option IP → Fl
  | none => .nx
  | some p => .rt (pM p)
theorem sfor_nx {tg : MG} {b : MStm} {x : M} {xs : List M} {s s1 s2 : MS} (h1 : tg x s = .ok () s1) (h2 : b s1 = .ok .nx s2) : sFor tg b (x :: xs) s = sFor tg b xs s2 := by
  show (tg x s).bind _ = _
  rw [h1]
  show (b s1).bind _ = _
  rw [h2]
  rfl
theorem sfor_rt {tg : MG} {b : MStm} {x m : M} {xs : List M} {s s1 s2 : MS} (h1 : tg x s = .ok () s1) (h2 : b s1 = .ok (.rt m) s2) : sFor tg b (x :: xs) s = .ok (.rt m) s2 := by
  show (tg x s).bind _ = _
  rw [h1]
  show (b s1).bind _ = _
  rw [h2]
  rfl
theorem va_loop {ru : Rl} (nd : (keysP T).Nodup) (lT : T.length ≤ 40) (hq : B[q]? = some (.ins ru.nm [])) (bR : B.length ≤ R) {ot : Option M} : ∀ (o : List Int) {S : LL} {hp : List Cell} {ks hs : Nat} {o3 o4 : Option M}, RunAt hp R rw wt ks hs T S.1 S.2 → OkS T S → (∀ r ∈ o, (getP T r).isSome = true) → Ext B hp → B.length ≤ ks → B.length ≤ hs →
    ∃ hp' ks' hs' p3 p4, sFor (gSet 3) visB (o.map M.int) ⟨[some (.box q), some (.box R), ot, o3, o4], hp⟩ = .ok (flM (goR ru T o S).1) ⟨[some (.box q), some (.box R), ot, p3, p4], hp'⟩ ∧ RunAt hp' R rw wt ks' hs' T (goR ru T o S).2.1 (goR ru T o S).2.2 ∧ Ext B hp'
  | [], S, hp, ks, hs, o3, o4, a, ok, ho, e, bk, bh => ⟨hp, ks, hs, o3, o4, rfl, a, e⟩
  | r :: o, S, hp, ks, hs, o3, o4, a, ok, ho, e, bk, bh => by
    have hr := ho r (by simp)
    have ho' : ∀ q ∈ o, (getP T q).isSome = true := fun q hq => ho q (by simp [hq])
    have tg : gSet 3 (.int r) ⟨[some (.box q), some (.box R), ot, o3, o4], hp⟩ = .ok () ⟨[some (.box q), some (.box R), ot, some (.int r), o4], hp⟩ := rfl
    have vis : ∀ {res : M} {hp' : List Cell}, F_Run_visit [.box R, .int r] hp = .ok res hp' → sSet 4 (mOwn "visit" tbl_visit (mv 1) (mCons (mv 3) mNil)) ⟨[some (.box q), some (.box R), ot, some (.int r), o4], hp⟩ = .ok .nx ⟨[some (.box q), some (.box R), ot, some (.int r), some res], hp'⟩ := fun {res hp'} e1 =>
      set_of (own_of (s := ⟨[some (.box q), some (.box R), ot, some (.int r), o4], hp⟩) (m := "visit") (tbl := tbl_visit) (F := F_Run_visit) (mv_of (i := 1) (m := .box R) rfl) (methOf_of a.i rfl rfl) (mone (a := mv 3) (mv_of rfl)) e1)
    have quiet : ∀ {hp' : List Cell}, F_Run_visit [.box R, .int r] hp = .ok .non hp' → visB ⟨[some (.box q), some (.box R), ot, some (.int r), o4], hp⟩ = .ok .nx ⟨[some (.box q), some (.box R), ot, some (.int r), some .non], hp'⟩ := fun {hp'} e1 =>
      seq_of (vis e1) ((if_of (k := false) rfl).trans rfl)
    show ∃ hp' ks' hs' p3 p4, sFor (gSet 3) visB (.int r :: o.map M.int) _ = _ ∧ _
    by_cases hv : visC T S.1 S.2 r = true
    · obtain ⟨k, w, h1, h2, ne⟩ := visC_yes hr hv
      have hk := sub_ne ok h1
      cases h3 : getP S.2 w with
      | none =>
        have g : goR ru T (r :: o) S = goR ru T o (mvR T S r) := by
          rw [goR, if_pos hv, wT_of h2, h3]
        rw [g]
        obtain ⟨hp1, e1, a1, kp1⟩ := visit_move a h1 h2 ne h3 hk (by have := ok.lk; omega) (by have := ok.lh; omega)
        have a1 : RunAt hp1 R rw wt ks hs T (mvR T S r).1 (mvR T S r).2 := by
          unfold mvR
          rw [wT_of h2, kS_of h1]
          exact a1
        obtain ⟨hp', ks', hs', p3, p4, e2, a2, x2⟩ := va_loop nd lT hq bR (ot := ot) o (o3 := some (.int r)) (o4 := some .non) a1 (okS_mv ok h1 h2 h3) ho' (ext_kp e kp1 bk bh) bk bh
        exact ⟨hp', ks', hs', p3, p4, (sfor_nx tg (quiet e1)).trans e2, a2, x2⟩
      | some h =>
        obtain ⟨hp1, ks1, hs1, e1, a1, x1, bk1, bh1⟩ := settle_at (q := q) ru nd lT a ok e bR bk bh h1 h2 ne h3
        have hqq : hp[q]? = some (.ins ru.nm []) := e _ _ hq
        have hq1 : hp1[q]? = some (.ins ru.nm []) := x1 _ _ hq
        have v1 := vis (visit_hold a h1 h2 ne h3)
        have st : sExpr (mOwn "settle" tbl_settle (mv 0) (mCons (mv 1) (mCons (mv 3) (mCons (mv 4) mNil)))) ⟨[some (.box q), some (.box R), ot, some (.int r), some (.int h)], hp⟩ = .ok .nx ⟨[some (.box q), some (.box R), ot, some (.int r), some (.int h)], hp1⟩ :=
          expr_of (own_of (s := ⟨[some (.box q), some (.box R), ot, some (.int r), some (.int h)], hp⟩) (m := "settle") (tbl := tbl_settle) (F := setF ru) (mv_of (i := 0) (m := .box q) rfl) (methOf_of hqq rfl (tbl_set ru)) (mcons_of (a := mv 1) (mv_of rfl) (mcons_of (a := mv 3) (mv_of rfl) (mone (a := mv 4) (mv_of rfl)))) e1)
        have go : mB (mOwn "goes_on" tbl_goes_on (mv 0) mNil) ⟨[some (.box q), some (.box R), ot, some (.int r), some (.int h)], hp1⟩ = .ok (goes ru) ⟨[some (.box q), some (.box R), ot, some (.int r), some (.int h)], hp1⟩ :=
          b_of (own_of (s := ⟨[some (.box q), some (.box R), ot, some (.int r), some (.int h)], hp1⟩) (m := "goes_on") (tbl := tbl_goes_on) (ma := mNil) (F := goF ru) (mv_of (i := 0) (m := .box q) rfl) (methOf_of hq1 rfl (tbl_go ru)) rfl (goF_at ru q hp1))
        by_cases gg : goes ru = true
        · have g : goR ru T (r :: o) S = goR ru T o (clR ru T S r h) := by
            rw [goR, if_pos hv, wT_of h2, h3]
            dsimp only
            rw [if_pos gg]
          rw [g]
          rw [gg] at go
          have b1 : visB ⟨[some (.box q), some (.box R), ot, some (.int r), o4], hp⟩ = .ok .nx ⟨[some (.box q), some (.box R), ot, some (.int r), some (.int h)], hp1⟩ :=
            seq_of v1 ((if_of (k := true) rfl).trans (seq_of st ((if_of (not_of go)).trans rfl)))
          obtain ⟨hp', ks', hs', p3, p4, e2, a2, x2⟩ := va_loop nd lT hq bR (ot := ot) o (o3 := some (.int r)) (o4 := some (.int h)) a1 (okS_cl ru nd lT ok h1 h2 ne h3) ho' x1 bk1 bh1
          exact ⟨hp', ks', hs', p3, p4, (sfor_nx tg b1).trans e2, a2, x2⟩
        · have g : goR ru T (r :: o) S = (some (r, h), clR ru T S r h) := by
            rw [goR, if_pos hv, wT_of h2, h3]
            dsimp only
            rw [if_neg gg]
          rw [g]
          have gg : goes ru = false := by simpa using gg
          rw [gg] at go
          have b1 : visB ⟨[some (.box q), some (.box R), ot, some (.int r), o4], hp⟩ = .ok (.rt (pM (r, h))) ⟨[some (.box q), some (.box R), ot, some (.int r), some (.int h)], hp1⟩ :=
            seq_of v1 ((if_of (k := true) rfl).trans (seq_of st ((if_of (not_of go)).trans rfl)))
          exact ⟨hp1, ks1, hs1, _, _, sfor_rt tg b1, a1, x1⟩
    · have g : goR ru T (r :: o) S = goR ru T o S := by rw [goR, if_neg hv]
      rw [g]
      have e1 := visit_no a hr (by simpa using hv)
      obtain ⟨hp', ks', hs', p3, p4, e2, a2, x2⟩ := va_loop nd lT hq bR (ot := ot) o (o3 := some (.int r)) (o4 := some .non) a ok ho' e bk bh
      exact ⟨hp', ks', hs', p3, p4, (sfor_nx tg (quiet e1)).trans e2, a2, x2⟩
theorem va_at {ru : Rl} (nd : (keysP T).Nodup) (lT : T.length ≤ 40) (hq : B[q]? = some (.ins ru.nm [])) (bR : B.length ≤ R) {o : List Int} (a : RunAt hp R rw wt ks hs T S.1 S.2) (ok : OkS T S) (ho : ∀ r ∈ o, (getP T r).isSome = true) (e : Ext B hp) (bk : B.length ≤ ks) (bh : B.length ≤ hs) :
    ∃ hp' ks' hs', F_Rule_visit_all [.box q, .box R, tupI o] hp = .ok (stM (goR ru T o S).1) hp' ∧ RunAt hp' R rw wt ks' hs' T (goR ru T o S).2.1 (goR ru T o S).2.2 ∧ Ext B hp' := by
  obtain ⟨hp', ks', hs', p3, p4, e1, a1, x1⟩ := va_loop (ru := ru) nd lT hq bR (ot := some (tupI o)) o (o3 := none) (o4 := none) a ok ho e bk bh
  refine ⟨hp', ks', hs', ?_, a1, x1⟩
  have f := for_of (it := iSeq (mv 2)) (tg := gSet 3) (b := visB) (s := ⟨[some (.box q), some (.box R), some (tupI o), none, none], hp⟩) (s1 := ⟨[some (.box q), some (.box R), some (tupI o), none, none], hp⟩) (xs := o.map M.int) rfl e1
  refine (show F_Rule_visit_all [.box q, .box R, tupI o] hp = bodyF 3 5 m_Rule_visit_all [.box q, .box R, tupI o] hp from rfl).trans (body_rt (s' := ⟨[some (.box q), some (.box R), some (tupI o), p3, p4], hp'⟩) ?_)
  rw [va_eq]
  cases hg : (goR ru T o S).1 with
  | none =>
    rw [hg] at f
    exact seq_of f rfl
  | some p =>
    rw [hg] at f
    show sSeq (sForI (iSeq (mv 2)) (gSet 3) visB) (sRet (mTup mNil)) ⟨[some (.box q), some (.box R), some (tupI o), none, none], hp⟩ = _
    unfold sSeq
    rw [f]
    rfl
end
end Lw
namespace Lw
open L2 Ma PySem.Spec PySem PyProof.Rows
/-! RI -/
theorem dat_pM (p : IP) : DatOk (pM p) := ⟨_, rfl, rfl, show 1 ≤ 10 by decide⟩
/-! C1 -/
section
variable {n d w L D : Nat} {T W ps : List IP} {hp hp' A B : List Cell} {c c' : Cell} {k v row : Int} {env : List (Option M)} {i j : Nat} {neg : Bool} {o : M → M → MS → Res M} {l : List Int} {ks p done acc R : List Int} {y : M} {g : Int → Option Int} {st res : List Int} {e : Str}
theorem eqv_rows : ∀ l : List IP, PyData.eqvAll (l.map dP) (l.map dP) = true
  | [] => by simp [PyData.eqvAll]
  | a :: l => by simp [PyData.eqvAll, PyData.eqv, dP, eqv_rows l]
theorem eq_same {neg : Bool} {x : M} {d : PyData} {s : MS} (hd : dictOf s.hp x = none) (hx : datT s.hp x = some d) (sh : SeqAt.shaped d = true) (he : PyData.eqv d d = true) : oEqK neg (oEqD neg) x x s = .ok (.bl (!neg)) s := by
  unfold oEqK
  rw [hd]
  dsimp only
  unfold oEqD
  rw [hx]
  dsimp only
  rw [sh, if_pos (show (true && true) = true from rfl), he]
  cases neg <;> rfl
theorem shp_tup {ms : List M} {ds : List PyData} (h : ∀ m ∈ ms, DatOk m) (e : datL ms = some ds) : SeqAt.shaped (.tuple ds) = true := by
  obtain ⟨ds', e1, e2, e3, e4⟩ := datL_ok h
  rw [e] at e1
  cases e1
  unfold SeqAt.shaped
  rw [show PyData.canLay0 (.tuple ds) = true from e2, show PyData.depth (.tuple ds) = PyData.depthAll ds + 1 from rfl, decide_eq_true (by omega)]; rfl
theorem eq_rowsT {neg : Bool} {T : List IP} {s : MS} : oEqK neg (oEqD neg) (.tup (rm T)) (.tup (rm T)) s = .ok (.bl (!neg)) s := by
  refine eq_same rfl (d := .tuple (T.map dP)) ?_ (shp_tup (ms := rm T) (fun m hm => ?_) (datL_rm T)) ?_
  · show (datL (rm T)).map PyData.tuple = _
    rw [datL_rm]; rfl
  · obtain ⟨i, _, rfl⟩ := List.mem_map.mp hm
    exact dat_pM i
  · simp [PyData.eqv, eqv_rows]
end
end Lw
namespace Lw
open L2 Ma PySem.Spec PySem PyProof.Rows
/-! a rule called: its outcome -/
structure OutAt (hp : List Cell) (x a b : Nat) (T : List IP) (st : Option IP) (K : List IP) : Prop where
  i : hp[x]? = some (.ins "Outcome" [("_triple", .tup [.box a, stM st, .box b])])
  ra : hp[a]? = some (.tP (rm T))
  rb : hp[b]? = some (.tP (rm K))
section
variable {T K : List IP} {S : LL} {r h k w : Int} {hp B : List Cell} {q R rw wt ks hs n d x y a b : Nat} {o : List Int} {st : Option IP} {s : MS} {env : List (Option M)}
theorem OutAt.ext {hp' : List Cell} (h : OutAt hp x a b T st K) (e : Ext hp hp') : OutAt hp' x a b T st K := ⟨e _ _ h.i, e _ _ h.ra, e _ _ h.rb⟩
theorem items_rm (T : List IP) : itemsM (dm T) = rm T := by
  unfold itemsM dm rm
  rw [List.map_map]
  rfl
theorem itemsB_of {e : ME} {s s1 : MS} (he : e s = .ok (.box d) s1) (hd : s1.hp[d]? = some (.dK (dm T))) (lT : T.length ≤ 40) : mItemsB e s = .ok (.box s1.hp.length) ⟨s1.env, s1.hp ++ [.tP (rm T)]⟩ := by
  unfold mItemsB
  rw [he]
  show oItemsB (.box d) s1 = _
  unfold oItemsB
  rw [dicL hd]
  dsimp only
  rw [if_pos (by rw [List.length_map]; show T.length ≤ 16777216; omega), items_rm]
theorem rows_b_at (t : TabAt hp n d T) (lT : T.length ≤ 40) : F_Table_rows_b [.box n] hp = .ok (.box hp.length) (hp ++ [.tP (rm T)]) :=
  (show F_Table_rows_b [.box n] hp = bodyF 1 1 m_Table_rows_b [.box n] hp from rfl).trans (body_rt (s' := ⟨[some (.box n)], hp ++ [.tP (rm T)]⟩) (ret_of (itemsB_of (e := mFld ["Table"] [] "_new_keys" (mv 0)) (s := ⟨[some (.box n)], hp⟩) (s1 := ⟨[some (.box n)], hp⟩) (by unfold mFld; exact fld_at (s := ⟨[some (.box n)], hp⟩) t) t.d lT)))
abbrev rowsB : ME := mAt (mv 1) (oPrp "Table" F_Table_rows_b (fun _ _ => .stuck))
theorem rowsB_at (t : TabAt hp n d T) (lT : T.length ≤ 40) (e : env[1]? = some (some (.box n))) : rowsB ⟨env, hp⟩ = .ok (.box hp.length) ⟨env, hp ++ [.tP (rm T)]⟩ := by
  refine (Ma.at_of (mv_of e)).trans ?_
  unfold oPrp
  rw [if_pos (isIns_at (s := ⟨env, hp⟩) t), rows_b_at t lT]
  rfl
abbrev LenC : List M → MS → Res M := cDun "Table" F_Table___len__ pNat (cLenD (cLenS cLen))
theorem len_at (t : TabAt hp n d T) : F_Table___len__ [.box n] hp = .ok (.int T.length) hp := by
  have e1 : mFld ["Table"] [] "_new_keys" (mv 0) ⟨[some (.box n)], hp⟩ = .ok (.box d) ⟨[some (.box n)], hp⟩ := by
    unfold mFld
    exact fld_at (s := ⟨[some (.box n)], hp⟩) t
  refine body_rt (s' := ⟨[some (.box n)], hp⟩) (ret_of (call_of (mone e1) ?_))
  unfold cLenD
  dsimp only
  rw [dict_at t]
  simp [dm]
theorem upP_nat {i : Int} (h0 : 0 ≤ i) (h1 : i < 9223372036854775808) : upP pNat (Res.ok (M.int i) s) = .ok (.int i) s := by
  have z : pNat (.int i) = some (.int i) := by
    unfold pNat
    dsimp only
    rw [if_pos ⟨h0, h1⟩]
  unfold upP
  dsimp only
  rw [z]
theorem lenc_tab {o : List M → MS → Res M} (t : TabAt s.hp n d T) (lT : T.length ≤ 40) : cDun "Table" F_Table___len__ pNat o [.box n] s = .ok (.int T.length) s := by
  unfold cDun
  dsimp only
  rw [if_pos (isIns_at t), len_at t]
  have h1 : (0 : Int) ≤ (T.length : Int) ∧ (T.length : Int) < 9223372036854775808 := by omega
  exact upP_nat h1.1 h1.2
theorem is_order_at (t : TabAt hp n d T) (lT : T.length ≤ 40) (nd : (keysP T).Nodup) (ho : o.Perm (keysP T)) : F_is_order [.box n, tupI o] hp = .ok (.bl true) hp := by
  have lo : o.length = T.length := by rw [ho.length_eq, List.length_map]
  have no : o.Nodup := ho.nodup_iff.mpr nd
  have c1 : F_are_rows [.box n, tupI o] hp = .ok (.bl true) hp := by
    refine (are_rows_tup t (ms := o.map M.int) (fun m hm => ?_) (by rw [List.length_map]; omega)).trans ?_
    · obtain ⟨i, _, rfl⟩ := List.mem_map.mp hm
      rfl
    · rw [List.all_eq_true.mpr fun m hm => ?_]
      obtain ⟨i, hi, rfl⟩ := List.mem_map.mp hm
      exact getP_key.mpr (ho.mem_iff.mp hi)
  have lu : ∀ (e : ME), e ⟨[some (.box n), some (tupI o)], hp⟩ = .ok (tupI o) ⟨[some (.box n), some (tupI o)], hp⟩ → mCall (mCons e mNil) LenC ⟨[some (.box n), some (tupI o)], hp⟩ = .ok (.int T.length) ⟨[some (.box n), some (tupI o)], hp⟩ := fun e he => by
    refine (call_of (o := LenC) (mone he) (r := .ok (.int (o.map M.int).length) _) rfl).trans ?_
    rw [List.length_map, lo]
  have lb : mCall (mCons (mv 0) mNil) LenC ⟨[some (.box n), some (tupI o)], hp⟩ = .ok (.int T.length) ⟨[some (.box n), some (tupI o)], hp⟩ := call_of (mone (mv_of rfl)) (lenc_tab (s := ⟨[some (.box n), some (tupI o)], hp⟩) t lT)
  have st : mCall (mCons (mv 1) mNil) cSetI ⟨[some (.box n), some (tupI o)], hp⟩ = .ok (.set o) ⟨[some (.box n), some (tupI o)], hp⟩ := by
    refine call_of (mone (mv_of rfl)) ?_
    unfold cSetI
    rw [show seqA (⟨[some (.box n), some (tupI o)], hp⟩ : MS) [tupI o] = some (o.map M.int) from rfl]
    dsimp only
    rw [intsM_map]
    dsimp only
    rw [if_pos (by omega)]
  have ls : mCall (mCons (mCall (mCons (mv 1) mNil) cSetI) mNil) LenC ⟨[some (.box n), some (tupI o)], hp⟩ = .ok (.int T.length) ⟨[some (.box n), some (tupI o)], hp⟩ := by
    refine (call_of (o := LenC) (mone st) (r := .ok (.int (ssI o).length) _) rfl).trans ?_
    have h1 := sub_len (ssI_nd o) fun x hx => ssI_mem.mp hx
    have h2 := sub_len no (m := ssI o) fun x hx => ssI_mem.mpr hx
    rw [show (ssI o).length = T.length by omega]
  have e1 : m2 (oEqK false (oEqD false)) (mCall (mCons (mv 1) mNil) LenC) (mCall (mCons (mv 0) mNil) LenC) ⟨[some (.box n), some (tupI o)], hp⟩ = .ok (.bl true) ⟨[some (.box n), some (tupI o)], hp⟩ :=
    m2_of (lu (mv 1) (mv_of rfl)) lb (by rw [eq_int]; simp)
  have e2 : m2 (oEqK false (oEqD false)) (mCall (mCons (mCall (mCons (mv 1) mNil) cSetI) mNil) LenC) (mCall (mCons (mv 1) mNil) LenC) ⟨[some (.box n), some (tupI o)], hp⟩ = .ok (.bl true) ⟨[some (.box n), some (tupI o)], hp⟩ :=
    m2_of ls (lu (mv 1) (mv_of rfl)) (by rw [eq_int]; simp)
  exact (show F_is_order [.box n, tupI o] hp = bodyF 2 2 m_is_order [.box n, tupI o] hp from rfl).trans (body_rt (s' := ⟨[some (.box n), some (tupI o)], hp⟩) (ret_of ((andv_t (fn_of (F := F_are_rows) (mcons_of (a := mv 0) (mv_of rfl) (mone (a := mv 1) (mv_of rfl))) c1)).trans ((andv_t e1).trans e2))))
theorem check_order_at (t : TabAt hp n d T) (lT : T.length ≤ 40) (nd : (keysP T).Nodup) (ho : o.Perm (keysP T)) : F_check_order [.box n, tupI o] hp = .ok .non hp := by
  refine (show F_check_order [.box n, tupI o] hp = bodyF 2 2 m_check_order [.box n, tupI o] hp from rfl).trans (body_nx (s' := ⟨[some (.box n), some (tupI o)], hp⟩) ?_)
  exact (if_of (not_of (b_of (fn_of (F := F_is_order) (s := ⟨[some (.box n), some (tupI o)], hp⟩) (mcons_of (a := mv 0) (mv_of rfl) (mone (a := mv 1) (mv_of rfl))) (is_order_at t lT nd ho))))).trans rfl
theorem check_tab_at (t : TabAt hp n d T) : F_check_table [.box n] hp = .ok .non hp := by
  refine (show F_check_table [.box n] hp = bodyF 1 1 m_check_table [.box n] hp from rfl).trans (body_nx (s' := ⟨[some (.box n)], hp⟩) ?_)
  exact (if_of (not_of (b_of (call_of (o := cIsi IS XS isi) (s := ⟨[some (.box n)], hp⟩) (mcons_of (a := mv 0) (mv_of rfl) (mone (a := mc (.cls "Table")) rfl)) (isi_table (s := ⟨[some (.box n)], hp⟩) t))))).trans rfl
theorem mk_of {c : Str} {F : Fn} {ma : MA} {s s1 : MS} {ms : List M} {hp' : List Cell} (h : ma s = .ok ms s1) (hf : F (.box s1.hp.length :: ms) (s1.hp ++ [.ins c []]) = .ok .non hp') : mMk c F ma s = .ok (.box s1.hp.length) ⟨s1.env, hp'⟩ := by
  unfold mMk
  rw [h]
  show mkM c F ms s1 = _
  unfold mkM
  rw [hf]
theorem rule_at (ru : Rl) (t : TabAt hp n d T) (lT : T.length ≤ 40) (nd : (keysP T).Nodup) (hq : hp[q]? = some (.ins ru.nm [])) (ho : o.Perm (keysP T)) :
    ∃ hp' x a b, F_Rule___call__ [.box q, .box n, tupI o] hp = .ok (.box x) hp' ∧ Ext hp hp' ∧ OutAt hp' x a b T (goR ru T o (idP T, idP T)).1 (goR ru T o (idP T, idP T)).2.1 ∧ hp.length ≤ x := by
  have hks : ∀ r ∈ o, (getP T r).isSome = true := fun r hr => getP_key.mpr (ho.mem_iff.mp hr)
  -- the run
  have r1 := rowsB_at (env := [some (.box q), some (.box n), some (tupI o), none, none]) t lT rfl
  have l1 : (hp ++ [Cell.tP (rm T)]).length = hp.length + 1 := by simp
  have gR : (hp ++ [Cell.tP (rm T)] ++ [Cell.ins "Run" []])[hp.length + 1]? = some (.ins "Run" []) := by
    have := gapp (hp := hp ++ [Cell.tP (rm T)]) (L := [Cell.ins "Run" []]) 0 rfl
    rw [l1] at this
    exact this
  have gw : (hp ++ [Cell.tP (rm T)] ++ [Cell.ins "Run" []])[hp.length]? = some (.tP (rm T)) := glow (gapp 0 rfl)
  obtain ⟨h2, e2, a2, k2⟩ := init_run nd lT gR gw
  have l2 : (hp ++ [Cell.tP (rm T)] ++ [Cell.ins "Run" []]).length = hp.length + 2 := by simp
  rw [l2] at a2
  have x2 : Ext hp h2 := fun i c hi => by
    have := (List.getElem?_eq_some_iff.mp hi).1
    exact k2 i c (glow (glow hi)) (by omega)
  obtain ⟨h3, ks3, hs3, e3, a3, x3⟩ := va_at (ru := ru) (B := hp) (S := (idP T, idP T)) nd lT hq (by omega) a2 (okS_0 nd lT) hks x2 (by omega) (by omega)
  have t3 : TabAt h3 n d T := ⟨x3 _ _ t.i, x3 _ _ t.d⟩
  -- the outcome
  have o3 := go_ok ru nd lT o (okS_0 nd lT) hks
  have r4 := rowsB_at (env := [some (.box q), some (.box n), some (tupI o), some (.box (hp.length + 1)), some (stM (goR ru T o (idP T, idP T)).1)]) t3 lT rfl
  have a4k : (h3 ++ [Cell.tP (rm T)])[ks3]? = some (.dK (dm (goR ru T o (idP T, idP T)).2.1)) := glow a3.jk
  have a4i : (h3 ++ [Cell.tP (rm T)])[hp.length + 1]? = some (insR hp.length (hp.length + 2) ks3 hs3) := glow a3.i
  have hb : F_Run_held_by_rows [.box (hp.length + 1)] (h3 ++ [Cell.tP (rm T)]) = .ok (.box (h3.length + 1)) (h3 ++ [Cell.tP (rm T)] ++ [.tP (rm (goR ru T o (idP T, idP T)).2.1)]) := by
    have z := itemsB_of (e := mFld ["Run"] [] "_keys" (mv 0)) (s := ⟨[some (.box (hp.length + 1))], h3 ++ [Cell.tP (rm T)]⟩) (s1 := ⟨[some (.box (hp.length + 1))], h3 ++ [Cell.tP (rm T)]⟩) (fld_ins (mv_of rfl) a4i rfl rfl) a4k o3.lk
    have l4 : (h3 ++ [Cell.tP (rm T)]).length = h3.length + 1 := by simp
    dsimp only at z
    rw [l4] at z
    exact body_rt (s' := ⟨[some (.box (hp.length + 1))], _⟩) (ret_of z)
  have args := mcons_of r4 (mcons_of (a := mv 4) (x := stM (goR ru T o (idP T, idP T)).1) (mv_of rfl) (mone (own_of (m := "held_by_rows") (tbl := tbl_held_by_rows) (a := mv 3) (ma := mNil) (F := F_Run_held_by_rows) (s := ⟨[some (.box q), some (.box n), some (tupI o), some (.box (hp.length + 1)), some (stM (goR ru T o (idP T, idP T)).1)], h3 ++ [Cell.tP (rm T)]⟩) (mv_of rfl) (methOf_of a4i rfl rfl) rfl hb)))
  have l5 : (h3 ++ [Cell.tP (rm T)] ++ [Cell.tP (rm (goR ru T o (idP T, idP T)).2.1)]).length = h3.length + 2 := by simp
  have gO : (h3 ++ [Cell.tP (rm T)] ++ [Cell.tP (rm (goR ru T o (idP T, idP T)).2.1)] ++ [Cell.ins "Outcome" []])[h3.length + 2]? = some (.ins "Outcome" []) := by
    have := gapp (hp := h3 ++ [Cell.tP (rm T)] ++ [Cell.tP (rm (goR ru T o (idP T, idP T)).2.1)]) (L := [Cell.ins "Outcome" []]) 0 rfl
    rw [l5] at this
    exact this
  have ini : F_Outcome___init__ [.box (h3.length + 2), .box h3.length, stM (goR ru T o (idP T, idP T)).1, .box (h3.length + 1)] (h3 ++ [Cell.tP (rm T)] ++ [Cell.tP (rm (goR ru T o (idP T, idP T)).2.1)] ++ [Cell.ins "Outcome" []]) =
      .ok .non ((h3 ++ [Cell.tP (rm T)] ++ [Cell.tP (rm (goR ru T o (idP T, idP T)).2.1)] ++ [Cell.ins "Outcome" []]).set (h3.length + 2) (.ins "Outcome" [("_triple", .tup [.box h3.length, stM (goR ru T o (idP T, idP T)).1, .box (h3.length + 1)])])) :=
    body_nx (s' := ⟨[some (.box (h3.length + 2)), some (.box h3.length), some (stM (goR ru T o (idP T, idP T)).1), some (.box (h3.length + 1))], _⟩)
      (putf_of (c := "Outcome") (f := "_triple") (fms := []) (y := .tup [.box h3.length, stM (goR ru T o (idP T, idP T)).1, .box (h3.length + 1)]) (s := ⟨[some (.box (h3.length + 2)), some (.box h3.length), some (stM (goR ru T o (idP T, idP T)).1), some (.box (h3.length + 1))], _⟩) rfl (mv_of (i := 0) rfl) gO (by decide))
  have mo := mk_of (c := "Outcome") (F := F_Outcome___init__) args (by rw [l5]; exact ini)
  rw [l5] at mo
  have lh : hp.length ≤ h3.length := by
    have := x3.len
    exact this
  refine ⟨_, h3.length + 2, h3.length, h3.length + 1, (show F_Rule___call__ [.box q, .box n, tupI o] hp = bodyF 3 5 m_Rule___call__ [.box q, .box n, tupI o] hp from rfl).trans (body_rt (s' := ⟨[some (.box q), some (.box n), some (tupI o), some (.box (hp.length + 1)), some (stM (goR ru T o (idP T, idP T)).1)], _⟩) ?_), ?_, ⟨gsame gO, ?_, ?_⟩, by omega⟩
  · have s1 := expr_of (fn_of (F := F_check_table) (s := ⟨[some (.box q), some (.box n), some (tupI o), none, none], hp⟩) (mone (a := mv 1) (mv_of rfl)) (check_tab_at t))
    have s2 := expr_of (fn_of (F := F_check_order) (s := ⟨[some (.box q), some (.box n), some (tupI o), none, none], hp⟩) (mcons_of (a := mv 1) (mv_of rfl) (mone (a := mv 2) (mv_of rfl))) (check_order_at t lT nd ho))
    have m3 := mk_of (c := "Run") (F := F_Run___init__) (mone r1) (by rw [l1]; exact e2)
    rw [l1] at m3
    have s4 := set_of (i := 4) (own_of (m := "visit_all") (tbl := tbl_visit_all) (a := mv 0) (ma := mCons (mv 3) (mCons (mv 2) mNil)) (F := F_Rule_visit_all) (s := ⟨[some (.box q), some (.box n), some (tupI o), some (.box (hp.length + 1)), none], h2⟩) (mv_of (m := .box q) rfl) (methOf_of (x2 _ _ hq) rfl (tbl_va ru)) (mcons_of (a := mv 3) (mv_of rfl) (mone (a := mv 2) (mv_of rfl))) e3)
    exact seq_of s1 (seq_of s2 (seq_of (set_of (i := 3) m3) (seq_of s4 (ret_of mo))))
  · exact Ext.set (Ext.trans x3 (by rw [List.append_assoc, List.append_assoc]; exact Ext.app _ _)) (by omega)
  · refine gset (glow (glow (gapp 0 rfl))) (by omega)
  · refine gset (glow ?_) (by omega)
    have := gapp (hp := h3 ++ [Cell.tP (rm T)]) (L := [Cell.tP (rm (goR ru T o (idP T, idP T)).2.1)]) 0 rfl
    rw [show (h3 ++ [Cell.tP (rm T)]).length = h3.length + 1 by simp] at this
    exact this
end
end Lw
namespace Lw
open L2 Ma PySem.Spec PySem PyProof.Rows
/-! what an outcome tells -/
section
variable {T K : List IP} {r h k w : Int} {hp B : List Cell} {x y a b a' b' i : Nat} {st : Option IP} {s : MS} {env : List (Option M)}
theorem isO (o : OutAt s.hp x a b T st K) : isIns "Outcome" (.box x) s = true := by
  unfold isIns
  dsimp only
  rw [o.i]
  rfl
theorem trip_at (o : OutAt hp x a b T st K) (e : env[i]? = some (some (.box x))) : mFld ["Outcome"] [] "_triple" (mv i) ⟨env, hp⟩ = .ok (.tup [.box a, stM st, .box b]) ⟨env, hp⟩ := fld_ins (mv_of e) o.i rfl rfl
theorem orows_at (o : OutAt hp x a b T st K) : F_Outcome_rows [.box x] hp = .ok (.box a) hp :=
  (show F_Outcome_rows [.box x] hp = bodyF 1 1 m_Outcome_rows [.box x] hp from rfl).trans (body_rt (s' := ⟨[some (.box x)], hp⟩) (ret_of (m2_of (trip_at o rfl) (y := .int 0) rfl rfl)))
theorem ostop_at (o : OutAt hp x a b T st K) : F_Outcome_stop [.box x] hp = .ok (stM st) hp :=
  (show F_Outcome_stop [.box x] hp = bodyF 1 1 m_Outcome_stop [.box x] hp from rfl).trans (body_rt (s' := ⟨[some (.box x)], hp⟩) (ret_of (m2_of (trip_at o rfl) (y := .int 1) rfl rfl)))
theorem oends_at (o : OutAt hp x a b T st K) : F_Outcome_ends [.box x] hp = .ok (.box b) hp :=
  (show F_Outcome_ends [.box x] hp = bodyF 1 1 m_Outcome_ends [.box x] hp from rfl).trans (body_rt (s' := ⟨[some (.box x)], hp⟩) (ret_of (m2_of (trip_at o rfl) (y := .int 2) rfl rfl)))
theorem prp_of {F : Fn} {res : M} {hp' : List Cell} (o : OutAt hp x a b T st K) (e : env[i]? = some (some (.box x))) (hF : F [.box x] hp = .ok res hp') : mAt (mv i) (oPrp "Outcome" F (fun _ _ => .stuck)) ⟨env, hp⟩ = .ok res ⟨env, hp'⟩ := by
  refine (Ma.at_of (mv_of e)).trans ?_
  unfold oPrp
  rw [if_pos (isO (s := ⟨env, hp⟩) o)]
  show noErr (upF env (F [.box x] hp)) = _
  rw [hF]
  rfl
abbrev endsE (i : Nat) : ME := mAt (mv i) (oPrp "Outcome" F_Outcome_ends (fun _ _ => .stuck))
abbrev rowsE (i : Nat) : ME := mAt (mv i) (oPrp "Outcome" F_Outcome_rows (fun _ _ => .stuck))
theorem endsI (o : OutAt hp x a b T st K) (e : env[i]? = some (some (.box x))) : iSeqP (endsE i) ⟨env, hp⟩ = .ok (rm K) ⟨env, hp⟩ := seqP_of (prp_of o e (oends_at o)) o.rb
theorem left_at (o : OutAt hp x a b T st K) (lK : K.length ≤ 100) : F_Outcome_left [.box x] hp = .ok (tupI (keysP K)) hp := by
  have c := mlc_if (vs := [1]) (it := iSeqP (endsE 0)) (tg := gSet 1) (tt := mYes) (el := m2 (oIxD oIx) (mv 1) (mc (.int 0))) (em := pM) (f := fun p => M.int p.1) (p := fun _ => true) (xs := K) (s := ⟨[some (.box x), none], hp⟩) (s1 := ⟨[some (.box x), none], hp⟩) (endsI o rfl) (by show K.length ≤ 16777216; omega)
    fun p _ => ⟨⟨[some (.box x), some (pM p)], hp⟩, [some (.box x), some (pM p)], rfl, rfl, fun _ => ⟨_, rfl⟩⟩
  rw [List.filter_eq_self.mpr (fun _ _ => rfl)] at c
  refine (show F_Outcome_left [.box x] hp = bodyF 1 2 m_Outcome_left [.box x] hp from rfl).trans (body_rt (s' := ⟨[some (.box x), none], hp⟩) (ret_of (call_of (o := cTup) (mone c) ?_)))
  show Res.ok (M.tup (K.map fun p => M.int p.1)) _ = Res.ok (M.tup ((keysP K).map M.int)) _
  rw [keysP, List.map_map]
  rfl
def valsP (K : List IP) : List Int := K.map (·.2)
theorem held_at (o : OutAt hp x a b T st K) (lK : K.length ≤ 100) {m : List Int} (hm : (valsP K).Perm m) (hs : m.Pairwise (· ≤ ·)) : F_Outcome_held [.box x] hp = .ok (tupI m) hp := by
  have c := mlc_if (vs := [1]) (it := iSeqP (endsE 0)) (tg := gSet 1) (tt := mYes) (el := m2 (oIxD oIx) (mv 1) (mc (.int 1))) (em := pM) (f := fun p => M.int p.2) (p := fun _ => true) (xs := K) (s := ⟨[some (.box x), none], hp⟩) (s1 := ⟨[some (.box x), none], hp⟩) (endsI o rfl) (by show K.length ≤ 16777216; omega)
    fun p _ => ⟨⟨[some (.box x), some (pM p)], hp⟩, [some (.box x), some (pM p)], rfl, rfl, fun _ => ⟨_, rfl⟩⟩
  rw [List.filter_eq_self.mpr (fun _ _ => rfl)] at c
  have e : (K.map fun p => M.int p.2) = (valsP K).map M.int := by unfold valsP; rw [List.map_map]; rfl
  rw [e] at c
  refine (show F_Outcome_held [.box x] hp = bodyF 1 2 m_Outcome_held [.box x] hp from rfl).trans (body_rt (s' := ⟨[some (.box x), none], hp⟩) (ret_of (call_of (o := cTup) (mone (call_of (o := cSortD) (mone c) (sortD_ints hm hs))) rfl)))
theorem olen_at (o : OutAt hp x a b T st K) : F_Outcome___len__ [.box x] hp = .ok (.int K.length) hp := by
  refine (show F_Outcome___len__ [.box x] hp = bodyF 1 1 m_Outcome___len__ [.box x] hp from rfl).trans (body_rt (s' := ⟨[some (.box x)], hp⟩) (ret_of (call_of (o := cLenD (cLenP cLen)) (mone (prp_of (i := 0) o rfl (oends_at o))) ?_)))
  have z : dictOf hp (.box b) = none := by unfold dictOf; dsimp only; rw [o.rb]
  unfold cLenD
  dsimp only
  rw [z]
  dsimp only
  unfold cLenP
  dsimp only
  rw [tpL_of o.rb]
  simp
/-- the rows that hold their new key, but not their first one -/
def mvB (T : List IP) (p : IP) : Bool := (p.2 == wT T p.1) && (p.2 != p.1)
def mvL (T K : List IP) : List Int := keysP (K.filter (mvB T))
theorem moved_at (o : OutAt hp x a b T st K) (nd : (keysP T).Nodup) (lK : K.length ≤ 100) (hK : ∀ p ∈ K, (getP T p.1).isSome = true) : F_Outcome_moved [.box x] hp = .ok (tupI (mvL T K)) (hp ++ [.dK (dm T)]) := by
  have d1 : sSet 1 (mCall (mCons (rowsE 0) mNil) (cDictT cDict)) ⟨[some (.box x), none, none, none], hp⟩ = .ok .nx ⟨[some (.box x), some (.box hp.length), none, none], hp ++ [.dK (dm T)]⟩ :=
    set_of (call_of (o := cDictT cDict) (mone (prp_of (i := 0) o rfl (orows_at o))) (dictT_of (s := ⟨[some (.box x), none, none, none], hp⟩) nd o.ra))
  have o1 : OutAt (hp ++ [.dK (dm T)]) x a b T st K := o.ext (Ext.app _ _)
  have hd : (hp ++ [Cell.dK (dm T)])[hp.length]? = some (.dK (dm T)) := gapp 0 rfl
  have c := mlc_if (vs := [2, 3]) (it := iSeqP (endsE 0)) (tg := gTupN [2, 3]) (tt := mAnd (mB (m2 (oEqK false (oEqD false)) (mv 3) (m2 (oIxD oIx) (mv 1) (mv 2)))) (mB (m2 (oEqK true (oEqD true)) (mv 3) (mv 2)))) (el := mv 2) (em := pM) (f := fun p => M.int p.1) (p := mvB T) (xs := K)
    (s := ⟨[some (.box x), some (.box hp.length), none, none], hp ++ [.dK (dm T)]⟩) (s1 := ⟨[some (.box x), some (.box hp.length), none, none], hp ++ [.dK (dm T)]⟩) (endsI o1 rfl) (by show K.length ≤ 16777216; omega)
    fun p hp' => ⟨⟨[some (.box x), some (.box hp.length), some (.int p.1), some (.int p.2)], hp ++ [.dK (dm T)]⟩, [some (.box x), some (.box hp.length), some (.int p.1), some (.int p.2)], rfl, by
      obtain ⟨w, hw⟩ := Option.isSome_iff_exists.mp (hK p hp')
      have t1 : mB (m2 (oEqK false (oEqD false)) (mv 3) (m2 (oIxD oIx) (mv 1) (mv 2))) ⟨[some (.box x), some (.box hp.length), some (.int p.1), some (.int p.2)], hp ++ [.dK (dm T)]⟩ = .ok (p.2 == w) ⟨[some (.box x), some (.box hp.length), some (.int p.1), some (.int p.2)], hp ++ [.dK (dm T)]⟩ :=
        b_of (m2_of (mv_of rfl) (ixd_of (mv_of rfl) (mv_of rfl) hd hw) eq_int)
      have t2 : mB (m2 (oEqK true (oEqD true)) (mv 3) (mv 2)) ⟨[some (.box x), some (.box hp.length), some (.int p.1), some (.int p.2)], hp ++ [.dK (dm T)]⟩ = .ok (!(p.2 == p.1)) ⟨[some (.box x), some (.box hp.length), some (.int p.1), some (.int p.2)], hp ++ [.dK (dm T)]⟩ :=
        b_of (m2_of (mv_of rfl) (mv_of rfl) rfl)
      unfold mvB
      rw [wT_of hw]
      cases z : (p.2 == w) with
      | false => rw [z] at t1; exact and_f t1
      | true => rw [z] at t1; exact (and_t t1).trans t2, fun _ => ⟨_, rfl⟩⟩
  refine (show F_Outcome_moved [.box x] hp = bodyF 1 4 m_Outcome_moved [.box x] hp from rfl).trans (body_rt (s' := ⟨[some (.box x), some (.box hp.length), none, none], hp ++ [.dK (dm T)]⟩) (seq_of d1 (ret_of (call_of (o := cTup) (mone c) ?_))))
  show Res.ok (M.tup ((K.filter (mvB T)).map fun p => M.int p.1)) _ = Res.ok (M.tup ((keysP (K.filter (mvB T))).map M.int)) _
  rw [keysP, List.map_map]
  rfl
def optM : Option Int → M
  | some v => .int v
  | none => .non
theorem oget_at (o : OutAt hp x a b T st K) (nd : (keysP T).Nodup) (nK : (keysP K).Nodup) (hr : (getP T r).isSome = true) : F_Outcome___getitem__ [.box x, .int r] hp = .ok (optM (getP K r)) (hp ++ [.dK (dm T), .dK (dm K)]) := by
  have o1 : OutAt (hp ++ [.dK (dm T)]) x a b T st K := o.ext (Ext.app _ _)
  have hd : (hp ++ [Cell.dK (dm T)])[hp.length]? = some (.dK (dm T)) := gapp 0 rfl
  have d1 : mCall (mCons (rowsE 0) mNil) (cDictT cDict) ⟨[some (.box x), some (.int r)], hp⟩ = .ok (.box hp.length) ⟨[some (.box x), some (.int r)], hp ++ [.dK (dm T)]⟩ :=
    call_of (o := cDictT cDict) (mone (prp_of (i := 0) o rfl (orows_at o))) (dictT_of (s := ⟨[some (.box x), some (.int r)], hp⟩) nd o.ra)
  have t1 : mOr (mNot (mB (mFn (mCons (mv 1) mNil) F_is_integer))) (mB (m2 (oInD true (oInL true)) (mv 1) (mCall (mCons (rowsE 0) mNil) (cDictT cDict)))) ⟨[some (.box x), some (.int r)], hp⟩ = .ok false ⟨[some (.box x), some (.int r)], hp ++ [.dK (dm T)]⟩ := by
    refine (or_f (not_of (b_of (fn_of (F := F_is_integer) (s := ⟨[some (.box x), some (.int r)], hp⟩) (mone (a := mv 1) (mv_of rfl)) is_integer_at)))).trans (b_of (m2_of (mv_of rfl) d1 ?_))
    rw [inw (dicO hd), hr]
    rfl
  have l1 : (hp ++ [Cell.dK (dm T)]).length = hp.length + 1 := by simp
  have d2 : mCall (mCons (endsE 0) mNil) (cDictT cDict) ⟨[some (.box x), some (.int r)], hp ++ [.dK (dm T)]⟩ = .ok (.box (hp.length + 1)) ⟨[some (.box x), some (.int r)], hp ++ [.dK (dm T)] ++ [.dK (dm K)]⟩ := by
    have := call_of (o := cDictT cDict) (mone (prp_of (i := 0) o1 (env := [some (.box x), some (.int r)]) rfl (oends_at o1))) (dictT_of (s := ⟨[some (.box x), some (.int r)], hp ++ [.dK (dm T)]⟩) nK o1.rb)
    dsimp only at this
    rw [l1] at this
    exact this
  have hd2 : (hp ++ [Cell.dK (dm T)] ++ [Cell.dK (dm K)])[hp.length + 1]? = some (.dK (dm K)) := by
    have := gapp (hp := hp ++ [Cell.dK (dm T)]) (L := [Cell.dK (dm K)]) 0 rfl
    rw [l1] at this
    exact this
  have g := get1_of (b := mv 1) d2 hd2 (mv_of (m := .int r) rfl) hd2
  refine (show F_Outcome___getitem__ [.box x, .int r] hp = bodyF 2 2 m_Outcome___getitem__ [.box x, .int r] hp from rfl).trans ?_
  have z : hp ++ [Cell.dK (dm T), Cell.dK (dm K)] = hp ++ [Cell.dK (dm T)] ++ [Cell.dK (dm K)] := by simp
  rw [z]
  refine body_rt (s' := ⟨[some (.box x), some (.int r)], _⟩) (seq_of ((if_of t1).trans rfl) (ret_of (g.trans ?_)))
  cases getP K r <;> rfl
/-! equal outcomes -/
def stD : Option IP → PyData
  | none => .tuple []
  | some p => dP p
end
end Lw
namespace Lw
open L2 Ma PySem.Spec PySem PyProof.Rows
/-! runs of the four rules in one order -/
section
variable {T : List IP} {S S1 : LL} {r h k w : Int} {o : List Int}
theorem go_cons (ru : Rl) (T : List IP) (r : Int) (o : List Int) (S : LL) : goR ru T (r :: o) S = if visC T S.1 S.2 r = true then (match getP S.2 (wT T r) with
      | some h => if goes ru = true then goR ru T o (clR ru T S r h) else (some (r, h), clR ru T S r h)
      | none => goR ru T o (mvR T S r))
    else goR ru T o S := rfl
theorem go_quiet (ru : Rl) (hv : ¬ visC T S.1 S.2 r = true) : goR ru T (r :: o) S = goR ru T o S := by rw [go_cons, if_neg hv]
theorem go_move (ru : Rl) (hv : visC T S.1 S.2 r = true) (h : getP S.2 (wT T r) = none) : goR ru T (r :: o) S = goR ru T o (mvR T S r) := by rw [go_cons, if_pos hv, h]
theorem go_clash (ru : Rl) (hv : visC T S.1 S.2 r = true) (hh : getP S.2 (wT T r) = some h) : goR ru T (r :: o) S = if goes ru = true then goR ru T o (clR ru T S r h) else (some (r, h), clR ru T S r h) := by rw [go_cons, if_pos hv, hh]
theorem vis_some (hv : visC T S.1 S.2 r = true) : (getP S.1 r).isSome = true := by
  unfold visC at hv
  exact (Bool.and_eq_true_iff.mp hv).1
theorem vis_key (hv : visC T S.1 S.2 r = true) : r ∈ keysP S.1 := getP_key.mp (vis_some hv)
theorem keys_put (h : k ∈ keysP S.1) : keysP (putP S.1 k w) = keysP S.1 := by unfold putP; rw [if_pos h, keys_upd]
theorem getP_mv (j : Int) : getP (mvR T S r).1 j = if j = r then some (wT T r) else getP S.1 j := getP_put _ _ _ _
end
end Lw
namespace Lw
open L2 Ma PySem.Spec PySem PyProof.Rows
/-! what pieces come to over any heap that has grown out of one -/
def EvB (B : List Cell) (env : List (Option M)) (E : ME) (v : M) : Prop := ∀ hp, Ext B hp → ∃ hp1, Ext hp hp1 ∧ E ⟨env, hp⟩ = .ok v ⟨env, hp1⟩
def EtB (B : List Cell) (env : List (Option M)) (t : MT) (b : Bool) : Prop := ∀ hp, Ext B hp → ∃ hp1, Ext hp hp1 ∧ t ⟨env, hp⟩ = .ok b ⟨env, hp1⟩
def EoB (B : List Cell) (env : List (Option M)) (o : M → M → MS → Res M) (x y v : M) : Prop := ∀ hp, Ext B hp → ∃ hp1, Ext hp hp1 ∧ o x y ⟨env, hp⟩ = .ok v ⟨env, hp1⟩
section
variable {B : List Cell} {env : List (Option M)} {a b e : ME} {t u : MT} {o : M → M → MS → Res M} {x y v : M} {p q : Bool} {i n : Nat} {c : Str} {F : Fn} {ts : List Tg}
theorem EvB.up {B' : List Cell} (h : EvB B env e v) (k : Ext B B') : EvB B' env e v := fun hp x => h hp (k.trans x)
theorem EtB.up {B' : List Cell} (h : EtB B env t p) (k : Ext B B') : EtB B' env t p := fun hp x => h hp (k.trans x)
theorem evb_v (h : env[i]? = some (some v)) : EvB B env (mv i) v := fun hp _ => ⟨hp, Ext.refl _, mv_of h⟩
theorem evb_m2 (ha : EvB B env a x) (hb : EvB B env b y) (ho : EoB B env o x y v) : EvB B env (m2 o a b) v := fun hp k => by
  obtain ⟨h1, k1, e1⟩ := ha hp k
  obtain ⟨h2, k2, e2⟩ := hb h1 (k.trans k1)
  obtain ⟨h3, k3, e3⟩ := ho h2 ((k.trans k1).trans k2)
  exact ⟨h3, (k1.trans k2).trans k3, m2_of e1 e2 e3⟩
theorem or_tt {t u : MT} {s s1 : MS} (h : t s = .ok true s1) : mOr t u s = .ok true s1 := by unfold mOr; rw [h]; rfl
/-! loops of a comprehension whose pieces let the heap grow -/
theorem lc_exF {α : Type} {vs : List Nat} {tg : MG} {tt : MT} {el : ME} {em f : α → M} {p : α → Bool} : ∀ (xs : List α) (acc : List M) (hp : List Cell), Ext B hp → acc.length + xs.length ≤ big →
    (∀ x ∈ xs, ∃ e1, (∀ hp, tg (em x) ⟨wipeM env vs, hp⟩ = .ok () ⟨e1, hp⟩) ∧ EtB B e1 tt (p x) ∧ (p x = true → EvB B e1 el (f x))) →
    ∃ hp', lcLoop vs tg tt el (xs.map em) acc ⟨env, hp⟩ = .ok (acc ++ (xs.filter p).map f) ⟨env, hp'⟩ ∧ Ext hp hp'
  | [], acc, hp, _, _, _ => ⟨hp, by rw [List.map_nil, lcLoop]; simp, Ext.refl _⟩
  | x :: xs, acc, hp, k, hl, h => by
    obtain ⟨e1, h1, h2, h3⟩ := h x (by simp)
    obtain ⟨hp1, k1, g1⟩ := h2 hp k
    rw [List.length_cons] at hl
    cases hx : p x with
    | false =>
      rw [hx] at g1
      obtain ⟨hp', e, k3⟩ := lc_exF (vs := vs) (tg := tg) (tt := tt) (el := el) (em := em) (f := f) (p := p) xs acc hp1 (k.trans k1) (by omega) fun z hz => h z (by simp [hz])
      refine ⟨hp', ?_, k1.trans k3⟩
      rw [List.map_cons, lcLoop, h1 hp]
      dsimp only
      rw [g1]
      dsimp only
      rw [e, List.filter_cons, hx]
      simp
    | true =>
      rw [hx] at g1
      obtain ⟨hp2, k2, g2⟩ := h3 hx hp1 (k.trans k1)
      obtain ⟨hp', e, k3⟩ := lc_exF (vs := vs) (tg := tg) (tt := tt) (el := el) (em := em) (f := f) (p := p) xs (acc ++ [f x]) hp2 ((k.trans k1).trans k2) (by simp; omega) fun z hz => h z (by simp [hz])
      refine ⟨hp', ?_, (k1.trans k2).trans k3⟩
      rw [List.map_cons, lcLoop, h1 hp]
      dsimp only
      rw [g1]
      dsimp only
      rw [g2]
      dsimp only
      rw [if_pos (by omega), e, List.filter_cons, hx]
      simp
/-- a comprehension whose walk keeps the heap -/
theorem evb_lc {α : Type} {vs : List Nat} {it : MI} {tg : MG} {tt : MT} {el : ME} {em f : α → M} {p : α → Bool} {xs : List α} (hi : ∀ hp, Ext B hp → ∃ hp1, Ext hp hp1 ∧ it ⟨env, hp⟩ = .ok (xs.map em) ⟨env, hp1⟩) (hl : xs.length ≤ 1000)
    (h : ∀ x ∈ xs, ∃ e1, (∀ hp, tg (em x) ⟨wipeM env vs, hp⟩ = .ok () ⟨e1, hp⟩) ∧ EtB B e1 tt (p x) ∧ (p x = true → EvB B e1 el (f x))) : EvB B env (mLc vs it tg tt el) (.lst ((xs.filter p).map f)) := fun hp k => by
  obtain ⟨h1, k1, e1⟩ := hi hp k
  obtain ⟨h2, e2, k2⟩ := lc_exF (vs := vs) (tg := tg) (tt := tt) (el := el) (em := em) (f := f) (p := p) (env := env) xs [] h1 (k.trans k1) (by show 0 + xs.length ≤ 16777216; omega) h
  refine ⟨h2, k1.trans k2, ?_⟩
  unfold mLc
  rw [e1]
  show (lcLoop vs tg tt el (xs.map em) [] ⟨env, h1⟩).bind _ = _
  rw [e2]
  rfl
end
/-! comparisons of tuples of ints -/
end Lw
namespace Lw
open L2 Ma PySem.Spec PySem PyProof.Rows
/-! SB -/
theorem dictOf_w {hp : List Cell} {w : Nat} {kms : List (L2.Key × M)} (h : hp[w]? = some (.dK kms)) : dictOf hp (.box w) = some kms := by
  unfold dictOf
  dsimp only
  rw [h]
section
variable {L w : Nat} {hp : List Cell} {W : List IP} {k v row : Int} {env : List (Option M)} {i j : Nat} {neg : Bool} {o : M → M → MS → Res M}
theorem ne_int {x y : Int} {s : MS} : oEqK true (oEqD true) (.int x) (.int y) s = .ok (.bl (!(x == y))) s := rfl
theorem and_tt {t u : MT} {s s1 : MS} (h : t s = .ok true s1) : mAnd t u s = u s1 := by unfold mAnd; rw [h]; rfl
end
/-! SC -/
theorem set_back {hp : List Cell} {w : Nat} {c c' : Cell} (h : hp[w]? = some c) : (hp.set w c').set w c = hp := by
  obtain ⟨hl, e⟩ := List.getElem?_eq_some_iff.mp h
  rw [List.set_set, ← e, List.set_getElem_self]
theorem keysM_dm (W : List IP) : keysM (dm W) = (keysP W).map M.int := by
  unfold keysM dm keysP
  rw [List.map_map, List.map_map, List.map_map]
  rfl
section
variable {n d w L : Nat} {T W : List IP} {hp : List Cell} {row : Int}
theorem row_key {T : List IP} (k : Int) : (getP T k).isSome = true ↔ k ∈ keysP T := by
  unfold getP keysP
  rw [Option.isSome_map, List.find?_isSome]
  constructor
  · rintro ⟨p, hp, e⟩
    exact List.mem_map.mpr ⟨p, hp, by simpa using e⟩
  · intro h
    obtain ⟨p, hp, rfl⟩ := List.mem_map.mp h
    exact ⟨p, hp, by simp⟩
end
/-! GA -/
section
variable {A B hp hp' : List Cell} {n d w : Nat} {T W : List IP} {c c' : Cell}
theorem dictOf_f {kms : List (L2.Key × M)} (h : hp[w]? = some (.dF kms)) : dictOf hp (.box w) = some kms := by
  unfold dictOf
  dsimp only
  rw [h]
theorem lt_of {c : Cell} (h : hp[n]? = some c) : n < hp.length := (List.getElem?_eq_some_iff.mp h).1
theorem Ext.set2 (e : Ext (A.set w c) hp) (h : A[w]? = some c') : Ext A (hp.set w c') := fun k q hk => by
  by_cases z : w = k
  · subst z
    rw [h] at hk
    cases hk
    have hl := lt_of h
    have := e w c (List.getElem?_set_self hl)
    exact List.getElem?_set_self (lt_of this)
  · rw [List.getElem?_set_ne z]
    exact e k q (by rw [List.getElem?_set_ne z]; exact hk)
theorem lock_ext {i w : Nat} {kms : List (L2.Key × M)} {b : MStm} {env env' : List (Option M)} {fl : Fl} (hs : env[i]? = some (some (.box w))) (hw : hp[w]? = some (.dK kms)) (hb : b ⟨env, hp.set w (.dF kms)⟩ = .ok fl ⟨env', hp'⟩) (e : Ext (hp.set w (.dF kms)) hp') :
    sLock i b ⟨env, hp⟩ = .ok fl ⟨env', hp'.set w (.dK kms)⟩ ∧ Ext hp (hp'.set w (.dK kms)) := by
  have hl := lt_of hw
  refine ⟨?_, Ext.set2 e hw⟩
  unfold sLock
  rw [show (MS.env ⟨env, hp⟩)[i]? = some (some (.box w)) from hs]
  dsimp only
  rw [hw]
  dsimp only
  rw [hb]
  unfold unlk
  dsimp only
  rw [e w _ (List.getElem?_set_self hl)]
end
/-! GB -/
section
variable {n d w L : Nat} {T W : List IP} {hp B : List Cell} {k : Int}
theorem ikey_f {i : Nat} {env : List (Option M)} (hi : env[i]? = some (some (.box d))) (h : hp[d]? = some (.dF (dm T))) : iKey (mv i) ⟨env, hp⟩ = .ok ((keysP T).map M.int) ⟨env, hp⟩ := by
  unfold iKey
  rw [mv_of hi]
  show (match hp[d]? with | some (.dF kms) => Res.ok (keysM kms) _ | _ => Res.stuck) = _
  rw [h]
  dsimp only
  rw [keysM_dm]
end
/-! GC -/
structure DW (hp : List Cell) (w : Nat) (T W : List IP) : Prop where
  d : dictOf hp (.box w) = some (dm W)
  r : Rows T
  s : Srt T
  p : W.Perm T
section
variable {n d w L : Nat} {T W : List IP} {hp B : List Cell} {k : Int}
theorem DW.fn (h : DW hp w T W) : getP W = getP T := funext fun k => (getP_perm h.p.symm h.s.nodup k).symm
end
/-! CLa -/
section
variable {n d w L D : Nat} {T W ps : List IP} {hp hp' A B : List Cell} {c c' : Cell} {k v row : Int} {env : List (Option M)} {i j : Nat} {neg : Bool} {o : M → M → MS → Res M} {l : List Int} {ks p done acc R : List Int} {y : M} {g : Int → Option Int} {st res : List Int} {e : Str}
def vT (T : List IP) (k : Int) : Int := (getP T k).getD 0
theorem vT_of {T : List IP} {k v : Int} (h : getP T k = some v) : vT T k = v := by unfold vT; rw [h]; rfl
theorem vT_get {T : List IP} {k : Int} (h : k ∈ keysP T) : getP T k = some (vT T k) := by
  obtain ⟨v, hv⟩ := Option.isSome_iff_exists.mp ((row_key k).mpr h)
  rw [hv, vT_of hv]
theorem DW.ix {k : Int} {env : List (Option M)} (h : DW hp w T W) (hk : k ∈ keysP T) : oIxD oIx (.box w) (.int k) ⟨env, hp⟩ = .ok (.int (vT T k)) ⟨env, hp⟩ := ixw h.d (by rw [h.fn]; exact vT_get hk)
end
/-! HB -/
section
variable {n d w D : Nat} {T W : List IP} {hp B : List Cell} {acc : List Int}
theorem ix_hdL {a : Int} {r : List Int} {s : MS} : oIxD oIx (.lst ((a :: r).map M.int)) (.int 0) s = .ok (.int a) s := ix_int (js := a :: r) (j := 0) (by simp)
end
/-! CL -/
section
variable {n d w L D : Nat} {T W ps : List IP} {hp hp' A B : List Cell} {c c' : Cell} {k v row : Int} {env : List (Option M)} {i j : Nat} {neg : Bool} {o : M → M → MS → Res M} {l : List Int} {ks p done acc R : List Int} {y : M} {g : Int → Option Int} {st res : List Int} {e : Str}
theorem eq_nil {neg : Bool} {ms : List M} (h : ∀ m ∈ ms, DatOk m) {s : MS} : oEqK neg (oEqD neg) (.lst ms) (.lst []) s = .ok (.bl (if neg then !ms.isEmpty else ms.isEmpty)) s := by
  obtain ⟨ds, e1, e2, e3, e4⟩ := datL_ok h
  unfold oEqK
  rw [show dictOf s.hp (.lst ms) = none from rfl, show dictOf s.hp (.lst []) = none from rfl]
  dsimp only
  unfold oEqD
  have t1 : datT s.hp (.lst ms) = some (.list ds) := by
    show (datL ms).map PyData.list = _
    rw [e1]; rfl
  rw [t1, show datT s.hp (.lst []) = some (.list []) from rfl]
  dsimp only
  have sh : (SeqAt.shaped (.list ds) && SeqAt.shaped (.list [])) = true := by
    have a : SeqAt.shaped (.list ds) = true := by
      unfold SeqAt.shaped
      rw [show PyData.canLay0 (.list ds) = true from e2, show PyData.depth (.list ds) = PyData.depthAll ds + 1 from rfl, decide_eq_true (by omega)]; rfl
    rw [a]; rfl
  rw [if_pos sh]
  cases ms with
  | nil =>
    cases ds with
    | nil => cases neg <;> rfl
    | cons _ _ => simp at e4
  | cons m l =>
    cases ds with
    | nil => simp at e4
    | cons d ds => cases neg <;> simp [PyData.eqv, PyData.eqvAll]
theorem mtup2 {a b : ME} {s s1 s2 : MS} {x y : M} (ha : a s = .ok x s1) (hb : b s1 = .ok y s2) : mTup (mCons a (mCons b mNil)) s = .ok (.tup [x, y]) s2 := by
  unfold mTup
  rw [mcons_of ha (mone hb)]
  rfl
theorem sub_of {o i : ME} {f : FSet} {e : ME} {s s1 s2 s3 s4 : MS} {u x k : M} (he : e s = .ok u s1) (ho : o s1 = .ok x s2) (hi : i s2 = .ok k s3) (hf : f x k u s3 = .ok () s4) : sAsg e (Ma.gSub o i f) s = .ok .nx s4 := by
  unfold sAsg
  rw [he]
  show Res.bind (Ma.gSub o i f u s1) _ = _
  unfold Ma.gSub
  rw [ho]
  show Res.bind (Res.bind (i s2) _) _ = _
  rw [hi]
  show Res.bind (f x k u s3) _ = _
  rw [hf]
  rfl
theorem lock_same {hp : List Cell} {i w : Nat} {kms : List (L2.Key × M)} {b : MStm} {env env' : List (Option M)} {fl : Fl} (hs : env[i]? = some (some (.box w))) (hw : hp[w]? = some (.dK kms)) (hb : b ⟨env, hp.set w (.dF kms)⟩ = .ok fl ⟨env', hp.set w (.dF kms)⟩) : sLock i b ⟨env, hp⟩ = .ok fl ⟨env', hp⟩ := by
  have h := (lock_ext hs hw hb (Ext.refl _)).1
  rw [set_back hw] at h
  exact h
theorem map_rows (f : Int → Int) : ∀ l : List Int, (l.filter fun _ => true).map (fun k => pM (k, f k)) = rm (l.map fun k => (k, f k)) := fun l => by
  rw [List.filter_eq_self.mpr (fun _ _ => rfl)]
  unfold rm
  rw [List.map_map]
  rfl
theorem str_cmp {x y : Str} (hx : lowB x = true) (hy : lowB y = true) {s : MS} : oEqK false (oEqD false) (.str x) (.str y) s = .ok (.bl (x == y)) s := by
  show oEqD false (.str x) (.str y) _ = _
  rw [oEqD_str (lowS_of hx) (lowS_of hy)]
  rfl
theorem keys_len (R : Rows T) : (keysP T).length ≤ 40 := by simp [keysP]; exact R.le
end
/-! IA -/
abbrev Pl := Int → Option Int
section
variable {T : List IP} {P : Pl} {k r v n : Int} {o : List Int}
abbrev P0 : Pl := fun k => some k
end
/-! IC -/
def pv : Option Int → M
  | some i => .int i
  | none => .non
abbrev plM (ks : List Int) (P : Pl) : List (L2.Key × M) := ks.map fun k => (.inl k, pv (P k))
abbrev upP (P : Pl) (r : Int) (x : Option Int) : Pl := fun k => if k = r then x else P k
theorem plM_val {ks : List Int} {P : Pl} {k : Int} (h : k ∈ ks) : valG (plM ks P) (.inl k) = some (pv (P k)) := by
  unfold valG
  have : (plM ks P).find? (fun kv => decide (kv.1 = (.inl k : L2.Key))) = some (.inl k, pv (P k)) := by
    induction ks with
    | nil => simp at h
    | cons a ks ih =>
      by_cases e : a = k
      · subst e
        rw [plM, List.map_cons, List.find?_cons_of_pos (by simp)]
      · have hk : k ∈ ks := by
          rcases List.mem_cons.mp h with z | z
          · exact absurd z.symm e
          · exact z
        rw [plM, List.map_cons, List.find?_cons_of_neg (by simp; exact e)]
        exact ih hk
  rw [this]
  rfl
theorem plM_put {ks : List Int} {P : Pl} {r : Int} {x : Option Int} (h : r ∈ ks) : putG (plM ks P) (.inl r) (pv x) = plM ks (upP P r x) := by
  unfold putG
  have e : ((plM ks P).any fun kv => decide (kv.1 = (.inl r : L2.Key))) = true := List.any_eq_true.mpr ⟨(.inl r, pv (P r)), List.mem_map.mpr ⟨r, h, rfl⟩, by simp⟩
  rw [e, if_pos rfl, List.map_map]
  refine List.map_congr_left fun k _ => ?_
  by_cases z : k = r
  · subst z
    simp [upP]
  · have : ¬ (Sum.inl k : L2.Key) = .inl r := fun q => z (Sum.inl.inj q)
    simp [upP, z]
theorem plM_keys (ks : List Int) (P : Pl) : keysM (plM ks P) = ks.map M.int := by
  unfold keysM plM
  rw [List.map_map, List.map_map]
  rfl
def hldB (P : Pl) (v r o : Int) : Bool := (P o == some v) && (o != r)
abbrev hldR (ks : List Int) (P : Pl) (v r : Int) : List Int := ks.filter (hldB P v r)
theorem hld_mem {ks : List Int} {P : Pl} {v r o : Int} : o ∈ hldR ks P v r ↔ o ∈ ks ∧ P o = some v ∧ o ≠ r := by
  rw [List.mem_filter]
  unfold hldB
  simp
section
variable {w D : Nat} {T W ps : List IP} {hp B : List Cell} {p o ks : List Int} {r k : Int} {o5 o6 o7 : Option M} {P : Pl} {neg : Bool} {env : List (Option M)}
theorem ixp (hd : dictOf hp (.box D) = some (plM ks P)) (hk : k ∈ ks) : oIxD oIx (.box D) (.int k) ⟨env, hp⟩ = .ok (pv (P k)) ⟨env, hp⟩ := by
  unfold oIxD
  rw [show dictOf (MS.hp ⟨env, hp⟩) (.box D) = some (plM ks P) from hd]
  show (match valG (plM ks P) (.inl k) with | some m => Res.ok m _ | none => Res.stuck) = _
  rw [plM_val hk]
theorem ikey_p {i : Nat} (hi : env[i]? = some (some (.box D))) (h : hp[D]? = some (.dF (plM ks P))) : iKey (mv i) ⟨env, hp⟩ = .ok (ks.map M.int) ⟨env, hp⟩ := by
  unfold iKey
  rw [mv_of hi]
  show (match hp[D]? with | some (.dF kms) => Res.ok (keysM kms) _ | _ => Res.stuck) = _
  rw [h]
  dsimp only
  rw [plM_keys]
theorem pv_eq {x : Option Int} {v : Int} {s : MS} : oEqK false (oEqD false) (pv x) (.int v) s = .ok (.bl (x == some v)) s := by
  cases x with
  | none => rfl
  | some i =>
    have : (some i == some v) = (i == v) := rfl
    rw [this]
    exact eq_int
theorem pv_non {x : Option Int} {s : MS} : oIsN true (pv x) .non s = .ok (.bl x.isSome) s := by
  cases x <;> rfl
/-- the rows that are left, with their places -/
def lfR (ks : List Int) (P : Pl) : List IP := srtP ((ks.filter fun k => (P k).isSome).map fun k => (k, (P k).getD 0))
abbrev ixPl : ME := (m2 (oIxD oIx) (mv 4) (mv 9))
abbrev hLc : ME := (mLc [9] (iKey (mv 4)) (gSet 9) (mAnd (mB (m2 (oEqK false (oEqD false)) ixPl (mv 6))) (mB (m2 (oEqK true (oEqD true)) (mv 9) (mv 5)))) (mv 9))
def u1 : MStm := (sSet 6 (m2 (oIxD oIx) (mv 3) (mv 5)))
def u2 : MStm := (sLock 4 (sSet 7 hLc))
def uT : MT := (mAnd (mB (m2 (oIsN true) (m2 (oIxD oIx) (mv 4) (mv 5)) (mc .non))) (mB (m2 (oEqK true (oEqD true)) (mv 6) (mv 5))))
def wTst (x : Str) : MT := (mAnd (mB (m2 (oEqK true (oEqD true)) (mv 7) (mLst mNil))) (mB (m2 (oEqK false (oEqD false)) (mv 2) (mc (.str x)))))
def eT : MT := (mOr (mB (m2 (oEqK false (oEqD false)) (mv 7) (mLst mNil))) (mB (m2 (oEqK false (oEqD false)) (mv 2) (mc (.str "replace")))))
def xA : MStm := (sLock 3 (sRet (mTup (mCons (mTup (mCons (mv 5) (mCons (m2 (oIxD oIx) (mv 7) (mc (.int 0))) mNil))) (mCons (mCall (mCons (mCall (mCons (mLc [8] (iKey (mv 3)) (gSet 8) mYes (mTup (mCons (mv 8) (mCons (mv 8) mNil)))) mNil) cSort) mNil) cTupP) mNil)))))
def xF : MStm := (sRet (mTup (mCons (mTup (mCons (mv 5) (mCons (m2 (oIxD oIx) (mv 7) (mc (.int 0))) mNil))) (mCons (mFn (mCons (mv 4) mNil) F__law_ends) mNil))))
def xR : MStm := (sAsg (mc .non) (Ma.gSub (mv 4) (m2 (oIxD oIx) (mv 7) (mc (.int 0))) (fSetD fSetL)))
def xM : MStm := (sAsg (mv 6) (Ma.gSub (mv 4) (mv 5) (fSetD fSetL)))
def u3 : MStm := sIf uT (sSeq (sIf (wTst "abort") xA sNx) (sSeq (sIf (wTst "fail") xF sNx) (sSeq (sIf (wTst "replace") xR sNx) (sIf eT xM sNx)))) sNx
def uB : MStm := sSeq u1 (sSeq u2 u3)
def u0 : MStm := (sLock 3 (sSet 4 (mCall (mCons (mLc [8] (iKey (mv 3)) (gSet 8) mYes (mTup (mCons (mv 8) (mCons (mv 8) mNil)))) mNil) cDict)))
def u9 : MStm := (sRet (mTup (mCons (mTup mNil) (mCons (mFn (mCons (mv 4) mNil) F__law_ends) mNil))))
theorem run_eq : m__law_run = (sSeq (sSet 3 (mCall (mCons (mv 0) mNil) cDict)) (sSeq u0 (sSeq (sForI (iSeq (mv 1)) (gSet 5) uB) u9))) := rfl
abbrev envU (x : Str) (ps : List IP) (o : List Int) (w D : Nat) (o5 o6 o7 : Option M) : List (Option M) := [some (.lst (rm ps)), some (tupI o), some (.str x), some (.box w), some (.box D), o5, o6, o7, none, none]
theorem u1_at {x : Str} (h : DW hp w T W) (hr : r ∈ keysP T) : u1 ⟨envU x ps o w D (some (.int r)) o6 o7, hp⟩ = .ok .nx ⟨envU x ps o w D (some (.int r)) (some (.int (vT T r))) o7, hp⟩ :=
  set_of (s1 := ⟨envU x ps o w D (some (.int r)) o6 o7, hp⟩) (m2_of (mv_of rfl) (mv_of rfl) (h.ix hr))
theorem u2_at {x : Str} {v : Int} (kl : ks.length ≤ 40) (hD : hp[D]? = some (.dK (plM ks P))) : u2 ⟨envU x ps o w D (some (.int r)) (some (.int v)) o7, hp⟩ = .ok .nx ⟨envU x ps o w D (some (.int r)) (some (.int v)) (some (.lst ((hldR ks P v r).map M.int))), hp⟩ := by
  have hF : (hp.set D (.dF (plM ks P)))[D]? = some (.dF (plM ks P)) := List.getElem?_set_self (lt_of hD)
  refine lock_same rfl hD (set_of (s1 := ⟨envU x ps o w D (some (.int r)) (some (.int v)) o7, hp.set D (.dF (plM ks P))⟩) ?_)
  refine mlc_if (em := M.int) (f := M.int) (p := hldB P v r) (ikey_p (i := 4) (env := envU x ps o w D (some (.int r)) (some (.int v)) o7) rfl hF) (Nat.le_trans kl (by decide)) fun q hq => ?_
  have ix : ixPl ⟨[some (.lst (rm ps)), some (tupI o), some (.str x), some (.box w), some (.box D), some (.int r), some (.int v), o7, none, some (.int q)], hp.set D (.dF (plM ks P))⟩ = .ok (pv (P q)) ⟨[some (.lst (rm ps)), some (tupI o), some (.str x), some (.box w), some (.box D), some (.int r), some (.int v), o7, none, some (.int q)], hp.set D (.dF (plM ks P))⟩ := m2_of (mv_of rfl) (mv_of rfl) (ixp (dictOf_f hF) hq)
  have t1 := b_of (m2_of (b := mv 6) (y := .int v) ix (mv_of rfl) pv_eq)
  have t2 : mB (m2 (oEqK true (oEqD true)) (mv 9) (mv 5)) ⟨[some (.lst (rm ps)), some (tupI o), some (.str x), some (.box w), some (.box D), some (.int r), some (.int v), o7, none, some (.int q)], hp.set D (.dF (plM ks P))⟩ = .ok (q != r) ⟨[some (.lst (rm ps)), some (tupI o), some (.str x), some (.box w), some (.box D), some (.int r), some (.int v), o7, none, some (.int q)], hp.set D (.dF (plM ks P))⟩ := b_of (m2_of (mv_of rfl) (mv_of rfl) ne_int)
  refine ⟨⟨[some (.lst (rm ps)), some (tupI o), some (.str x), some (.box w), some (.box D), some (.int r), some (.int v), o7, none, some (.int q)], hp.set D (.dF (plM ks P))⟩, [some (.lst (rm ps)), some (tupI o), some (.str x), some (.box w), some (.box D), some (.int r), some (.int v), o7, none, some (.int q)], rfl, ?_, fun _ => ⟨[some (.lst (rm ps)), some (tupI o), some (.str x), some (.box w), some (.box D), some (.int r), some (.int v), o7, none, some (.int q)], mv_of rfl⟩⟩
  unfold hldB
  cases e : P q == some v with
  | false => rw [e] at t1; exact and_f t1
  | true => rw [e] at t1; exact (and_tt t1).trans t2
abbrev envV (x : Str) (ps : List IP) (o : List Int) (w D : Nat) (r v : Int) (hs : List Int) : List (Option M) := envU x ps o w D (some (.int r)) (some (.int v)) (some (.lst (hs.map M.int)))
theorem wT_at {hs : List Int} {v : Int} {x y : Str} (hx : lowB x = true) (hy : lowB y = true) : wTst x ⟨envV y ps o w D r v hs, hp⟩ = .ok (!hs.isEmpty && (y == x)) ⟨envV y ps o w D r v hs, hp⟩ := by
  have t1 : mB (m2 (oEqK true (oEqD true)) (mv 7) (mLst mNil)) ⟨envV y ps o w D r v hs, hp⟩ = .ok (!(hs.map M.int).isEmpty) ⟨envV y ps o w D r v hs, hp⟩ := b_of (m2_of (mv_of rfl) (y := .lst []) rfl (eq_nil fun m hm => by
    obtain ⟨i, _, rfl⟩ := List.mem_map.mp hm
    exact dat_int i))
  have t2 : mB (m2 (oEqK false (oEqD false)) (mv 2) (mc (.str x))) ⟨envV y ps o w D r v hs, hp⟩ = .ok (y == x) ⟨envV y ps o w D r v hs, hp⟩ := b_of (m2_of (mv_of rfl) (y := .str x) rfl (str_cmp hy hx))
  cases hs with
  | nil => exact and_f t1
  | cons a l => exact (and_tt t1).trans t2
theorem uT_at {hs : List Int} {v : Int} {x : Str} (hk : r ∈ ks) (hD : hp[D]? = some (.dK (plM ks P))) : uT ⟨envV x ps o w D r v hs, hp⟩ = .ok ((P r).isSome && (v != r)) ⟨envV x ps o w D r v hs, hp⟩ := by
  have ix : m2 (oIxD oIx) (mv 4) (mv 5) ⟨envV x ps o w D r v hs, hp⟩ = .ok (pv (P r)) ⟨envV x ps o w D r v hs, hp⟩ := m2_of (mv_of rfl) (mv_of rfl) (ixp (dictOf_w hD) hk)
  have t1 := b_of (m2_of ix (b := mc .non) (y := .non) rfl pv_non)
  unfold uT
  cases e : (P r).isSome with
  | false => rw [e] at t1; exact and_f t1
  | true => rw [e] at t1; exact (and_tt t1).trans (b_of (m2_of (mv_of rfl) (mv_of rfl) ne_int))
theorem put_p {x : Str} {hs : List Int} {v k : Int} {q : Option Int} {s : MS} (hk : k ∈ ks) (kl : ks.length ≤ 40) (hD : s.hp[D]? = some (.dK (plM ks P))) : fSetD fSetL (.box D) (.int k) (pv q) s = .ok () ⟨s.env, s.hp.set D (.dK (plM ks (upP P k q)))⟩ := by
  unfold fSetD
  have e2 : dictL s.hp (.box D) = some (plM ks P) := by unfold dictL; dsimp only; rw [hD]
  rw [e2]
  show (if (plM ks P).length < big then Res.ok () ⟨s.env, s.hp.set D (.dK (putG (plM ks P) (.inl k) (pv q)))⟩ else Res.stuck) = _
  rw [if_pos (by rw [List.length_map]; exact Nat.lt_of_le_of_lt kl (by decide)), plM_put hk]
theorem u0_at {x : Str} (kl : (keysP ps).length ≤ 40) (nd : (keysP ps).Nodup) (hB : B[w]? = some (.dK (dm ps))) : u0 ⟨[some (.lst (rm ps)), some (tupI o), some (.str x), some (.box w), none, none, none, none, none, none], B⟩ = .ok .nx ⟨envU x ps o w B.length none none none, B ++ [.dK (plM (keysP ps) P0)]⟩ := by
  have hF : (B.set w (.dF (dm ps)))[w]? = some (.dF (dm ps)) := List.getElem?_set_self (lt_of hB)
  have c1 : mLc [8] (iKey (mv 3)) (gSet 8) mYes (mTup (mCons (mv 8) (mCons (mv 8) mNil))) ⟨[some (.lst (rm ps)), some (tupI o), some (.str x), some (.box w), none, none, none, none, none, none], B.set w (.dF (dm ps))⟩ = .ok (.lst (((keysP ps).filter fun _ => true).map fun k => pM (k, id k))) ⟨[some (.lst (rm ps)), some (tupI o), some (.str x), some (.box w), none, none, none, none, none, none], B.set w (.dF (dm ps))⟩ := by
    refine mlc_if (em := M.int) (f := fun k => pM (k, id k)) (p := fun _ => true) (ikey_f rfl hF) (Nat.le_trans kl (by decide)) fun k hk => ?_
    exact ⟨⟨[some (.lst (rm ps)), some (tupI o), some (.str x), some (.box w), none, none, none, none, some (.int k), none], B.set w (.dF (dm ps))⟩, [some (.lst (rm ps)), some (tupI o), some (.str x), some (.box w), none, none, none, none, some (.int k), none], rfl, rfl, fun _ => ⟨[some (.lst (rm ps)), some (tupI o), some (.str x), some (.box w), none, none, none, none, some (.int k), none], mtup2 (mv_of rfl) (mv_of rfl)⟩⟩
  rw [map_rows id (keysP ps)] at c1
  have kk : keysP ((keysP ps).map fun k => (k, id k)) = keysP ps := by
    unfold keysP
    rw [List.map_map]
    conv => rhs; rw [← List.map_id (ps.map (·.1))]
    rfl
  have ed : dm ((keysP ps).map fun k => (k, id k)) = plM (keysP ps) P0 := by
    unfold dm plM
    rw [List.map_map]
    rfl
  have c2 : mCall (mCons (mLc [8] (iKey (mv 3)) (gSet 8) mYes (mTup (mCons (mv 8) (mCons (mv 8) mNil)))) mNil) cDict ⟨[some (.lst (rm ps)), some (tupI o), some (.str x), some (.box w), none, none, none, none, none, none], B.set w (.dF (dm ps))⟩ = .ok (.box B.length) ⟨[some (.lst (rm ps)), some (tupI o), some (.str x), some (.box w), none, none, none, none, none, none], B.set w (.dF (dm ps)) ++ [.dK (plM (keysP ps) P0)]⟩ := by
    refine call_of (mone c1) ?_
    unfold cDict
    dsimp only
    rw [show seqL (MS.hp ⟨[some (.lst (rm ps)), some (tupI o), some (.str x), some (.box w), none, none, none, none, none, none], B.set w (.dF (dm ps))⟩) (.lst (rm ((keysP ps).map fun k => (k, id k)))) = some (rm ((keysP ps).map fun k => (k, id k))) from rfl]
    dsimp only
    rw [pairsM_rm]
    dsimp only
    rw [show mergeM [] (dm ((keysP ps).map fun k => (k, id k))) = dm ((keysP ps).map fun k => (k, id k)) from mergeM_dm (ps := []) (show (keysP ([] ++ (keysP ps).map fun k => (k, id k))).Nodup by rw [List.nil_append, kk]; exact nd)]
    rw [List.length_set, ed]
  have l := (lock_ext (i := 3) (env := [some (.lst (rm ps)), some (tupI o), some (.str x), some (.box w), none, none, none, none, none, none]) rfl hB (set_of (i := 4) c2) (Ext.app _ _)).1
  refine l.trans ?_
  rw [List.set_append_left _ _ (by rw [List.length_set]; exact lt_of hB), set_back hB]
  rfl
end
end Lw
namespace Lw
open L2 Ma PySem.Spec PySem PyProof.Rows
/-! the law's run, against the program's -/
def Rl.wd : Rl → Str
  | .ab => "abort"
  | .fa => "fail"
  | .ig => "ignore"
  | .re => "replace"
theorem wd_low (ru : Rl) : lowB ru.wd = true := by cases ru <;> decide +kernel
theorem wd_eq (a b : Rl) : (a.wd == b.wd) = match a, b with
    | .ab, .ab => true | .fa, .fa => true | .ig, .ig => true | .re, .re => true | _, _ => false := by cases a <;> cases b <;> decide +kernel
section
variable {T : List IP} {S S1 : LL} {r h k w : Int} {o ks : List Int} {P : Pl}
/-- each row holds its first key or its new one -/
def Pos (T : List IP) (S : LL) : Prop := ∀ r k, getP S.1 r = some k → k = r ∨ k = wT T r
theorem pos_0 (T : List IP) : Pos T (idP T, idP T) := fun r k h => by
  have h : getP (idP T) r = some k := h
  rw [getP_id] at h
  split at h
  · exact .inl (Option.some.inj h).symm
  · cases h
theorem pos_mv (p : Pos T S) : Pos T (mvR T S r) := fun q k h => by
  rw [getP_mv] at h
  split at h
  · rename_i e
    rw [e]
    exact .inr (Option.some.inj h).symm
  · exact p q k h
theorem pos_rm (p : Pos T S) : Pos T (rmR S h) := fun q k e => by
  have e : getP (dropP S.1 h) q = some k := e
  rw [getP_drop] at e
  split at e
  · cases e
  · exact p q k e
theorem pos_go (ru : Rl) : ∀ (o : List Int) {S : LL}, Pos T S → Pos T (goR ru T o S).2
  | [], _, h => h
  | r :: o, S, p => by
    by_cases hv : visC T S.1 S.2 r = true
    · cases hh : getP S.2 (wT T r) with
      | none => rw [go_move ru hv hh]; exact pos_go ru o (pos_mv p)
      | some x =>
        rw [go_clash ru hv hh]
        cases ru with
        | ab => exact pos_0 T
        | fa => exact p
        | ig => exact pos_go .ig o p
        | re => exact pos_go .re o (pos_mv (pos_rm p))
    · rw [go_quiet ru hv]; exact pos_go ru o p
/-- the rows that are left stand in the table's order -/
theorem sub_mv (s : (keysP S.1).Sublist (keysP T)) (h : r ∈ keysP S.1) : (keysP (mvR T S r).1).Sublist (keysP T) := by
  show (keysP (putP S.1 r (wT T r))).Sublist (keysP T)
  rw [keys_put h]; exact s
theorem sub_rm (s : (keysP S.1).Sublist (keysP T)) : (keysP (rmR S h).1).Sublist (keysP T) := (List.filter_sublist.map _).trans s
theorem sub_go (ru : Rl) (hT : ∀ r ∈ o, (getP T r).isSome = true) : ∀ (o' : List Int) {S : LL}, (∀ r ∈ o', r ∈ o) → OkS T S → (nd : (keysP T).Nodup) → (lT : T.length ≤ 40) → (keysP S.1).Sublist (keysP T) → (keysP (goR ru T o' S).2.1).Sublist (keysP T)
  | [], _, _, _, _, _, s => s
  | r :: o', S, ho, ok, nd, lT, s => by
    have ho' : ∀ r ∈ o', r ∈ o := fun r h => ho r (by simp [h])
    by_cases hv : visC T S.1 S.2 r = true
    · obtain ⟨k, w, h1, h2, ne⟩ := visC_yes (hT r (ho r (by simp))) hv
      cases hh : getP S.2 (wT T r) with
      | none =>
        rw [go_move ru hv hh]
        rw [wT_of h2] at hh
        exact sub_go ru hT o' ho' (okS_mv ok h1 h2 hh) nd lT (sub_mv s (vis_key hv))
      | some x =>
        rw [go_clash ru hv hh]
        rw [wT_of h2] at hh
        cases ru with
        | ab => show (keysP (idP T)).Sublist (keysP T); rw [keys_id]; exact List.Sublist.refl _
        | fa => exact s
        | ig => exact sub_go .ig hT o' ho' ok nd lT s
        | re =>
          obtain ⟨g1, g2, g3⟩ := rm_at ok h1 h2 ne hh
          exact sub_go .re hT o' ho' (okS_cl .re nd lT ok h1 h2 ne hh) nd lT (sub_mv (sub_rm s) (getP_key.mp (by rw [g2]; rfl)))
    · rw [go_quiet ru hv]; exact sub_go ru hT o' ho' ok nd lT s
theorem srt_sub {K : List IP} (hs : Srt T) (s : (keysP K).Sublist (keysP T)) : Srt K := by
  have h1 : (keysP T).Pairwise (· < ·) := List.pairwise_map.mpr hs
  exact List.pairwise_map.mp (h1.sublist s)
theorem nodup_of {K : List IP} (h : (keysP K).Nodup) : K.Nodup := by
  have h : (K.map (·.1)).Pairwise (· ≠ ·) := h
  rw [List.pairwise_map] at h
  exact h.imp fun {a b} z e => z (by rw [e])
theorem lf_eq {K : List IP} (hs : Srt T) (s : (keysP K).Sublist (keysP T)) (hm : ks.Perm (keysP T)) (hn : ks.Nodup) (hP : ∀ k ∈ ks, P k = getP K k) : lfR ks P = K := by
  have sK := srt_sub hs s
  have nK : (keysP K).Nodup := sK.nodup
  unfold lfR
  refine srtP_of sK ?_
  refine (List.perm_ext_iff_of_nodup (nodup_of nK) (nodup_of ?_)).mpr fun p => ?_
  · have e : keysP ((ks.filter fun k => (P k).isSome).map fun k => (k, (P k).getD 0)) = ks.filter fun k => (P k).isSome := by
      unfold keysP
      rw [List.map_map]
      exact (List.map_congr_left fun _ _ => rfl).trans (List.map_id _)
    rw [e]
    exact List.Pairwise.filter _ hn
  · constructor
    · intro hp
      have g := getP_of nK hp
      have hk : p.1 ∈ ks := hm.mem_iff.mpr (s.subset (List.mem_map.mpr ⟨p, hp, rfl⟩))
      refine List.mem_map.mpr ⟨p.1, List.mem_filter.mpr ⟨hk, by rw [hP _ hk, g]; rfl⟩, ?_⟩
      rw [hP _ hk, g]
      rfl
    · intro hp
      obtain ⟨k, hk, rfl⟩ := List.mem_map.mp hp
      obtain ⟨h1, h2⟩ := List.mem_filter.mp hk
      obtain ⟨v, hv⟩ := Option.isSome_iff_exists.mp h2
      rw [hv]
      rw [hP _ h1] at hv
      exact getP_mem hv
end
section
variable {w D : Nat} {T ps : List IP} {hp B : List Cell} {o ks : List Int} {r h v : Int} {P : Pl} {env : List (Option M)} {S : LL}
theorem ends_at (hD : hp[D]? = some (.dK (plM ks P))) (hl : ks.length ≤ 40) : F__law_ends [.box D] hp = .ok (.box hp.length) (hp ++ [.tP (rm (lfR ks P))]) := by
  have hF : (hp.set D (.dF (plM ks P)))[D]? = some (.dF (plM ks P)) := List.getElem?_set_self (lt_of hD)
  have c1 : mLc [1] (iKey (mv 0)) (gSet 1) (mB (m2 (oIsN true) (m2 (oIxD oIx) (mv 0) (mv 1)) (mc .non))) (mTup (mCons (mv 1) (mCons (m2 (oIxD oIx) (mv 0) (mv 1)) mNil))) ⟨[some (.box D), none], hp.set D (.dF (plM ks P))⟩ = .ok (.lst ((ks.filter fun k => (P k).isSome).map fun k => pM (k, (P k).getD 0))) ⟨[some (.box D), none], hp.set D (.dF (plM ks P))⟩ := by
    refine mlc_if (em := M.int) (f := fun k => pM (k, (P k).getD 0)) (p := fun k => (P k).isSome) (ikey_p rfl hF) (Nat.le_trans hl (by decide)) fun k hk => ?_
    have ix : m2 (oIxD oIx) (mv 0) (mv 1) ⟨[some (.box D), some (.int k)], hp.set D (.dF (plM ks P))⟩ = .ok (pv (P k)) ⟨[some (.box D), some (.int k)], hp.set D (.dF (plM ks P))⟩ := m2_of (mv_of rfl) (mv_of rfl) (ixp (dictOf_f hF) hk)
    refine ⟨⟨[some (.box D), some (.int k)], hp.set D (.dF (plM ks P))⟩, [some (.box D), some (.int k)], rfl, b_of (m2_of ix (y := .non) rfl pv_non), fun z => ⟨[some (.box D), some (.int k)], ?_⟩⟩
    obtain ⟨i, hi⟩ := Option.isSome_iff_exists.mp z
    rw [hi] at ix ⊢
    exact mtup2 (mv_of rfl) ix
  have e : ((ks.filter fun k => (P k).isSome).map fun k => pM (k, (P k).getD 0)) = rm ((ks.filter fun k => (P k).isSome).map fun k => (k, (P k).getD 0)) := by
    unfold rm
    rw [List.map_map]
    rfl
  rw [e] at c1
  have c2 : mCall (mCons (mCall (mCons (mLc [1] (iKey (mv 0)) (gSet 1) (mB (m2 (oIsN true) (m2 (oIxD oIx) (mv 0) (mv 1)) (mc .non))) (mTup (mCons (mv 1) (mCons (m2 (oIxD oIx) (mv 0) (mv 1)) mNil)))) mNil) cSort) mNil) cTupP ⟨[some (.box D), none], hp.set D (.dF (plM ks P))⟩ = .ok (.box (hp.set D (.dF (plM ks P))).length) ⟨[some (.box D), none], hp.set D (.dF (plM ks P)) ++ [.tP (rm (lfR ks P))]⟩ := by
    refine call_of (mone (x := .lst (rm (lfR ks P))) (s1 := ⟨[some (.box D), none], hp.set D (.dF (plM ks P))⟩) (call_of (mone c1) ?_)) rfl
    show (match pairsOf (rm ((ks.filter fun k => (P k).isSome).map fun k => (k, (P k).getD 0))) with | some ps => Res.ok (M.lst ((srtP ps).map pM)) _ | none => Res.stuck) = _
    rw [pairsOf_rm]
    rfl
  rw [List.length_set] at c2
  have l := (lock_ext (i := 0) (env := [some (.box D), none]) rfl hD (ret_of c2) (Ext.app _ _)).1
  rw [List.set_append_left _ _ (by rw [List.length_set]; exact lt_of hD), set_back hD] at l
  exact (show F__law_ends [.box D] hp = bodyF 1 2 m__law_ends [.box D] hp from rfl).trans (body_rt (s' := ⟨[some (.box D), none], hp ++ [.tP (rm (lfR ks P))]⟩) l)
theorem eT_all {hs : List Int} {ru : Rl} : eT ⟨envV ru.wd ps o w D r v hs, hp⟩ = .ok (hs.isEmpty || (ru.wd == Rl.wd .re)) ⟨envV ru.wd ps o w D r v hs, hp⟩ := by
  have t1 : mB (m2 (oEqK false (oEqD false)) (mv 7) (mLst mNil)) ⟨envV ru.wd ps o w D r v hs, hp⟩ = .ok ((hs.map M.int).isEmpty) ⟨envV ru.wd ps o w D r v hs, hp⟩ := b_of (m2_of (mv_of rfl) (y := .lst []) rfl (eq_nil fun m hm => by
    obtain ⟨i, _, rfl⟩ := List.mem_map.mp hm
    exact dat_int i))
  have t2 : mB (m2 (oEqK false (oEqD false)) (mv 2) (mc (.str "replace"))) ⟨envV ru.wd ps o w D r v hs, hp⟩ = .ok (ru.wd == Rl.wd .re) ⟨envV ru.wd ps o w D r v hs, hp⟩ := b_of (m2_of (a := mv 2) (b := mc (.str "replace")) (s := ⟨envV ru.wd ps o w D r v hs, hp⟩) (mv_of rfl) (y := .str "replace") rfl (str_cmp (wd_low ru) (wd_low .re)))
  cases hs with
  | nil => exact or_tt t1
  | cons a l => exact (or_f t1).trans t2
/-- who holds the new key -/
theorem hld_none (ok : OkS T S) (hm : ks.Perm (keysP T)) (hP : ∀ k ∈ ks, P k = getP S.1 k) (h3 : getP S.2 v = none) : hldR ks P v r = [] := by
  refine List.filter_eq_nil_iff.mpr fun q hq z => ?_
  obtain ⟨_, z1, _⟩ := hld_mem.mp (List.mem_filter.mpr ⟨hq, z⟩)
  rw [hP q hq] at z1
  have := (ok.inv v q).mpr z1
  rw [h3] at this
  cases this
theorem hld_some (ok : OkS T S) (hm : ks.Perm (keysP T)) (hP : ∀ k ∈ ks, P k = getP S.1 k) (h3 : getP S.2 v = some h) (ne : h ≠ r) : ∃ l, hldR ks P v r = h :: l := by
  have g := (ok.inv v h).mp h3
  have hk : h ∈ ks := hm.mem_iff.mpr (getP_key.mp (ok.sub h (by rw [g]; rfl)))
  have mem : h ∈ hldR ks P v r := hld_mem.mpr ⟨hk, by rw [hP h hk]; exact g, ne⟩
  cases e : hldR ks P v r with
  | nil => rw [e] at mem; simp at mem
  | cons a l =>
    obtain ⟨a1, a2, _⟩ := hld_mem.mp (show a ∈ hldR ks P v r by rw [e]; simp)
    rw [hP a a1] at a2
    have := (ok.inv v a).mpr a2
    rw [h3] at this
    cases this
    exact ⟨l, rfl⟩
end
end Lw
namespace Lw
open L2 Ma PySem.Spec PySem PyProof.Rows
/-! the law's run, step by step -/
section
variable {w D : Nat} {ps : List IP} {hp B : List Cell} {o : List Int} {r h v : Int} {P : Pl} {S : LL}
abbrev Tp (ps : List IP) : List IP := srtP ps
theorem hm_of : (keysP ps).Perm (keysP (Tp ps)) := ((srtP_perm ps).map _).symm
theorem no_word {hs : List Int} {ru : Rl} {x : Rl} {b : MStm} (e : hs = [] ∨ (ru.wd == x.wd) = false) : sIf (wTst x.wd) b sNx ⟨envV ru.wd ps o w D r v hs, hp⟩ = .ok .nx ⟨envV ru.wd ps o w D r v hs, hp⟩ := by
  have t := wT_at (ps := ps) (o := o) (w := w) (D := D) (r := r) (hp := hp) (hs := hs) (v := v) (x := x.wd) (y := ru.wd) (wd_low x) (wd_low ru)
  rcases e with rfl | e
  · exact (if_of t).trans rfl
  · rw [e, Bool.and_false] at t
    exact (if_of t).trans rfl
theorem yes_word {hs : List Int} {ru : Rl} {b : MStm} {res : Res Fl} (a : Int) (l : List Int) (hh : hs = a :: l) (hb : b ⟨envV ru.wd ps o w D r v hs, hp⟩ = res) : sIf (wTst ru.wd) b sNx ⟨envV ru.wd ps o w D r v hs, hp⟩ = res := by
  have t := wT_at (ps := ps) (o := o) (w := w) (D := D) (r := r) (hp := hp) (hs := hs) (v := v) (x := ru.wd) (y := ru.wd) (wd_low ru) (wd_low ru)
  rw [hh] at t hb ⊢
  rw [beq_self_eq_true] at t
  exact (if_of t).trans hb
/-- the law's places are the run's -/
structure Pd (ps : List IP) (P : Pl) (S : LL) : Prop where
  p : ∀ k ∈ keysP ps, P k = getP S.1 k
theorem pd_put (d : Pd ps P S) (hk : r ∈ keysP ps) {u : Int} (hu : wT (Tp ps) r = u) : Pd ps (upP P r (some u)) (mvR (Tp ps) S r) := ⟨fun k hk' => by
  rw [getP_mv, hu]
  show (if k = r then some u else P k) = _
  split
  · rfl
  · exact d.p k hk'⟩
theorem pd_rm (d : Pd ps P S) : Pd ps (upP P h none) (rmR S h) := ⟨fun k hk' => by
  show (if k = h then none else P k) = getP (dropP S.1 h) k
  rw [getP_drop]
  split
  · rfl
  · exact d.p k hk'⟩
/-- the row moves -/
theorem xM_at {hs : List Int} {x : Str} (kl : (keysP ps).length ≤ 40) (hk : r ∈ keysP ps) (hD : hp[D]? = some (.dK (plM (keysP ps) P))) : xM ⟨envV x ps o w D r v hs, hp⟩ = .ok .nx ⟨envV x ps o w D r v hs, hp.set D (.dK (plM (keysP ps) (upP P r (some v))))⟩ :=
  sub_of (u := .int v) (x := .box D) (k := .int r) (s3 := ⟨envV x ps o w D r v hs, hp⟩) rfl rfl rfl (put_p (x := x) (hs := []) (v := 0) (q := some v) (s := ⟨envV x ps o w D r v hs, hp⟩) hk kl hD)
theorem xR_at {l : List Int} {x : Str} (kl : (keysP ps).length ≤ 40) (hk : h ∈ keysP ps) (hD : hp[D]? = some (.dK (plM (keysP ps) P))) : xR ⟨envV x ps o w D r v (h :: l), hp⟩ = .ok .nx ⟨envV x ps o w D r v (h :: l), hp.set D (.dK (plM (keysP ps) (upP P h none)))⟩ :=
  sub_of (u := .non) (x := .box D) (k := .int h) (s3 := ⟨envV x ps o w D r v (h :: l), hp⟩) rfl rfl (m2_of (mv_of rfl) (y := .int 0) rfl ix_hdL) (put_p (x := x) (hs := []) (v := 0) (q := none) (s := ⟨envV x ps o w D r v (h :: l), hp⟩) hk kl hD)
theorem xF_at {l : List Int} {x : Str} (kl : (keysP ps).length ≤ 40) (hD : hp[D]? = some (.dK (plM (keysP ps) P))) : xF ⟨envV x ps o w D r v (h :: l), hp⟩ = .ok (.rt (.tup [pM (r, h), .box hp.length])) ⟨envV x ps o w D r v (h :: l), hp ++ [.tP (rm (lfR (keysP ps) P))]⟩ :=
  ret_of (mtup2 (mtup2 (mv_of rfl) (m2_of (mv_of rfl) (y := .int 0) rfl ix_hdL)) (fnE (F := F__law_ends) (ma := mCons (mv 4) mNil) (mone (mv_of rfl)) (ends_at hD kl)))
theorem ids_srt (R : Rows ps) : srtP ((keysP ps).map fun k => (k, k)) = idP (Tp ps) := by
  have s : Srt (idP (Tp ps)) := srt_sub (srtP_srt R.nd) (by rw [keys_id]; exact List.Sublist.refl _)
  refine srtP_of s ?_
  unfold idP keysP
  rw [List.map_map]
  exact (srtP_perm ps).map _
theorem xA_at {l : List Int} {x : Str} (R : Rows ps) (hw : hp[w]? = some (.dK (dm ps))) : xA ⟨envV x ps o w D r v (h :: l), hp⟩ = .ok (.rt (.tup [pM (r, h), .box hp.length])) ⟨envV x ps o w D r v (h :: l), hp ++ [.tP (rm (idP (Tp ps)))]⟩ := by
  have kl := keys_len R
  have hF : (hp.set w (.dF (dm ps)))[w]? = some (.dF (dm ps)) := List.getElem?_set_self (lt_of hw)
  have c1 : mLc [8] (iKey (mv 3)) (gSet 8) mYes (mTup (mCons (mv 8) (mCons (mv 8) mNil))) ⟨envV x ps o w D r v (h :: l), hp.set w (.dF (dm ps))⟩ = .ok (.lst (((keysP ps).filter fun _ => true).map fun k => pM (k, id k))) ⟨envV x ps o w D r v (h :: l), hp.set w (.dF (dm ps))⟩ := by
    refine mlc_if (em := M.int) (f := fun k => pM (k, id k)) (p := fun _ => true) (ikey_f rfl hF) (Nat.le_trans kl (by decide)) fun k hk => ?_
    exact ⟨⟨[some (.lst (rm ps)), some (tupI o), some (.str x), some (.box w), some (.box D), some (.int r), some (.int v), some (.lst ((h :: l).map M.int)), some (.int k), none], hp.set w (.dF (dm ps))⟩, [some (.lst (rm ps)), some (tupI o), some (.str x), some (.box w), some (.box D), some (.int r), some (.int v), some (.lst ((h :: l).map M.int)), some (.int k), none], rfl, rfl, fun _ => ⟨_, rfl⟩⟩
  rw [map_rows id (keysP ps)] at c1
  have c2 : mCall (mCons (mCall (mCons (mLc [8] (iKey (mv 3)) (gSet 8) mYes (mTup (mCons (mv 8) (mCons (mv 8) mNil)))) mNil) cSort) mNil) cTupP ⟨envV x ps o w D r v (h :: l), hp.set w (.dF (dm ps))⟩ = .ok (.box (hp.set w (.dF (dm ps))).length) ⟨envV x ps o w D r v (h :: l), hp.set w (.dF (dm ps)) ++ [.tP (rm (idP (Tp ps)))]⟩ := by
    refine call_of (mone (x := .lst (rm (idP (Tp ps)))) (s1 := ⟨envV x ps o w D r v (h :: l), hp.set w (.dF (dm ps))⟩) (call_of (mone c1) ?_)) rfl
    show (match pairsOf (rm ((keysP ps).map fun k => (k, id k))) with | some ps => Res.ok (M.lst ((srtP ps).map pM)) _ | none => Res.stuck) = _
    rw [pairsOf_rm]
    show Res.ok (M.lst (rm (srtP ((keysP ps).map fun k => (k, k))))) _ = _
    rw [ids_srt R]
  rw [List.length_set] at c2
  have q := ret_of (mtup2 (mtup2 (a := mv 5) (b := m2 (oIxD oIx) (mv 7) (mc (.int 0))) (s := ⟨envV x ps o w D r v (h :: l), hp.set w (.dF (dm ps))⟩) (mv_of rfl) (m2_of (mv_of rfl) (y := .int 0) rfl ix_hdL)) c2)
  have z := (lock_ext (i := 3) (env := envV x ps o w D r v (h :: l)) rfl hw q (Ext.app _ _)).1
  rw [List.set_append_left _ _ (by rw [List.length_set]; exact lt_of hw), set_back hw] at z
  exact z
theorem uT_vis {hs : List Int} {x : Str} (hk : r ∈ keysP ps) (hD : hp[D]? = some (.dK (plM (keysP ps) P))) (d : Pd ps P S) (hu : getP S.1 r = none ∨ getP S.1 r = some r) {u : Int} (hw : getP (Tp ps) r = some u) :
    uT ⟨envV x ps o w D r u hs, hp⟩ = .ok (visC (Tp ps) S.1 S.2 r) ⟨envV x ps o w D r u hs, hp⟩ := by
  have t := uT_at (ps := ps) (o := o) (w := w) (hs := hs) (v := u) (x := x) hk hD
  rw [d.p r hk] at t
  rw [t]
  unfold visC
  rcases hu with e | e
  · rw [e]; rfl
  · rw [e, hw]
    show Res.ok (true && (u != r)) _ = Res.ok (true && (some r != some u)) _
    have : (u != r) = (some r != some u) := by
      rw [Bool.eq_iff_iff, bne_iff_ne, bne_iff_ne]
      exact ⟨fun h e => h (Option.some.inj e).symm, fun h e => h (by rw [e])⟩
    rw [this]
end
end Lw
namespace Lw
open L2 Ma PySem.Spec PySem PyProof.Rows
/-! the law's run: its end -/
section
variable {w D : Nat} {ps : List IP} {hp B : List Cell} {o : List Int} {r h v u : Int} {P : Pl} {S : LL} {ru : Rl}
def EndL (ru : Rl) (ps : List IP) (o : List Int) (w D : Nat) (rest : List Int) (S : LL) (fl : Fl) (env' : List (Option M)) (hp' : List Cell) : Prop := match (goR ru (Tp ps) rest S).1 with
  | none => fl = .nx ∧ (∃ a5 a6 a7, env' = envU ru.wd ps o w D a5 a6 a7) ∧ ∃ P', hp'[D]? = some (.dK (plM (keysP ps) P')) ∧ Pd ps P' (goR ru (Tp ps) rest S).2
  | some p => ∃ b, fl = .rt (.tup [pM p, .box b]) ∧ hp'[b]? = some (.tP (rm (goR ru (Tp ps) rest S).2.1))
theorem endL_eq {rest rest' : List Int} {S S' : LL} {fl : Fl} {env' : List (Option M)} {hp' : List Cell} (e : goR ru (Tp ps) rest S = goR ru (Tp ps) rest' S') (h : EndL ru ps o w D rest' S' fl env' hp') : EndL ru ps o w D rest S fl env' hp' := by
  unfold EndL at h ⊢
  rw [e]
  exact h
theorem u3_quiet {hs : List Int} (hk : r ∈ keysP ps) (hD : hp[D]? = some (.dK (plM (keysP ps) P))) (d : Pd ps P S) (hu : getP S.1 r = none ∨ getP S.1 r = some r) (hw : getP (Tp ps) r = some u) (hv : visC (Tp ps) S.1 S.2 r = false) : u3 ⟨envV ru.wd ps o w D r u hs, hp⟩ = .ok .nx ⟨envV ru.wd ps o w D r u hs, hp⟩ := by
  have t := uT_vis (ps := ps) (o := o) (w := w) (hs := hs) (x := ru.wd) hk hD d hu hw
  rw [hv] at t
  exact (if_of t).trans rfl
theorem u3_go {hs : List Int} {res : Res Fl} (hk : r ∈ keysP ps) (hD : hp[D]? = some (.dK (plM (keysP ps) P))) (d : Pd ps P S) (hu : getP S.1 r = none ∨ getP S.1 r = some r) (hw : getP (Tp ps) r = some u) (hv : visC (Tp ps) S.1 S.2 r = true)
    (h : sSeq (sIf (wTst "abort") xA sNx) (sSeq (sIf (wTst "fail") xF sNx) (sSeq (sIf (wTst "replace") xR sNx) (sIf eT xM sNx))) ⟨envV ru.wd ps o w D r u hs, hp⟩ = res) : u3 ⟨envV ru.wd ps o w D r u hs, hp⟩ = res := by
  have t := uT_vis (ps := ps) (o := o) (w := w) (hs := hs) (x := ru.wd) hk hD d hu hw
  rw [hv] at t
  exact (if_of t).trans h
theorem seq_rt' {a b : MStm} {s s1 : MS} {m : M} (h : a s = .ok (.rt m) s1) : sSeq a b s = .ok (.rt m) s1 := by unfold sSeq; rw [h]; rfl
theorem u3_move (kl : (keysP ps).length ≤ 40) (hk : r ∈ keysP ps) (hD : hp[D]? = some (.dK (plM (keysP ps) P))) (d : Pd ps P S) (hu : getP S.1 r = none ∨ getP S.1 r = some r) (hw : getP (Tp ps) r = some u) (hv : visC (Tp ps) S.1 S.2 r = true) :
    u3 ⟨envV ru.wd ps o w D r u [], hp⟩ = .ok .nx ⟨envV ru.wd ps o w D r u [], hp.set D (.dK (plM (keysP ps) (upP P r (some u))))⟩ := by
  refine u3_go hk hD d hu hw hv (seq_of (no_word (x := .ab) (.inl rfl)) (seq_of (no_word (x := .fa) (.inl rfl)) (seq_of (no_word (x := .re) (.inl rfl)) ((if_of eT_all).trans ?_))))
  exact xM_at kl hk hD
theorem lrun_loop (ru : Rl) (R : Rows ps) (hB : B.length ≤ D) (hw : B[w]? = some (.dK (dm ps))) : ∀ (rest : List Int) {P : Pl} {S : LL} {hp : List Cell} {o5 o6 o7 : Option M}, Ext B hp → hp[D]? = some (.dK (plM (keysP ps) P)) → Pd ps P S → OkS (Tp ps) S → (keysP S.1).Sublist (keysP (Tp ps)) →
    (∀ r ∈ rest, r ∈ keysP (Tp ps)) → rest.Nodup → (∀ r ∈ rest, getP S.1 r = none ∨ getP S.1 r = some r) →
    ∃ fl env' hp', sFor (gSet 5) uB (rest.map M.int) ⟨envU ru.wd ps o w D o5 o6 o7, hp⟩ = .ok fl ⟨env', hp'⟩ ∧ Ext B hp' ∧ EndL ru ps o w D rest S fl env' hp'
  | [], P, S, hp, o5, o6, o7, x, hD, d, ok, sb, hr, nd, hu => ⟨.nx, _, hp, rfl, x, rfl, ⟨o5, o6, o7, rfl⟩, P, hD, d⟩
  | r :: rest, P, S, hp, o5, o6, o7, x, hD, d, ok, sb, hr, nd, hu => by
    have R' := R.srt
    have kl := keys_len R
    have kr := hr r (by simp)
    have kp : r ∈ keysP ps := hm_of.mem_iff.mpr kr
    have ur := hu r (by simp)
    have hr' : ∀ q ∈ rest, q ∈ keysP (Tp ps) := fun q h => hr q (by simp [h])
    obtain ⟨nr, nd'⟩ := List.nodup_cons.mp nd
    have hu' : ∀ q ∈ rest, getP S.1 q = none ∨ getP S.1 q = some q := fun q h => hu q (by simp [h])
    obtain ⟨u, hu1⟩ := Option.isSome_iff_exists.mp (getP_key.mpr kr)
    have vu : vT (Tp ps) r = u := vT_of hu1
    have dw : DW hp w (Tp ps) ps := ⟨dictOf_w (x _ _ hw), R', srtP_srt R.nd, (srtP_perm ps).symm⟩
    have e1 := u1_at (ps := ps) (o := o) (D := D) (o6 := o6) (o7 := o7) (x := ru.wd) dw kr
    have e2 := u2_at (ps := ps) (o := o) (w := w) (r := r) (o7 := o7) (x := ru.wd) (v := vT (Tp ps) r) kl hD
    rw [vu] at e1 e2
    have nx : ∀ {hp1 : List Cell} {fl : Fl} {env' : List (Option M)} {hp' : List Cell}, u3 ⟨envV ru.wd ps o w D r u (hldR (keysP ps) P u r), hp⟩ = .ok .nx ⟨envV ru.wd ps o w D r u (hldR (keysP ps) P u r), hp1⟩ → sFor (gSet 5) uB (rest.map M.int) ⟨envV ru.wd ps o w D r u (hldR (keysP ps) P u r), hp1⟩ = .ok fl ⟨env', hp'⟩ →
        sFor (gSet 5) uB ((r :: rest).map M.int) ⟨envU ru.wd ps o w D o5 o6 o7, hp⟩ = .ok fl ⟨env', hp'⟩ := fun {hp1 fl env' hp'} e3 e4 =>
      (for_cons (tg := gSet 5) (b := uB) (x := .int r) (xs := rest.map M.int) (s := ⟨envU ru.wd ps o w D o5 o6 o7, hp⟩) (s1 := ⟨envU ru.wd ps o w D (some (.int r)) o6 o7, hp⟩) rfl ((seq_nx e1).trans ((seq_nx e2).trans e3))).trans e4
    have rt : ∀ {hp1 : List Cell} {m : M} {env' : List (Option M)}, u3 ⟨envV ru.wd ps o w D r u (hldR (keysP ps) P u r), hp⟩ = .ok (.rt m) ⟨env', hp1⟩ → sFor (gSet 5) uB ((r :: rest).map M.int) ⟨envU ru.wd ps o w D o5 o6 o7, hp⟩ = .ok (.rt m) ⟨env', hp1⟩ := fun {hp1 m env'} e3 =>
      sfor_rt (tg := gSet 5) (b := uB) (x := .int r) (xs := rest.map M.int) (s := ⟨envU ru.wd ps o w D o5 o6 o7, hp⟩) (s1 := ⟨envU ru.wd ps o w D (some (.int r)) o6 o7, hp⟩) rfl ((seq_nx e1).trans ((seq_nx e2).trans e3))
    by_cases hv : visC (Tp ps) S.1 S.2 r = true
    · obtain ⟨k, u', g1, g2, ne⟩ := visC_yes (getP_key.mpr kr) hv
      rw [hu1] at g2
      cases g2
      have gr : getP S.1 r = some r := by
        rcases ur with e | e
        · rw [e] at g1; cases g1
        · exact e
      rw [gr] at g1
      cases g1
      have wu : wT (Tp ps) r = u := wT_of hu1
      cases h3 : getP S.2 u with
      | none =>
        have e := hld_none (r := r) ok hm_of d.p h3
        rw [e] at e2 nx
        have e3 := u3_move (ru := ru) (o := o) (w := w) kl kp hD d ur hu1 hv
        obtain ⟨fl, env', hp', e4, x', en⟩ := lrun_loop ru R hB hw rest (P := upP P r (some u)) (S := mvR (Tp ps) S r) (hp := hp.set D (.dK (plM (keysP ps) (upP P r (some u))))) (o5 := some (.int r)) (o6 := some (.int u)) (o7 := some (.lst (([] : List Int).map M.int))) (Ext.set x hB) (gsame hD) (pd_put d kp wu) (okS_mv ok gr hu1 h3) (sub_mv sb (vis_key hv)) hr' nd' (fun q hq => by
          rw [getP_mv, if_neg (show q ≠ r from fun z => nr (z ▸ hq))]
          exact hu' q hq)
        exact ⟨fl, env', hp', nx e3 e4, x', endL_eq (go_move ru hv (by rw [wu]; exact h3)) en⟩
      | some h =>
        have hh := (ok.inv u h).mp h3
        have hne : h ≠ r := fun z => by subst z; rw [gr] at hh; cases hh; exact ne rfl
        obtain ⟨l, el⟩ := hld_some (r := r) ok hm_of d.p h3 hne
        have kh : h ∈ keysP ps := hm_of.mem_iff.mpr (getP_key.mp (ok.sub h (by rw [hh]; rfl)))
        rw [el] at e2 nx rt
        have gc := go_clash (o := rest) ru hv (by rw [wu]; exact h3)
        cases ru with
        | ab =>
          have e3 := u3_go (ru := .ab) (o := o) (w := w) kp hD d ur hu1 hv (seq_rt' (b := sSeq (sIf (wTst "fail") xF sNx) (sSeq (sIf (wTst "replace") xR sNx) (sIf eT xM sNx))) (yes_word (ru := .ab) h l rfl (xA_at (x := Rl.wd .ab) (o := o) (D := D) (r := r) (v := u) (h := h) (l := l) R (x _ _ hw))))
          refine ⟨_, _, _, rt e3, x.trans (Ext.app _ _), ?_⟩
          unfold EndL
          rw [gc]
          exact ⟨hp.length, rfl, gapp 0 rfl⟩
        | fa =>
          have e3 := u3_go (ru := .fa) (o := o) (w := w) kp hD d ur hu1 hv (seq_of (no_word (ru := .fa) (x := .ab) (hs := h :: l) (.inr (by decide +kernel))) (seq_rt' (b := sSeq (sIf (wTst "replace") xR sNx) (sIf eT xM sNx)) (yes_word (ru := .fa) h l rfl (xF_at (x := Rl.wd .fa) (o := o) (w := w) (r := r) (v := u) (h := h) (l := l) kl hD))))
          refine ⟨_, _, _, rt e3, x.trans (Ext.app _ _), ?_⟩
          unfold EndL
          rw [gc]
          refine ⟨hp.length, rfl, ?_⟩
          rw [lf_eq (T := Tp ps) (K := S.1) (srtP_srt R.nd) sb hm_of R.nd d.p]
          exact gapp 0 rfl
        | ig =>
          have eI := eT_all (ps := ps) (o := o) (w := w) (D := D) (r := r) (v := u) (hp := hp) (ru := .ig) (hs := h :: l)
          rw [wd_eq, show (List.isEmpty (h :: l) || false) = false from rfl] at eI
          have e3 := u3_go (ru := .ig) (o := o) (w := w) kp hD d ur hu1 hv (seq_of (no_word (ru := .ig) (x := .ab) (hs := h :: l) (.inr (by decide +kernel))) (seq_of (no_word (ru := .ig) (x := .fa) (hs := h :: l) (.inr (by decide +kernel))) (seq_of (no_word (ru := .ig) (x := .re) (hs := h :: l) (.inr (by decide +kernel))) ((if_of eI).trans rfl))))
          obtain ⟨fl, env', hp', e4, x', en⟩ := lrun_loop .ig R hB hw rest (P := P) (S := S) (hp := hp) (o5 := some (.int r)) (o6 := some (.int u)) (o7 := some (.lst ((h :: l).map M.int))) x hD d ok sb hr' nd' hu'
          exact ⟨fl, env', hp', nx e3 e4, x', endL_eq gc en⟩
        | re =>
          obtain ⟨a1, a2, a3⟩ := rm_at ok gr hu1 ne h3
          have eI := eT_all (ps := ps) (o := o) (w := w) (D := D) (r := r) (v := u) (hp := hp.set D (.dK (plM (keysP ps) (upP P h none)))) (ru := .re) (hs := h :: l)
          rw [wd_eq, show (List.isEmpty (h :: l) || true) = true from rfl] at eI
          have hD1 : (hp.set D (.dK (plM (keysP ps) (upP P h none))))[D]? = some (.dK (plM (keysP ps) (upP P h none))) := gsame hD
          have e3 := u3_go (ru := .re) (o := o) (w := w) kp hD d ur hu1 hv (seq_of (no_word (ru := .re) (x := .ab) (hs := h :: l) (.inr (by decide +kernel))) (seq_of (no_word (ru := .re) (x := .fa) (hs := h :: l) (.inr (by decide +kernel))) (seq_of (yes_word (ru := .re) h l rfl (xR_at (x := Rl.wd .re) (o := o) (w := w) (r := r) (v := u) (l := l) kl kh hD)) ((if_of eI).trans (xM_at (x := Rl.wd .re) (o := o) (w := w) (v := u) (hs := h :: l) kl kp hD1)))))
          rw [List.set_set] at e3
          obtain ⟨fl, env', hp', e4, x', en⟩ := lrun_loop .re R hB hw rest (P := upP (upP P h none) r (some u)) (S := mvR (Tp ps) (rmR S h) r) (hp := hp.set D (.dK (plM (keysP ps) (upP (upP P h none) r (some u))))) (o5 := some (.int r)) (o6 := some (.int u)) (o7 := some (.lst ((h :: l).map M.int))) (Ext.set x hB) (gsame hD) (pd_put (pd_rm d) kp wu) (okS_mv (okS_rm ok a1) a2 hu1 a3) (sub_mv (sub_rm sb) (getP_key.mp (by rw [a2]; rfl))) hr' nd' (fun q hq => by
            rw [getP_mv, if_neg (show q ≠ r from fun z => nr (z ▸ hq))]
            show getP (dropP S.1 h) q = none ∨ getP (dropP S.1 h) q = some q
            rw [getP_drop]
            split
            · exact .inl rfl
            · exact hu' q hq)
          exact ⟨fl, env', hp', nx e3 e4, x', endL_eq gc en⟩
    · have e3 := u3_quiet (ru := ru) (o := o) (w := w) (hs := hldR (keysP ps) P u r) kp hD d ur hu1 (by simpa using hv)
      obtain ⟨fl, env', hp', e4, x', en⟩ := lrun_loop ru R hB hw rest (P := P) (S := S) (hp := hp) (o5 := some (.int r)) (o6 := some (.int u)) (o7 := some (.lst ((hldR (keysP ps) P u r).map M.int))) x hD d ok sb hr' nd' hu'
      exact ⟨fl, env', hp', nx e3 e4, x', endL_eq (go_quiet ru hv) en⟩
theorem lrun_at (ru : Rl) (R : Rows ps) (ho : o.Perm (keysP (Tp ps))) : ∃ b hp', F__law_run [.lst (rm ps), tupI o, .str ru.wd] hp = .ok (.tup [stM (goR ru (Tp ps) o (idP (Tp ps), idP (Tp ps))).1, .box b]) hp' ∧ Ext hp hp' ∧ hp'[b]? = some (.tP (rm (goR ru (Tp ps) o (idP (Tp ps), idP (Tp ps))).2.1)) := by
  have R' := R.srt
  have hks : ∀ r ∈ o, (getP (Tp ps) r).isSome = true := fun r hr => getP_key.mpr (ho.mem_iff.mp hr)
  have c1 : mCall (mCons (mv 0) mNil) cDict ⟨[some (.lst (rm ps)), some (tupI o), some (.str ru.wd), none, none, none, none, none, none, none], hp⟩ = .ok (.box hp.length) ⟨[some (.lst (rm ps)), some (tupI o), some (.str ru.wd), none, none, none, none, none, none, none], hp ++ [.dK (dm ps)]⟩ := by
    refine call_of (mone (mv_of rfl)) ?_
    unfold cDict
    dsimp only
    rw [show seqL (MS.hp ⟨[some (.lst (rm ps)), some (tupI o), some (.str ru.wd), none, none, none, none, none, none, none], hp⟩) (.lst (rm ps)) = some (rm ps) from rfl]
    dsimp only
    rw [pairsM_rm]
    dsimp only
    rw [show mergeM [] (dm ps) = dm ps from mergeM_dm (ps := []) R.nd]
  have s1 : sSet 3 (mCall (mCons (mv 0) mNil) cDict) ⟨[some (.lst (rm ps)), some (tupI o), some (.str ru.wd), none, none, none, none, none, none, none], hp⟩ = .ok .nx ⟨[some (.lst (rm ps)), some (tupI o), some (.str ru.wd), some (.box hp.length), none, none, none, none, none, none], hp ++ [.dK (dm ps)]⟩ := set_of c1
  have x0 : Ext hp (hp ++ [.dK (dm ps)]) := Ext.app _ _
  generalize hw : hp.length = w at s1
  generalize hA : hp ++ [Cell.dK (dm ps)] = A at s1 x0
  have hA2 : A[w]? = some (.dK (dm ps)) := by rw [← hA, ← hw]; simp
  have kl := keys_len R
  have s2 := u0_at (o := o) (x := ru.wd) kl R.nd hA2
  have x1 : Ext A (A ++ [.dK (plM (keysP ps) P0)]) := Ext.app _ _
  obtain ⟨fl, env', hp', q, x', en⟩ := lrun_loop (o := o) ru R (Nat.le_refl _) hA2 o (P := P0) (S := (idP (Tp ps), idP (Tp ps))) (hp := A ++ [.dK (plM (keysP ps) P0)]) (o5 := none) (o6 := none) (o7 := none) x1 (by simp) ⟨fun k hk => by
      show some k = getP (idP (Tp ps)) k
      rw [getP_id, if_pos (getP_key.mpr (hm_of.mem_iff.mp hk))]⟩ (okS_0 R'.nd R'.le) (by rw [keys_id]; exact List.Sublist.refl _) (fun r hr => ho.mem_iff.mp hr) (ho.nodup_iff.mpr R'.nd) (fun r hr => by
      right
      show getP (idP (Tp ps)) r = some r
      rw [getP_id, if_pos (hks r hr)])
  have go : ∀ m env2 hp2, sSeq (sForI (iSeq (mv 1)) (gSet 5) uB) u9 ⟨envU ru.wd ps o w A.length none none none, A ++ [.dK (plM (keysP ps) P0)]⟩ = .ok (.rt m) ⟨env2, hp2⟩ → F__law_run [.lst (rm ps), tupI o, .str ru.wd] hp = .ok m hp2 := fun m env2 hp2 hq => by
    refine (show F__law_run [.lst (rm ps), tupI o, .str ru.wd] hp = bodyF 3 10 m__law_run [.lst (rm ps), tupI o, .str ru.wd] hp from rfl).trans (body_rt (s' := ⟨env2, hp2⟩) ?_)
    rw [run_eq]
    exact (seq_nx s1).trans ((seq_nx s2).trans hq)
  have q' := for_of (it := iSeq (mv 1)) (xs := o.map M.int) (s := ⟨envU ru.wd ps o w A.length none none none, A ++ [.dK (plM (keysP ps) P0)]⟩) rfl q
  have sb := sub_go ru (o := o) hks o (fun _ z => z) (okS_0 R'.nd R'.le) R'.nd R'.le (by rw [keys_id]; exact List.Sublist.refl _)
  unfold EndL at en
  cases hg : (goR ru (Tp ps) o (idP (Tp ps), idP (Tp ps))).1 with
  | none =>
    rw [hg] at en
    obtain ⟨rfl, ⟨a5, a6, a7, rfl⟩, P', hD, d⟩ := en
    have f1 := fnE (F := F__law_ends) (env := envU ru.wd ps o w A.length a5 a6 a7) (ma := mCons (mv 4) mNil) (mone (mv_of rfl)) (ends_at hD kl)
    refine ⟨hp'.length, hp' ++ [.tP (rm (lfR (keysP ps) P'))], go _ _ _ ((seq_nx q').trans (ret_of (mtup2 (a := mTup mNil) (x := .tup []) rfl f1))), (x0.trans x').trans (Ext.app _ _), ?_⟩
    rw [lf_eq (srtP_srt R.nd) sb hm_of R.nd d.p]
    exact gapp 0 rfl
  | some p =>
    rw [hg] at en
    obtain ⟨b, rfl, hb⟩ := en
    exact ⟨b, hp', go _ _ _ (seq_rt' q'), x0.trans x', hb⟩
end
end Lw
namespace Lw
open L2 Ma PySem.Spec PySem PyProof.Rows
/-! RC -/
theorem KB.abs {i : Int} (h : KB i) : i.natAbs < 10 ^ 40 := by
  obtain ⟨h1, h2⟩ := h
  have z : (10 : Int) ^ 30 = 1000000000000000000000000000000 := by decide
  rw [z] at h1 h2
  have z2 : (10 : Nat) ^ 40 = 10000000000000000000000000000000000000000 := by decide
  rw [z2]
  omega
/-! RD -/
theorem okd_pair {p : IP} (h : KP p) : Okd (dP p) 1 282 := by
  have e : Oks [PyData.int p.1, PyData.int p.2] 0 282 := Oks.cons (Okd.int h.1.abs) (Oks.cons (Okd.int h.2.abs) Oks.nil (v := 0)) |>.le (Nat.le_refl _) (by decide)
  exact Okd.tuple e
theorem okd_rows {T : List IP} (h : ∀ p ∈ T, KP p) (hl : T.length ≤ 40) : Okd (.tuple (T.map dP)) 2 11320 := by
  have e : Oks (T.map dP) 1 ((T.map dP).length * (282 + 1)) := Oks.all fun d hd => by
    obtain ⟨p, hp, rfl⟩ := List.mem_map.mp hd
    exact okd_pair (h p hp)
  refine Okd.tuple (e.le (Nat.le_refl _) ?_)
  rw [List.length_map]
  omega
/-! G1 -/
section
variable {T : List IP}
theorem okd_l {l : List Int} (h : ∀ x ∈ l, KB x) : Okd (tupD l) 1 (l.length * 141) := by
  have o1 : Oks (l.map PyData.int) 0 ((l.map PyData.int).length * (140 + 1)) := Oks.all fun q hq => by
    obtain ⟨y, hy, rfl⟩ := List.mem_map.mp hq
    exact Okd.int (h y hy).abs
  refine Okd.tuple (o1.le (Nat.le_refl _) ?_)
  rw [List.length_map]
  exact Nat.le_refl _
end
end Lw
namespace Lw
open L2 Ma PySem.Spec PySem PyProof.Rows
/-! an outcome against a run of the law -/
section
variable {hp B : List Cell} {env : List (Option M)} {x y m : M} {d : PyData} {k w : Nat} {T K ps : List IP} {st : Option IP} {q a1 b1 b z : Nat} {l : List Int}
theorem reprX_at {s : MS} (hx : datX s.hp x = some d) (hs : isSeqD d = true) (h : Okd d k w) (hk : k ≤ 64) (hw : w ≤ 200000) : cReprX (cReprS cRepr) [x] s = .ok (.str d.shown) s := by
  have e : (isSeqD d && d.showable && !d.hasDict && decide (d.depth ≤ 64) && decide (d.shown.length ≤ sizeLine)) = true := by
    have l := h.len
    have h1 : d.depth ≤ 64 := Nat.le_trans h.dep hk
    have h2 : d.shown.length ≤ sizeLine := by rw [sizeLine_eq]; omega
    rw [hs, h.sh, h.nd, decide_eq_true h1, decide_eq_true h2]; rfl
  unfold cReprX
  dsimp only
  rw [hx]
  dsimp only
  rw [if_pos e]
theorem sameX (hx : datX hp x = some d) (hy : datX hp y = some d) (hs : isSeqD d = true) (h : Okd d k w) (hk : k ≤ 64) (hw : w ≤ 200000) : F__law_same [x, y] hp = .ok (.bl true) hp := by
  refine (show F__law_same [x, y] hp = bodyF 2 2 m__law_same [x, y] hp from rfl).trans (body_rt (s' := ⟨[some x, some y], hp⟩) (ret_of (m2_of (x := .str d.shown) (y := .str d.shown) (s1 := ⟨[some x, some y], hp⟩) (s2 := ⟨[some x, some y], hp⟩) (call_of (mone rfl) (reprX_at hx hs h hk hw)) (call_of (mone rfl) (reprX_at hy hs h hk hw)) ?_)))
  show oEqD false (.str d.shown) (.str d.shown) _ = _
  rw [oEqD_str h.low h.low]
  simp
theorem dX_box {ds : List PyData} {ms : List M} (h : hp[b]? = some (.tP ms)) (e : datL ms = some ds) : datX hp (.box b) = some (.tuple ds) := by
  unfold datX
  rw [h]
  dsimp only
  rw [e]
  rfl
theorem dX_tup : datX hp (tupI l) = some (tupD l) := by
  show (datXL hp (l.map M.int)).map PyData.tuple = _
  have : ∀ l : List Int, datXL hp (l.map M.int) = some (l.map PyData.int) := by
    intro l
    induction l with
    | nil => rfl
    | cons i l ih =>
      show (match datX hp (.int i), datXL hp (l.map M.int) with | some d, some ds => some (d :: ds) | _, _ => none) = _
      rw [ih]
      rfl
  rw [this]
  rfl
theorem dX_st : datX hp (stM st) = some (stD st) := by cases st <;> rfl
theorem dX_cons {ms : List M} {ds : List PyData} (h1 : datX hp m = some d) (h2 : datXL hp ms = some ds) : datXL hp (m :: ms) = some (d :: ds) := by
  unfold datXL
  rw [h1, h2]
theorem dX_lst {ms : List M} {ds : List PyData} (h2 : datXL hp ms = some ds) : datX hp (.lst ms) = some (.list ds) := by
  show (datXL hp ms).map PyData.list = _
  rw [h2]
  rfl
/-- the rows that changed their key -/
def chL (K : List IP) : List Int := keysP (K.filter fun p => p.1 != p.2)
theorem ch_mv (h : ∀ p ∈ K, p.2 = p.1 ∨ p.2 = wT T p.1) : mvL T K = chL K := by
  unfold mvL chL
  congr 1
  refine List.filter_congr fun p hp => ?_
  unfold mvB
  rcases h p hp with e | e
  · rw [e]; simp
  · rw [e]
    simp only [beq_self_eq_true, Bool.true_and]
    rw [Bool.eq_iff_iff, bne_iff_ne, bne_iff_ne]
    exact ⟨fun h => fun z => h z.symm, fun h => fun z => h z.symm⟩
def ordL (K : List IP) : List Int := (valsP K).mergeSort (fun a b => decide (a ≤ b))
theorem ord_perm : (valsP K).Perm (ordL K) := (List.mergeSort_perm _ _).symm
theorem ord_srt : (ordL K).Pairwise (· ≤ ·) := by
  have := List.pairwise_mergeSort (le := fun a b : Int => decide (a ≤ b)) (fun a b c h1 h2 => by simp at *; omega) (fun a b => by simp; omega) (valsP K)
  exact this.imp fun h => by simpa using h
def dO (T : List IP) (st : Option IP) (K : List IP) : PyData := .list [.tuple (T.map dP), stD st, .tuple (K.map dP), tupD (chL K), tupD (keysP K), tupD (ordL K), .int K.length]
/-- all keys of rows, new ones too, are keys -/
structure Big (T : List IP) (st : Option IP) (K : List IP) : Prop where
  t : ∀ p ∈ T, KP p
  k : ∀ p ∈ K, KP p
  s : ∀ p, st = some p → KP p
  lt : T.length ≤ 40
  lk : K.length ≤ 40
theorem okd_int {l : List Int} (h : ∀ x ∈ l, KB x) (hl : l.length ≤ 40) : Okd (tupD l) 2 11320 := (okd_l h).le (by decide) (by omega)
theorem okd_O (g : Big T st K) : Okd (dO T st K) 3 80000 := by
  have k1 : ∀ x ∈ keysP K, KB x := fun x hx => by
    obtain ⟨p, hp, rfl⟩ := List.mem_map.mp hx
    exact (g.k p hp).1
  have k2 : ∀ x ∈ chL K, KB x := fun x hx => by
    obtain ⟨p, hp, rfl⟩ := List.mem_map.mp hx
    exact (g.k p (List.mem_filter.mp hp).1).1
  have k3 : ∀ x ∈ ordL K, KB x := fun x hx => by
    obtain ⟨p, hp, rfl⟩ := List.mem_map.mp (ord_perm.mem_iff.mpr hx)
    exact (g.k p hp).2
  have l1 : (keysP K).length ≤ 40 := by rw [List.length_map]; exact g.lk
  have l2 : (chL K).length ≤ 40 := by unfold chL; rw [List.length_map]; exact Nat.le_trans (List.length_filter_le _ _) g.lk
  have l3 : (ordL K).length ≤ 40 := by rw [← ord_perm.length_eq]; unfold valsP; rw [List.length_map]; exact g.lk
  have os : Okd (stD st) 2 11320 := by
    cases st with
    | none => exact (Okd.tuple (Oks.nil (k := 0) (w := 0))).le (by decide) (by decide)
    | some p => exact (okd_pair (g.s p rfl)).le (by decide) (by decide)
  have lk := g.lk
  have small : (K.length : Int).natAbs < 10 ^ 40 := by
    have : (K.length : Int).natAbs ≤ 40 := by omega
    exact Nat.lt_of_le_of_lt this (by decide)
  have oi : Okd (.int K.length) 2 140 := (Okd.int small).le (by decide) (Nat.le_refl _)
  refine (Okd.list (Oks.cons (okd_rows g.t g.lt) (Oks.cons os (Oks.cons (okd_rows g.k g.lk) (Oks.cons (okd_int k2 l2) (Oks.cons (okd_int k1 l1) (Oks.cons (okd_int k3 l3) (Oks.cons oi (Oks.nil (w := 0)))))))))).le (by decide) (by decide)
/-! the machine -/
abbrev envY (ps : List IP) (x b : Nat) (st : Option IP) (q3 q4 q5 q6 q7 q8 q9 q10 q11 q12 q13 q14 : Option M) : List (Option M) := [some (.box x), some (.lst (rm ps)), some (.tup [stM st, .box b]), q3, q4, q5, q6, q7, q8, q9, q10, q11, q12, q13, q14]
def oS1 : MStm := sAsg (mv 2) (gUnpN [6, 7])
def oS2 : MStm := sAsg (mTup (mCons (mCall (mCons (mCall (mCons (mv 1) mNil) cSort) mNil) cTupP) (mCons (mCall (mCons (mv 7) mNil) (cDictT cDict)) mNil))) (gUnpN [8, 9])
def oS3 : MStm := sSet 3 (mCall (mCons (mLc [14, 12] (iSeqP (mv 7)) (gTupN [14, 12]) (mB (m2 (oEqK true (oEqD true)) (mv 14) (mv 12))) (mv 14)) mNil) cTupP)
def oS4 : MStm := sPar2 10 11 (mCons (mCall (mCons (mLc [14, 12] (iSeqP (mv 7)) (gTupN [14, 12]) mYes (mv 14)) mNil) cTupP) (mCons (mCall (mCons (mCall (mCons (mLc [14, 12] (iSeqP (mv 7)) (gTupN [14, 12]) mYes (mv 12)) mNil) cSortD) mNil) cTupP) mNil))
abbrev prE (F : Fn) : ME := mAt (mv 0) (oPrp "Outcome" F (fun _ _ => .stuck))
abbrev lenX (i : Nat) : ME := mCall (mCons (mv i) mNil) (cDun "Outcome" F_Outcome___len__ pNat (cLenD (cLenP cLen)))
def oS5 : MStm := sSet 4 (mLst (mCons (prE F_Outcome_rows) (mCons (prE F_Outcome_stop) (mCons (prE F_Outcome_ends) (mCons (prE F_Outcome_moved) (mCons (prE F_Outcome_left) (mCons (prE F_Outcome_held) (mCons (lenX 0) mNil))))))))
def oT6 : MT := mNot (mB (mFn (mCons (mv 4) (mCons (mLst (mCons (mv 8) (mCons (mv 6) (mCons (mv 7) (mCons (mv 3) (mCons (mv 10) (mCons (mv 11) (mCons (lenX 7) mNil)))))))) mNil)) F__law_same))
abbrev ogE (i : Nat) : ME := m2 (oDun "Outcome" F_Outcome___getitem__ (oIxD oIx)) (mv i) (mv 12)
def oS7 : MStm := sSet 5 (mLc [12, 13] (iSeqP (mv 8)) (gTupN [12, 13]) mYes (ogE 0))
def oS8 : MStm := sRet (mFn (mCons (mv 5) (mCons (mLc [12, 13] (iSeqP (mv 8)) (gTupN [12, 13]) mYes (mIf (mB (m2 (oInD false (oInL false)) (mv 12) (mv 9))) (ogE 9) (mc .non))) mNil)) F__law_same)
theorem oright_eq : m__law_outcome_right = sSeq oS1 (sSeq oS2 (sSeq oS3 (sSeq oS4 (sSeq oS5 (sSeq (sIf oT6 (sRet (mc (.bl false))) sNx) (sSeq oS7 oS8)))))) := rfl
end
end Lw
namespace Lw
open L2 Ma PySem.Spec PySem PyProof.Rows
/-! an outcome against a run of the law: the machine -/
theorem asgE {e : ME} {g : MG} {s s1 s2 : MS} {m : M} (he : e s = .ok m s1) (hg : g m s1 = .ok () s2) : sAsg e g s = .ok .nx s2 := by
  unfold sAsg
  rw [he]
  show (g m s1).bind _ = _
  rw [hg]
  rfl
theorem mifE {t : MT} {a b : ME} {s s1 : MS} {q : Bool} (h : t s = .ok q s1) : mIf t a b s = if q = true then a s1 else b s1 := by unfold mIf; rw [h]; rfl
section
variable {hp B : List Cell} {env : List (Option M)} {T K ps : List IP} {st : Option IP} {x a1 b1 b n : Nat} {r : Int} {s : MS} {i : Nat}
theorem no_out {c : Cell} (h : s.hp[n]? = some c) (hc : ∀ c' f, c ≠ .ins c' f) : isIns "Outcome" (.box n) s = false := by
  unfold isIns
  dsimp only
  rw [h]
  cases c <;> first | rfl | exact absurd rfl (hc _ _)
theorem lenX_out (o : OutAt s.hp x a1 b1 T st K) (lK : K.length ≤ 100) (e : s.env[i]? = some (some (.box x))) : lenX i s = .ok (.int K.length) s := by
  refine call_of (mone (mv_of e)) ?_
  unfold cDun
  dsimp only
  rw [if_pos (isO o), olen_at o]
  have h1 : (0 : Int) ≤ (K.length : Int) ∧ (K.length : Int) < 9223372036854775808 := by omega
  exact upP_nat h1.1 h1.2
theorem lenX_tup {ms : List M} (h : s.hp[n]? = some (.tP ms)) (e : s.env[i]? = some (some (.box n))) : lenX i s = .ok (.int ms.length) s := by
  refine call_of (mone (mv_of e)) ?_
  unfold cDun
  dsimp only
  rw [no_out h (fun _ _ z => by cases z), if_neg (by decide)]
  have z : dictOf s.hp (.box n) = none := by unfold dictOf; dsimp only; rw [h]
  unfold cLenD
  dsimp only
  rw [z]
  dsimp only
  unfold cLenP
  dsimp only
  rw [tpL_of h]
def optD : Option Int → PyData
  | some v => .int v
  | none => .none
theorem og_evb (o : OutAt B x a1 b1 T st K) (nd : (keysP T).Nodup) (nK : (keysP K).Nodup) (e : env[i]? = some (some (.box x))) (e2 : env[12]? = some (some (.int r))) (hr : (getP T r).isSome = true) : EvB B env (ogE i) (optM (getP K r)) :=
  evb_m2 (evb_v e) (evb_v e2) fun hp k => by
    refine ⟨hp ++ [.dK (dm T), .dK (dm K)], Ext.app _ _, ?_⟩
    show oDun _ _ _ _ _ _ = _
    unfold oDun
    rw [if_pos (isO (s := ⟨env, hp⟩) (o.ext k)), oget_at (o.ext k) nd nK hr]
    rfl
theorem dXL_map {α : Type} {f : α → M} {g : α → PyData} (h : ∀ a, datX hp (f a) = some (g a)) : ∀ l : List α, datXL hp (l.map f) = some (l.map g)
  | [] => rfl
  | a :: l => by
    rw [List.map_cons, List.map_cons]
    exact dX_cons (h a) (dXL_map h l)
theorem oright_at (R : Rows ps) (o : OutAt hp x a1 b1 (Tp ps) st K) (hb : hp[b]? = some (.tP (rm K))) (g : Big (Tp ps) st K) (nK : (keysP K).Nodup) (hK : ∀ p ∈ K, (getP (Tp ps) p.1).isSome = true) (pos : ∀ p ∈ K, p.2 = p.1 ∨ p.2 = wT (Tp ps) p.1) :
    ∃ hp', F__law_outcome_right [.box x, .lst (rm ps), .tup [stM st, .box b]] hp = .ok (.bl true) hp' ∧ Ext hp hp' := by
  have R' := R.srt
  have lK := g.lk
  have lT := g.lt
  -- the stop and the ends
  have s1 : oS1 ⟨envY ps x b st none none none none none none none none none none none none, hp⟩ = .ok .nx ⟨envY ps x b st none none none (some (stM st)) (some (.box b)) none none none none none none none, hp⟩ := asgE (mv_of rfl) rfl
  -- the rows, the places
  let h1 : List Cell := hp ++ [.tP (rm (Tp ps))]
  let h2 : List Cell := h1 ++ [.dK (dm K)]
  have b1' : h1[b]? = some (.tP (rm K)) := glow hb
  have s2 : oS2 ⟨envY ps x b st none none none (some (stM st)) (some (.box b)) none none none none none none none, hp⟩ = .ok .nx ⟨envY ps x b st none none none (some (stM st)) (some (.box b)) (some (.box hp.length)) (some (.box h1.length)) none none none none none, h2⟩ := by
    have e1 : mCall (mCons (mCall (mCons (mv 1) mNil) cSort) mNil) cTupP ⟨envY ps x b st none none none (some (stM st)) (some (.box b)) none none none none none none none, hp⟩ = .ok (.box hp.length) ⟨envY ps x b st none none none (some (stM st)) (some (.box b)) none none none none none none none, h1⟩ := by
      refine call_of (mone (x := .lst (rm (Tp ps))) (s1 := ⟨envY ps x b st none none none (some (stM st)) (some (.box b)) none none none none none none none, hp⟩) (call_of (mone (mv_of rfl)) ?_)) rfl
      show (match pairsOf (rm ps) with | some ps => Res.ok (M.lst ((srtP ps).map pM)) _ | none => Res.stuck) = _
      rw [pairsOf_rm]
    have e2 := call_of (o := cDictT cDict) (ma := mCons (mv 7) mNil) (s := ⟨envY ps x b st none none none (some (stM st)) (some (.box b)) none none none none none none none, h1⟩) (mone (a := mv 7) (mv_of rfl)) (dictT_of (s := ⟨envY ps x b st none none none (some (stM st)) (some (.box b)) none none none none none none none, h1⟩) nK b1')
    exact asgE (mtup2 e1 e2) rfl
  have b2' : h2[b]? = some (.tP (rm K)) := glow b1'
  -- the rows that moved
  let h3 : List Cell := h2 ++ [.tP ((chL K).map M.int)]
  have s3 : oS3 ⟨envY ps x b st none none none (some (stM st)) (some (.box b)) (some (.box hp.length)) (some (.box h1.length)) none none none none none, h2⟩ = .ok .nx ⟨envY ps x b st (some (.box h2.length)) none none (some (stM st)) (some (.box b)) (some (.box hp.length)) (some (.box h1.length)) none none none none none, h3⟩ := by
    have c := mlc_if (vs := [14, 12]) (it := iSeqP (mv 7)) (tg := gTupN [14, 12]) (tt := mB (m2 (oEqK true (oEqD true)) (mv 14) (mv 12))) (el := mv 14) (em := pM) (f := fun p : IP => M.int p.1) (p := fun p => p.1 != p.2) (xs := K)
      (s := ⟨envY ps x b st none none none (some (stM st)) (some (.box b)) (some (.box hp.length)) (some (.box h1.length)) none none none none none, h2⟩) (s1 := ⟨envY ps x b st none none none (some (stM st)) (some (.box b)) (some (.box hp.length)) (some (.box h1.length)) none none none none none, h2⟩) (seqP_of (mv_of rfl) b2') (by show K.length ≤ 16777216; omega)
      fun p _ => ⟨⟨envY ps x b st none none none (some (stM st)) (some (.box b)) (some (.box hp.length)) (some (.box h1.length)) none none (some (.int p.2)) none (some (.int p.1)), h2⟩, envY ps x b st none none none (some (stM st)) (some (.box b)) (some (.box hp.length)) (some (.box h1.length)) none none (some (.int p.2)) none (some (.int p.1)), rfl, b_of (m2_of (mv_of rfl) (mv_of rfl) rfl), fun _ => ⟨_, rfl⟩⟩
    have e : (K.filter fun p => p.1 != p.2).map (fun p : IP => M.int p.1) = (chL K).map M.int := by unfold chL keysP; rw [List.map_map]; rfl
    rw [e] at c
    exact set_of (call_of (o := cTupP) (mone c) rfl)
  have b3' : h3[b]? = some (.tP (rm K)) := glow b2'
  -- those that are left, the keys that are held
  let h4' : List Cell := h3 ++ [.tP ((keysP K).map M.int)]
  let h4 : List Cell := h4' ++ [.tP ((ordL K).map M.int)]
  have b4' : h4'[b]? = some (.tP (rm K)) := glow b3'
  have b4 : h4[b]? = some (.tP (rm K)) := glow b4'
  have s4 : oS4 ⟨envY ps x b st (some (.box h2.length)) none none (some (stM st)) (some (.box b)) (some (.box hp.length)) (some (.box h1.length)) none none none none none, h3⟩ = .ok .nx ⟨envY ps x b st (some (.box h2.length)) none none (some (stM st)) (some (.box b)) (some (.box hp.length)) (some (.box h1.length)) (some (.box h3.length)) (some (.box h4'.length)) none none none, h4⟩ := by
    have c : ∀ (hx : List Cell) (el : ME) (f : IP → M) (hbx : hx[b]? = some (.tP (rm K))), (∀ p : IP, el ⟨envY ps x b st (some (.box h2.length)) none none (some (stM st)) (some (.box b)) (some (.box hp.length)) (some (.box h1.length)) none none (some (.int p.2)) none (some (.int p.1)), hx⟩ = .ok (f p) ⟨envY ps x b st (some (.box h2.length)) none none (some (stM st)) (some (.box b)) (some (.box hp.length)) (some (.box h1.length)) none none (some (.int p.2)) none (some (.int p.1)), hx⟩) →
        mLc [14, 12] (iSeqP (mv 7)) (gTupN [14, 12]) mYes el ⟨envY ps x b st (some (.box h2.length)) none none (some (stM st)) (some (.box b)) (some (.box hp.length)) (some (.box h1.length)) none none none none none, hx⟩ = .ok (.lst (K.map f)) ⟨envY ps x b st (some (.box h2.length)) none none (some (stM st)) (some (.box b)) (some (.box hp.length)) (some (.box h1.length)) none none none none none, hx⟩ := fun hx el f hbx he => by
      have c := mlc_if (vs := [14, 12]) (it := iSeqP (mv 7)) (tg := gTupN [14, 12]) (tt := mYes) (el := el) (em := pM) (f := f) (p := fun _ => true) (xs := K)
        (s := ⟨envY ps x b st (some (.box h2.length)) none none (some (stM st)) (some (.box b)) (some (.box hp.length)) (some (.box h1.length)) none none none none none, hx⟩) (s1 := ⟨envY ps x b st (some (.box h2.length)) none none (some (stM st)) (some (.box b)) (some (.box hp.length)) (some (.box h1.length)) none none none none none, hx⟩) (seqP_of (mv_of rfl) hbx) (by show K.length ≤ 16777216; omega)
        fun p _ => ⟨⟨envY ps x b st (some (.box h2.length)) none none (some (stM st)) (some (.box b)) (some (.box hp.length)) (some (.box h1.length)) none none (some (.int p.2)) none (some (.int p.1)), hx⟩, envY ps x b st (some (.box h2.length)) none none (some (stM st)) (some (.box b)) (some (.box hp.length)) (some (.box h1.length)) none none (some (.int p.2)) none (some (.int p.1)), rfl, rfl, fun _ => ⟨_, he p⟩⟩
      rw [List.filter_eq_self.mpr (fun _ _ => rfl)] at c
      exact c
    have c1 := c h3 (mv 14) (fun p => M.int p.1) b3' fun p => rfl
    have c2 := c h4' (mv 12) (fun p => M.int p.2) b4' fun p => rfl
    have e1 : (K.map fun p : IP => M.int p.1) = (keysP K).map M.int := by unfold keysP; rw [List.map_map]; rfl
    have e2 : (K.map fun p : IP => M.int p.2) = (valsP K).map M.int := by unfold valsP; rw [List.map_map]; rfl
    rw [e1] at c1
    rw [e2] at c2
    exact par2_of (mcons_of (call_of (o := cTupP) (mone c1) rfl) (mone (call_of (o := cTupP) (mone (call_of (o := cSortD) (mone c2) (sortD_ints ord_perm ord_srt))) rfl)))
  -- what the outcome tells
  let h5 : List Cell := h4 ++ [.dK (dm (Tp ps))]
  have x4 : Ext hp h4 := fun i c h => glow (glow (glow (glow (glow h))))
  have x5 : Ext hp h5 := x4.trans (Ext.app _ _)
  have o4 := o.ext x4
  have o5 := o.ext x5
  have mvE := moved_at o4 R'.nd (by omega) hK
  rw [ch_mv pos] at mvE
  have s5 : oS5 ⟨envY ps x b st (some (.box h2.length)) none none (some (stM st)) (some (.box b)) (some (.box hp.length)) (some (.box h1.length)) (some (.box h3.length)) (some (.box h4'.length)) none none none, h4⟩ =
      .ok .nx ⟨envY ps x b st (some (.box h2.length)) (some (.lst [.box a1, stM st, .box b1, tupI (chL K), tupI (keysP K), tupI (ordL K), .int K.length])) none (some (stM st)) (some (.box b)) (some (.box hp.length)) (some (.box h1.length)) (some (.box h3.length)) (some (.box h4'.length)) none none none, h5⟩ := by
    refine set_of (s1 := ⟨envY ps x b st (some (.box h2.length)) none none (some (stM st)) (some (.box b)) (some (.box hp.length)) (some (.box h1.length)) (some (.box h3.length)) (some (.box h4'.length)) none none none, h5⟩) ?_
    unfold mLst
    rw [mcons_of (prp_of (i := 0) o4 rfl (orows_at o4)) (mcons_of (prp_of (i := 0) o4 rfl (ostop_at o4)) (mcons_of (prp_of (i := 0) o4 rfl (oends_at o4)) (mcons_of (prp_of (i := 0) o4 rfl mvE) (mcons_of (prp_of (i := 0) o5 rfl (left_at o5 (by omega))) (mcons_of (prp_of (i := 0) o5 rfl (held_at o5 (by omega) ord_perm ord_srt)) (mone (lenX_out (i := 0) (s := ⟨envY ps x b st (some (.box h2.length)) none none (some (stM st)) (some (.box b)) (some (.box hp.length)) (some (.box h1.length)) (some (.box h3.length)) (some (.box h4'.length)) none none none, h5⟩) o5 (by omega) rfl)))))))]
    rfl
  have g8 : h5[hp.length]? = some (.tP (rm (Tp ps))) := glow (glow (glow (glow (glow (gapp 0 rfl)))))
  have g9 : h5[h1.length]? = some (.dK (dm K)) := glow (glow (glow (glow (gapp 0 rfl))))
  have g3 : h5[h2.length]? = some (.tP ((chL K).map M.int)) := glow (glow (glow (gapp 0 rfl)))
  have g10 : h5[h3.length]? = some (.tP ((keysP K).map M.int)) := glow (glow (gapp 0 rfl))
  have g11 : h5[h4'.length]? = some (.tP ((ordL K).map M.int)) := glow (gapp 0 rfl)
  have g7 : h5[b]? = some (.tP (rm K)) := x5 _ _ hb
  have dA : datX h5 (.lst [.box a1, stM st, .box b1, tupI (chL K), tupI (keysP K), tupI (ordL K), .int K.length]) = some (dO (Tp ps) st K) :=
    dX_lst (dX_cons (dX_box o5.ra (datL_rm _)) (dX_cons dX_st (dX_cons (dX_box o5.rb (datL_rm _)) (dX_cons dX_tup (dX_cons dX_tup (dX_cons dX_tup (dX_cons rfl rfl)))))))
  have dB : datX h5 (.lst [.box hp.length, stM st, .box b, .box h2.length, .box h3.length, .box h4'.length, .int (rm K).length]) = some (dO (Tp ps) st K) := by
    have e : ((rm K).length : Int) = (K.length : Int) := by rw [List.length_map]
    rw [e]
    exact dX_lst (dX_cons (dX_box g8 (datL_rm _)) (dX_cons dX_st (dX_cons (dX_box g7 (datL_rm _)) (dX_cons (dX_box g3 (datL_ints _)) (dX_cons (dX_box g10 (datL_ints _)) (dX_cons (dX_box g11 (datL_ints _)) (dX_cons rfl rfl)))))))
  have same := sameX dA dB rfl (okd_O g) (by decide) (by decide)
  have s6 : sIf oT6 (sRet (mc (.bl false))) sNx ⟨envY ps x b st (some (.box h2.length)) (some (.lst [.box a1, stM st, .box b1, tupI (chL K), tupI (keysP K), tupI (ordL K), .int K.length])) none (some (stM st)) (some (.box b)) (some (.box hp.length)) (some (.box h1.length)) (some (.box h3.length)) (some (.box h4'.length)) none none none, h5⟩ =
      .ok .nx ⟨envY ps x b st (some (.box h2.length)) (some (.lst [.box a1, stM st, .box b1, tupI (chL K), tupI (keysP K), tupI (ordL K), .int K.length])) none (some (stM st)) (some (.box b)) (some (.box hp.length)) (some (.box h1.length)) (some (.box h3.length)) (some (.box h4'.length)) none none none, h5⟩ := by
    have t6 : mFn (mCons (mv 4) (mCons (mLst (mCons (mv 8) (mCons (mv 6) (mCons (mv 7) (mCons (mv 3) (mCons (mv 10) (mCons (mv 11) (mCons (lenX 7) mNil)))))))) mNil)) F__law_same ⟨envY ps x b st (some (.box h2.length)) (some (.lst [.box a1, stM st, .box b1, tupI (chL K), tupI (keysP K), tupI (ordL K), .int K.length])) none (some (stM st)) (some (.box b)) (some (.box hp.length)) (some (.box h1.length)) (some (.box h3.length)) (some (.box h4'.length)) none none none, h5⟩ = .ok (.bl true) ⟨envY ps x b st (some (.box h2.length)) (some (.lst [.box a1, stM st, .box b1, tupI (chL K), tupI (keysP K), tupI (ordL K), .int K.length])) none (some (stM st)) (some (.box b)) (some (.box hp.length)) (some (.box h1.length)) (some (.box h3.length)) (some (.box h4'.length)) none none none, h5⟩ := by
      refine fn_of (F := F__law_same) (s1 := ⟨envY ps x b st (some (.box h2.length)) (some (.lst [.box a1, stM st, .box b1, tupI (chL K), tupI (keysP K), tupI (ordL K), .int K.length])) none (some (stM st)) (some (.box b)) (some (.box hp.length)) (some (.box h1.length)) (some (.box h3.length)) (some (.box h4'.length)) none none none, h5⟩) (mcons_of (a := mv 4) (mv_of rfl) (mone (x := .lst [.box hp.length, stM st, .box b, .box h2.length, .box h3.length, .box h4'.length, .int (rm K).length]) ?_)) same
      unfold mLst
      rw [mcons_of (a := mv 8) (mv_of rfl) (mcons_of (a := mv 6) (mv_of rfl) (mcons_of (a := mv 7) (mv_of rfl) (mcons_of (a := mv 3) (mv_of rfl) (mcons_of (a := mv 10) (mv_of rfl) (mcons_of (a := mv 11) (mv_of rfl) (mone (lenX_tup (i := 7) (n := b) (s := ⟨envY ps x b st (some (.box h2.length)) (some (.lst [.box a1, stM st, .box b1, tupI (chL K), tupI (keysP K), tupI (ordL K), .int K.length])) none (some (stM st)) (some (.box b)) (some (.box hp.length)) (some (.box h1.length)) (some (.box h3.length)) (some (.box h4'.length)) none none none, h5⟩) g7 rfl)))))))]
      rfl
    exact (if_of (not_of (b_of t6))).trans rfl
  -- each row
  have hkT : ∀ p ∈ Tp ps, (getP (Tp ps) p.1).isSome = true := fun p h_ => getP_key.mpr (List.mem_map.mpr ⟨p, h_, rfl⟩)
  have c7 := evb_lc (B := h5) (env := envY ps x b st (some (.box h2.length)) (some (.lst [.box a1, stM st, .box b1, tupI (chL K), tupI (keysP K), tupI (ordL K), .int K.length])) none (some (stM st)) (some (.box b)) (some (.box hp.length)) (some (.box h1.length)) (some (.box h3.length)) (some (.box h4'.length)) none none none) (vs := [12, 13]) (it := iSeqP (mv 8)) (tg := gTupN [12, 13]) (tt := mYes) (el := ogE 0) (em := pM) (f := fun p => optM (getP K p.1)) (p := fun _ => true) (xs := Tp ps)
    (fun hq k => ⟨hq, Ext.refl _, seqP_of (mv_of rfl) (k _ _ g8)⟩) (by omega) fun p hp_ => ⟨envY ps x b st (some (.box h2.length)) (some (.lst [.box a1, stM st, .box b1, tupI (chL K), tupI (keysP K), tupI (ordL K), .int K.length])) none (some (stM st)) (some (.box b)) (some (.box hp.length)) (some (.box h1.length)) (some (.box h3.length)) (some (.box h4'.length)) (some (.int p.1)) (some (.int p.2)) none, fun _ => rfl, fun hq _ => ⟨hq, Ext.refl _, rfl⟩, fun _ => og_evb o5 R'.nd nK rfl rfl (hkT p hp_)⟩
  rw [List.filter_eq_self.mpr (fun _ _ => rfl)] at c7
  obtain ⟨h7, x7, e7⟩ := c7 h5 (Ext.refl _)
  have s7 := set_of (i := 5) e7
  have c8 := mlc_if (vs := [12, 13]) (it := iSeqP (mv 8)) (tg := gTupN [12, 13]) (tt := mYes) (el := mIf (mB (m2 (oInD false (oInL false)) (mv 12) (mv 9))) (ogE 9) (mc .non)) (em := pM) (f := fun p : IP => optM (getP K p.1)) (p := fun _ => true) (xs := Tp ps)
    (s := ⟨envY ps x b st (some (.box h2.length)) (some (.lst [.box a1, stM st, .box b1, tupI (chL K), tupI (keysP K), tupI (ordL K), .int K.length])) (some (.lst ((Tp ps).map fun p => optM (getP K p.1)))) (some (stM st)) (some (.box b)) (some (.box hp.length)) (some (.box h1.length)) (some (.box h3.length)) (some (.box h4'.length)) none none none, h7⟩)
    (s1 := ⟨envY ps x b st (some (.box h2.length)) (some (.lst [.box a1, stM st, .box b1, tupI (chL K), tupI (keysP K), tupI (ordL K), .int K.length])) (some (.lst ((Tp ps).map fun p => optM (getP K p.1)))) (some (stM st)) (some (.box b)) (some (.box hp.length)) (some (.box h1.length)) (some (.box h3.length)) (some (.box h4'.length)) none none none, h7⟩) (seqP_of (mv_of rfl) (x7 _ _ g8)) (by show (Tp ps).length ≤ 16777216; omega)
    fun p hp_ => ⟨⟨envY ps x b st (some (.box h2.length)) (some (.lst [.box a1, stM st, .box b1, tupI (chL K), tupI (keysP K), tupI (ordL K), .int K.length])) (some (.lst ((Tp ps).map fun p => optM (getP K p.1)))) (some (stM st)) (some (.box b)) (some (.box hp.length)) (some (.box h1.length)) (some (.box h3.length)) (some (.box h4'.length)) (some (.int p.1)) (some (.int p.2)) none, h7⟩, envY ps x b st (some (.box h2.length)) (some (.lst [.box a1, stM st, .box b1, tupI (chL K), tupI (keysP K), tupI (ordL K), .int K.length])) (some (.lst ((Tp ps).map fun p => optM (getP K p.1)))) (some (stM st)) (some (.box b)) (some (.box hp.length)) (some (.box h1.length)) (some (.box h3.length)) (some (.box h4'.length)) (some (.int p.1)) (some (.int p.2)) none, rfl, rfl, fun _ => ⟨envY ps x b st (some (.box h2.length)) (some (.lst [.box a1, stM st, .box b1, tupI (chL K), tupI (keysP K), tupI (ordL K), .int K.length])) (some (.lst ((Tp ps).map fun p => optM (getP K p.1)))) (some (stM st)) (some (.box b)) (some (.box hp.length)) (some (.box h1.length)) (some (.box h3.length)) (some (.box h4'.length)) (some (.int p.1)) (some (.int p.2)) none, by
      have t := b_of (m2_of (o := oInD false (oInL false)) (a := mv 12) (b := mv 9) (x := .int p.1) (y := .box h1.length) (s := ⟨envY ps x b st (some (.box h2.length)) (some (.lst [.box a1, stM st, .box b1, tupI (chL K), tupI (keysP K), tupI (ordL K), .int K.length])) (some (.lst ((Tp ps).map fun p => optM (getP K p.1)))) (some (stM st)) (some (.box b)) (some (.box hp.length)) (some (.box h1.length)) (some (.box h3.length)) (some (.box h4'.length)) (some (.int p.1)) (some (.int p.2)) none, h7⟩) (mv_of rfl) (mv_of rfl) (inw (dicO (x7 _ _ g9))))
      refine (mifE t).trans ?_
      cases hg : getP K p.1 with
      | none => rfl
      | some v =>
        refine (if_pos rfl).trans (m2_of (mv_of rfl) (mv_of rfl) ?_)
        show oDun _ _ _ _ _ _ = _
        unfold oDun
        rw [no_out (x7 _ _ g9) (fun _ _ z => by cases z), if_neg (by decide)]
        exact ixw (dicO (x7 _ _ g9)) hg⟩⟩
  rw [List.filter_eq_self.mpr (fun _ _ => rfl)] at c8
  have dF : datX h7 (.lst ((Tp ps).map fun p => optM (getP K p.1))) = some (.list ((Tp ps).map fun p => optD (getP K p.1))) := dX_lst (dXL_map (fun p => by cases getP K p.1 <;> rfl) _)
  have okF : Okd (.list ((Tp ps).map fun p => optD (getP K p.1))) 1 11320 := by
    have e : Oks ((Tp ps).map fun p => optD (getP K p.1)) 0 (((Tp ps).map fun p => optD (getP K p.1)).length * (140 + 1)) := Oks.all fun d hd => by
      obtain ⟨p, hp, rfl⟩ := List.mem_map.mp hd
      cases hg : getP K p.1 with
      | none => exact Okd.non.le (Nat.le_refl _) (by decide)
      | some v => exact Okd.int (g.k _ (getP_mem hg)).2.abs
    refine Okd.list (e.le (Nat.le_refl _) ?_)
    rw [List.length_map]
    omega
  have same2 := sameX dF dF rfl okF (by decide) (by decide)
  refine ⟨h7, ?_, x5.trans x7⟩
  refine (show F__law_outcome_right [.box x, .lst (rm ps), .tup [stM st, .box b]] hp = bodyF 3 15 m__law_outcome_right [.box x, .lst (rm ps), .tup [stM st, .box b]] hp from rfl).trans (body_rt (s' := ⟨envY ps x b st (some (.box h2.length)) (some (.lst [.box a1, stM st, .box b1, tupI (chL K), tupI (keysP K), tupI (ordL K), .int K.length])) (some (.lst ((Tp ps).map fun p => optM (getP K p.1)))) (some (stM st)) (some (.box b)) (some (.box hp.length)) (some (.box h1.length)) (some (.box h3.length)) (some (.box h4'.length)) none none none, h7⟩) ?_)
  rw [oright_eq]
  exact seq_of s1 (seq_of s2 (seq_of s3 (seq_of s4 (seq_of s5 (seq_of s6 (seq_of s7 (ret_of (fn_of (F := F__law_same) (mcons_of (a := mv 5) (mv_of rfl) (mone c8)) same2))))))))
end
end Lw
namespace Lw
open L2 Ma PySem.Spec PySem PyProof.Rows
/-! what stays while the law goes on -/
def Hard : Cell → Prop
  | .ins _ _ => True
  | .tP _ => True
  | _ => False
def HF (hp hp' : List Cell) : Prop := ∀ (i : Nat) (c : Cell), hp[i]? = some c → Hard c → hp'[i]? = some c
section
variable {hp h1 h2 h3 B : List Cell} {c c' : Cell} {T K ps : List IP} {st : Option IP} {x a1 b1 b n d p L q : Nat} {o : List Int} {ru : Rl} {e : M}
theorem HF.refl (hp : List Cell) : HF hp hp := fun _ _ h _ => h
theorem HF.trans (a : HF h1 h2) (b : HF h2 h3) : HF h1 h3 := fun i c h k => b i c (a i c h k) k
theorem hf_ext (k : Ext hp h1) : HF hp h1 := fun i c h _ => k i c h
theorem hf_set (h : hp[n]? = some c) (hc : ¬ Hard c) (ex : List Cell) : HF hp (hp.set n c' ++ ex) := fun i d hd k => glow (gset hd fun z => by
  subst z
  rw [h] at hd
  cases hd
  exact hc k)
theorem hf_set0 (h : hp[n]? = some c) (hc : ¬ Hard c) : HF hp (hp.set n c') := fun i d hd k => gset hd fun z => by
  subst z
  rw [h] at hd
  cases hd
  exact hc k
theorem OutAt.hf (o : OutAt hp x a1 b1 T st K) (k : HF hp h1) : OutAt h1 x a1 b1 T st K := ⟨k _ _ o.i trivial, k _ _ o.ra trivial, k _ _ o.rb trivial⟩
/-- what is known of an outcome -/
structure Good (T : List IP) (st : Option IP) (K : List IP) : Prop where
  g : Big T st K
  nK : (keysP K).Nodup
  hK : ∀ p ∈ K, (getP T p.1).isSome = true
  pos : ∀ p ∈ K, p.2 = p.1 ∨ p.2 = wT T p.1
theorem go_stop (ru : Rl) : ∀ (o : List Int) {S : LL} {r h : Int}, OkS T S → (∀ q ∈ o, (getP T q).isSome = true) → (keysP T).Nodup → T.length ≤ 40 → (goR ru T o S).1 = some (r, h) → (getP T r).isSome = true ∧ (getP T h).isSome = true
  | [], S, r, h, _, _, _, _, e => by cases e
  | q :: o, S, r, h, ok, ho, nd, lT, e => by
    have ho' : ∀ q ∈ o, (getP T q).isSome = true := fun z hz => ho z (by simp [hz])
    by_cases hv : visC T S.1 S.2 q = true
    · obtain ⟨k, w, g1, g2, ne⟩ := visC_yes (ho q (by simp)) hv
      cases hh : getP S.2 (wT T q) with
      | none =>
        rw [go_move ru hv hh] at e
        rw [wT_of g2] at hh
        exact go_stop ru o (okS_mv ok g1 g2 hh) ho' nd lT e
      | some y =>
        rw [go_clash ru hv hh] at e
        rw [wT_of g2] at hh
        by_cases gg : goes ru = true
        · rw [if_pos gg] at e
          exact go_stop ru o (okS_cl ru nd lT ok g1 g2 ne hh) ho' nd lT e
        · rw [if_neg gg] at e
          have e := Option.some.inj e
          cases e
          exact ⟨ho q (by simp), ok.sub _ (by rw [(ok.inv w h).mp hh]; rfl)⟩
    · rw [go_quiet ru hv] at e
      exact go_stop ru o ok ho' nd lT e
theorem good_go (ru : Rl) (R : Rows ps) (ho : o.Perm (keysP (Tp ps))) : Good (Tp ps) (goR ru (Tp ps) o (idP (Tp ps), idP (Tp ps))).1 (goR ru (Tp ps) o (idP (Tp ps), idP (Tp ps))).2.1 := by
  have R' := R.srt
  have hks : ∀ r ∈ o, (getP (Tp ps) r).isSome = true := fun r hr => getP_key.mpr (ho.mem_iff.mp hr)
  have ok := go_ok ru R'.nd R'.le o (okS_0 R'.nd R'.le) hks
  have ps' := pos_go ru o (pos_0 (Tp ps))
  have hK : ∀ p ∈ (goR ru (Tp ps) o (idP (Tp ps), idP (Tp ps))).2.1, (getP (Tp ps) p.1).isSome = true := fun p hp => ok.sub p.1 (by rw [getP_of ok.nk hp]; rfl)
  have pos : ∀ p ∈ (goR ru (Tp ps) o (idP (Tp ps), idP (Tp ps))).2.1, p.2 = p.1 ∨ p.2 = wT (Tp ps) p.1 := fun p hp => ps' p.1 p.2 (getP_of ok.nk hp)
  have kb : ∀ k, (getP (Tp ps) k).isSome = true → KB k ∧ KB (wT (Tp ps) k) := fun k hk => by
    obtain ⟨w, hw⟩ := Option.isSome_iff_exists.mp hk
    have := R'.kp _ (getP_mem hw)
    rw [wT_of hw]
    exact this
  refine ⟨⟨R'.kp, fun p hp => ?_, fun p hp => ?_, R'.le, ok.lk⟩, ok.nk, hK, pos⟩
  · obtain ⟨h1, h2⟩ := kb p.1 (hK p hp)
    rcases pos p hp with e | e
    · exact ⟨h1, by rw [e]; exact h1⟩
    · exact ⟨h1, by rw [e]; exact h2⟩
  · obtain ⟨h1, h2⟩ := go_stop ru o (r := p.1) (h := p.2) (okS_0 R'.nd R'.le) hks R'.nd R'.le hp
    exact ⟨(kb _ h1).1, (kb _ h2).1⟩
/-- an entry of the list that the law keeps -/
def Told (hp : List Cell) (T : List IP) (e : M) : Prop := ∃ x a1 b1 b st K, e = .tup [.box x, .tup [stM st, .box b]] ∧ OutAt hp x a1 b1 T st K ∧ hp[b]? = some (.tP (rm K)) ∧ Good T st K
theorem Told.hf (t : Told hp T e) (k : HF hp h1) : Told h1 T e := by
  obtain ⟨x, a1, b1, b, st, K, e1, o, hb, g⟩ := t
  exact ⟨x, a1, b1, b, st, K, e1, o.hf k, k _ _ hb trivial, g⟩
/-- the state: the pen, the list, the table, the rule -/
structure Sx (hp : List Cell) (p L n d : Nat) (T : List IP) (E : List M) : Prop where
  pen : ∃ c, IsPen c ∧ hp[p]? = some c
  lst : hp[L]? = some (.lst E)
  tab : TabAt hp n d T
  told : ∀ e ∈ E, Told hp T e
  ne : p ≠ L
theorem pen_hard (h : IsPen c) : ¬ Hard c := by
  obtain ⟨a, b, e, rfl, _⟩ := h
  exact fun z => z
theorem Sx.ext {E : List M} (s : Sx hp p L n d T E) (k : Ext hp h1) : Sx h1 p L n d T E := by
  obtain ⟨c, pc, hc⟩ := s.pen
  exact ⟨⟨c, pc, k _ _ hc⟩, k _ _ s.lst, ⟨k _ _ s.tab.i, k _ _ s.tab.d⟩, fun e he => (s.told e he).hf (hf_ext k), s.ne⟩
theorem Sx.draw {E : List M} (s : Sx hp p L n d T E) (hc' : IsPen c') (ex : List Cell) : Sx (hp.set p c' ++ ex) p L n d T E := by
  obtain ⟨c, pc, hc⟩ := s.pen
  refine ⟨⟨c', hc', glow (gsame hc)⟩, glow (gset s.lst s.ne), ⟨glow (gset s.tab.i fun z => ?_), glow (gset s.tab.d fun z => ?_)⟩, fun e he => (s.told e he).hf (hf_set hc (pen_hard pc) ex), s.ne⟩
  · obtain ⟨a, b, e, rfl, _⟩ := pc
    subst z; have := s.tab.i; rw [hc] at this; cases this
  · obtain ⟨a, b, e, rfl, _⟩ := pc
    subst z; have := s.tab.d; rw [hc] at this; cases this
theorem Sx.draw_hf {E : List M} (s : Sx hp p L n d T E) (ex : List Cell) : HF hp (hp.set p c' ++ ex) := by
  obtain ⟨c, pc, hc⟩ := s.pen
  exact hf_set hc (pen_hard pc) ex
theorem Sx.app {E : List M} (s : Sx hp p L n d T E) (he : Told hp T e) : Sx (hp.set L (.lst (E ++ [e]))) p L n d T (E ++ [e]) ∧ HF hp (hp.set L (.lst (E ++ [e]))) := by
  have k : HF hp (hp.set L (.lst (E ++ [e]))) := hf_set0 s.lst fun z => z
  obtain ⟨c, pc, hc⟩ := s.pen
  refine ⟨⟨⟨c, pc, gset hc (Ne.symm s.ne)⟩, gsame s.lst, ⟨gset s.tab.i fun z => ?_, gset s.tab.d fun z => ?_⟩, fun e' h => ?_, s.ne⟩, k⟩
  · subst z; have := s.tab.i; rw [s.lst] at this; cases this
  · subst z; have := s.tab.d; rw [s.lst] at this; cases this
  · rcases List.mem_append.mp h with h | h
    · exact (s.told e' h).hf k
    · rw [List.mem_singleton.mp h]; exact he.hf k
/-! ### rules by their words -/
abbrev nmT : MT := mB (m2 (oEqK false (oEqD false)) (mv 0) (mCon "WORD" tbs_WORD (mv 1)))
def nmB : MStm := sIf nmT (sRet (mv 1)) sNx
theorem named_eq : m_Rule_named = sSeq (sForI (iSeq (mTup (mCons (mMkO "Abort") (mCons (mMkO "Fail") (mCons (mMkO "Ignore") (mCons (mMkO "Replace") mNil)))))) (gSet 1) nmB) (sRai "NotRule" (mCons (mc (.str "the words of the rules are abort, fail, ignore and replace")) mNil)) := rfl
theorem nmT_at {r r' : Rl} (h : hp[q]? = some (.ins r'.nm [])) : nmT ⟨[some (.str r.wd), some (.box q)], hp⟩ = .ok (r.wd == r'.wd) ⟨[some (.str r.wd), some (.box q)], hp⟩ := by
  refine b_of (m2_of (x := .str r.wd) (y := .str r'.wd) (s1 := ⟨[some (.str r.wd), some (.box q)], hp⟩) (s2 := ⟨[some (.str r.wd), some (.box q)], hp⟩) (mv_of rfl) ?_ (str_cmp (wd_low r) (wd_low r')))
  have e : conOf "WORD" tbs_WORD (.box q) (⟨[some (.str r.wd), some (.box q)], hp⟩ : MS) = some r'.wd := by
    unfold conOf
    dsimp only
    rw [h]
    dsimp only
    rw [if_pos (show List.lookup ("WORD" : Str) ([] : List (Str × M)) = none from rfl)]
    cases r' <;> rfl
  show (match conOf "WORD" tbs_WORD (.box q) (⟨[some (.str r.wd), some (.box q)], hp⟩ : MS) with | some z => Res.ok (M.str z) _ | none => Res.stuck) = _
  rw [e]
theorem nm_no {r r' : Rl} {q' : Option M} (h : hp[q]? = some (.ins r'.nm [])) (ne : (r.wd == r'.wd) = false) {xs : List M} : sFor (gSet 1) nmB (.box q :: xs) ⟨[some (.str r.wd), q'], hp⟩ = sFor (gSet 1) nmB xs ⟨[some (.str r.wd), some (.box q)], hp⟩ := by
  have t := nmT_at (r := r) h
  rw [ne] at t
  exact sfor_nx (s1 := ⟨[some (.str r.wd), some (.box q)], hp⟩) rfl ((if_of t).trans rfl)
theorem nm_yes {r : Rl} {q' : Option M} (h : hp[q]? = some (.ins r.nm [])) {xs : List M} : sFor (gSet 1) nmB (.box q :: xs) ⟨[some (.str r.wd), q'], hp⟩ = .ok (.rt (.box q)) ⟨[some (.str r.wd), some (.box q)], hp⟩ := by
  have t := nmT_at (r := r) h
  rw [beq_self_eq_true] at t
  exact sfor_rt (s1 := ⟨[some (.str r.wd), some (.box q)], hp⟩) rfl ((if_of t).trans rfl)
theorem named_at (ru : Rl) (hp : List Cell) : ∃ q hp', F_Rule_named [.str ru.wd] hp = .ok (.box q) hp' ∧ Ext hp hp' ∧ hp'[q]? = some (.ins ru.nm []) := by
  have g0 : (hp ++ [Cell.ins "Abort" []] ++ [Cell.ins "Fail" []] ++ [Cell.ins "Ignore" []] ++ [Cell.ins "Replace" []])[hp.length]? = some (.ins (Rl.nm .ab) []) := glow (glow (glow (gapp 0 rfl)))
  have g1 : (hp ++ [Cell.ins "Abort" []] ++ [Cell.ins "Fail" []] ++ [Cell.ins "Ignore" []] ++ [Cell.ins "Replace" []])[(hp ++ [Cell.ins "Abort" []]).length]? = some (.ins (Rl.nm .fa) []) := glow (glow (gapp 0 rfl))
  have g2 : (hp ++ [Cell.ins "Abort" []] ++ [Cell.ins "Fail" []] ++ [Cell.ins "Ignore" []] ++ [Cell.ins "Replace" []])[(hp ++ [Cell.ins "Abort" []] ++ [Cell.ins "Fail" []]).length]? = some (.ins (Rl.nm .ig) []) := glow (gapp 0 rfl)
  have g3 : (hp ++ [Cell.ins "Abort" []] ++ [Cell.ins "Fail" []] ++ [Cell.ins "Ignore" []] ++ [Cell.ins "Replace" []])[(hp ++ [Cell.ins "Abort" []] ++ [Cell.ins "Fail" []] ++ [Cell.ins "Ignore" []]).length]? = some (.ins (Rl.nm .re) []) := gapp 0 rfl
  have fin : ∀ {q : Nat} {e' : List (Option M)}, sFor (gSet 1) nmB [.box hp.length, .box (hp ++ [Cell.ins "Abort" []]).length, .box (hp ++ [Cell.ins "Abort" []] ++ [Cell.ins "Fail" []]).length, .box (hp ++ [Cell.ins "Abort" []] ++ [Cell.ins "Fail" []] ++ [Cell.ins "Ignore" []]).length] ⟨[some (.str ru.wd), none], hp ++ [Cell.ins "Abort" []] ++ [Cell.ins "Fail" []] ++ [Cell.ins "Ignore" []] ++ [Cell.ins "Replace" []]⟩ = .ok (.rt (.box q)) ⟨e', hp ++ [Cell.ins "Abort" []] ++ [Cell.ins "Fail" []] ++ [Cell.ins "Ignore" []] ++ [Cell.ins "Replace" []]⟩ →
      F_Rule_named [.str ru.wd] hp = .ok (.box q) (hp ++ [Cell.ins "Abort" []] ++ [Cell.ins "Fail" []] ++ [Cell.ins "Ignore" []] ++ [Cell.ins "Replace" []]) := fun {q e'} h => by
    refine (show F_Rule_named [.str ru.wd] hp = bodyF 1 2 m_Rule_named [.str ru.wd] hp from rfl).trans (body_rt (s' := ⟨e', _⟩) ?_)
    rw [named_eq]
    exact seq_rt' (for_of (s := ⟨[some (.str ru.wd), none], hp⟩) (s1 := ⟨[some (.str ru.wd), none], hp ++ [Cell.ins "Abort" []] ++ [Cell.ins "Fail" []] ++ [Cell.ins "Ignore" []] ++ [Cell.ins "Replace" []]⟩) rfl h)
  have x : Ext hp (hp ++ [Cell.ins "Abort" []] ++ [Cell.ins "Fail" []] ++ [Cell.ins "Ignore" []] ++ [Cell.ins "Replace" []]) := fun i c h => glow (glow (glow (glow h)))
  cases ru with
  | ab => exact ⟨_, _, fin (nm_yes (r := .ab) g0), x, g0⟩
  | fa => exact ⟨_, _, fin ((nm_no (r := .fa) g0 (by decide +kernel)).trans (nm_yes (r := .fa) g1)), x, g1⟩
  | ig => exact ⟨_, _, fin ((nm_no (r := .ig) g0 (by decide +kernel)).trans ((nm_no (r := .ig) g1 (by decide +kernel)).trans (nm_yes (r := .ig) g2))), x, g2⟩
  | re => exact ⟨_, _, fin ((nm_no (r := .re) g0 (by decide +kernel)).trans ((nm_no (r := .re) g1 (by decide +kernel)).trans ((nm_no (r := .re) g2 (by decide +kernel)).trans (nm_yes (r := .re) g3)))), x, g3⟩
abbrev lwT (x : Str) : MT := mB (m2 (oEqK false (oEqD false)) (mv 0) (mc (.str x)))
theorem lw_at {r r' : Rl} : lwT r'.wd ⟨[some (.str r.wd)], hp⟩ = .ok (r.wd == r'.wd) ⟨[some (.str r.wd)], hp⟩ := b_of (m2_of (x := .str r.wd) (y := .str r'.wd) (s1 := ⟨[some (.str r.wd)], hp⟩) (s2 := ⟨[some (.str r.wd)], hp⟩) (mv_of rfl) rfl (str_cmp (wd_low r) (wd_low r')))
theorem lrule_eq : m__law_rule = sSeq (sIf (lwT (Rl.wd .ab)) (sRet (mMkO "Abort")) sNx) (sSeq (sIf (lwT (Rl.wd .fa)) (sRet (mMkO "Fail")) sNx) (sRet (mIf (lwT (Rl.wd .ig)) (mMkO "Ignore") (mMkO "Replace")))) := rfl
theorem lrule_at (ru : Rl) (hp : List Cell) : F__law_rule [.str ru.wd] hp = .ok (.box hp.length) (hp ++ [.ins ru.nm []]) := by
  have no : ∀ {r r' : Rl} {b : MStm}, (r.wd == r'.wd) = false → sIf (lwT r'.wd) b sNx ⟨[some (.str r.wd)], hp⟩ = .ok .nx ⟨[some (.str r.wd)], hp⟩ := fun {r r' b} h => by
    have t := lw_at (r := r) (r' := r') (hp := hp)
    rw [h] at t
    exact (if_of t).trans rfl
  have yes : ∀ {r : Rl} {b : MStm} {res : Res Fl}, b ⟨[some (.str r.wd)], hp⟩ = res → sIf (lwT r.wd) b sNx ⟨[some (.str r.wd)], hp⟩ = res := fun {r b res} h => by
    have t := lw_at (r := r) (r' := r) (hp := hp)
    rw [beq_self_eq_true] at t
    exact (if_of t).trans h
  refine (show F__law_rule [.str ru.wd] hp = bodyF 1 1 m__law_rule [.str ru.wd] hp from rfl).trans (body_rt (s' := ⟨[some (.str ru.wd)], hp ++ [.ins ru.nm []]⟩) ?_)
  rw [lrule_eq]
  cases ru with
  | ab => exact seq_rt' (yes (r := .ab) rfl)
  | fa => exact seq_of (no (r := .fa) (r' := .ab) (by decide +kernel)) (seq_rt' (yes (r := .fa) rfl))
  | ig =>
    have t := lw_at (r := .ig) (r' := .ig) (hp := hp)
    rw [beq_self_eq_true] at t
    exact seq_of (no (r := .ig) (r' := .ab) (by decide +kernel)) (seq_of (no (r := .ig) (r' := .fa) (by decide +kernel)) (ret_of ((mifE t).trans rfl)))
  | re =>
    have t := lw_at (r := .re) (r' := .ig) (hp := hp)
    rw [show (Rl.re.wd == Rl.ig.wd) = false by decide +kernel] at t
    exact seq_of (no (r := .re) (r' := .ab) (by decide +kernel)) (seq_of (no (r := .re) (r' := .fa) (by decide +kernel)) (ret_of ((mifE t).trans rfl)))
end
end Lw
-- LACK NB.kb
namespace Lw
open L2 Ma PySem.Spec PySem PyProof.Rows
/-! GA -/
section
variable {A B hp hp' : List Cell} {n d w : Nat} {T W : List IP} {c c' : Cell}
theorem app_any {L i : Nat} {ms : List M} {m : M} {a : ME} {env : List (Option M)} {hp1 : List Cell} (hl : hp[L]? = some (.lst ms)) (hi : env[i]? = some (some (.box L))) (ha : a ⟨env, hp⟩ = .ok m ⟨env, hp1⟩) (hl1 : hp1[L]? = some (.lst ms)) (hb : ms.length < 1000) : sExpr (mAppend (mv i) a) ⟨env, hp⟩ = .ok .nx ⟨env, hp1.set L (.lst (ms ++ [m]))⟩ := by
  have this : ms.length < 16777216 := by omega
  simp [sExpr, mAppend, mMeth, mv, hi, ha, isBoxL, hl, hl1, mCons, mNil, Res.bind, fAppend, big, this]
theorem atI_last {ms : List M} {m : M} : atI (ms ++ [m]) (-1) = some m := by
  unfold atI ixN
  rw [if_neg (by decide), if_pos (by simp; omega)]
  have : ((-1 : Int) + ((ms ++ [m]).length : Nat)).toNat = ms.length := by simp; omega
  rw [this]
  simp
end
/-! X0 -/
theorem setitem_at {n d : Nat} {T : List IP} {i v : Int} {hp : List Cell} (t : TabAt hp n d T) (h : i ∈ keysP T) (hv : KB v) (hl : T.length ≤ 40) : F_Table___setitem__ [.box n, .int i, .int v] hp = .ok .non (hp.set d (.dK (dm (updP T i v)))) := by
  have hs : (getP T i).isSome = true := by
    cases e : getP T i with
    | some _ => rfl
    | none => exact absurd h (getP_none.mp e)
  refine body_nx (s' := ⟨[some (.box n), some (.int i), some (.int v)], hp.set d (.dK (dm (updP T i v)))⟩) (seq_of (s1 := ⟨[some (.box n), some (.int i), some (.int v)], hp⟩) ?_ (seq_of (s1 := ⟨[some (.box n), some (.int i), some (.int v)], hp⟩) ?_ ?_))
  · refine (if_of (k := false) (b_of (m2_of (x := .int i) (y := .box n) (s2 := ⟨[some (.box n), some (.int i), some (.int v)], hp⟩) rfl rfl ?_))).trans rfl
    unfold oDunR
    rw [if_pos (isIns_at (s := ⟨[some (.box n), some (.int i), some (.int v)], hp⟩) t), contains_int t, hs]
    rfl
  · refine (if_of (k := false) (not_of (b_of (fn_of (ms := [.int v]) (mone rfl) (is_key_at hv))))).trans rfl
  · have e1 : mFld ["Table"] [] "_new_keys" (mv 0) ⟨[some (.box n), some (.int i), some (.int v)], hp⟩ = .ok (.box d) ⟨[some (.box n), some (.int i), some (.int v)], hp⟩ := by
      unfold mFld
      exact fld_at (s := ⟨[some (.box n), some (.int i), some (.int v)], hp⟩) t
    have e2 : dictL hp (.box d) = some (dm T) := dictL_at' t
    have e3 : T.length < 16777216 := by omega
    simp [sAsg, Ma.gSub, mv, Res.bind, e1, fSetD, e2, keyM, e3, big, putG_upd h]
end Lw
namespace Lw
open L2 Ma PySem.Spec PySem PyProof.Rows
/-! the law: one order -/
abbrev envL (ns : List Int) (q1 q2 q3 q4 q5 q6 q7 q8 q9 q10 q11 q12 q13 q14 q15 q16 q17 : Option M) : List (Option M) := [some (.scr ns), q1, q2, q3, q4, q5, q6, q7, q8, q9, q10, q11, q12, q13, q14, q15, q16, q17]
abbrev rcE : ME := mCallI tbl___call__ (mv 10) (mCons (mv 6) (mCons (mv 12) mNil))
abbrev orE (e : ME) : ME := mFn (mCons e (mCons (mv 3) (mCons (mv 14) mNil))) F__law_outcome_right
def tA : MStm := sSet 12 (mCall (mCons (mFn (mCons (mv 2) (mCons (mv 7) mNil)) F__law_mixed) mNil) cTup)
def tB : MStm := sPar2 14 15 (mCons (mFn (mCons (mv 3) (mCons (mv 12) (mCons (mv 4) mNil))) F__law_run) (mCons (mCall (mCons (mv 12) mNil) cRepr) mNil))
def tC : MStm := sExpr (mAppend (mv 9) (mTup (mCons rcE (mCons (mv 14) mNil))))
def tD : MStm := sSet 13 rcE
def tE : MStm := sIf (mOr (mNot (mB (orE (m2 (oIxD oIx) (m2 (oIxD oIx) (mv 9) (mNeg (mc (.int 1)))) (mc (.int 0)))))) (mNot (mB (orE (mv 13))))) (sRet (mc (.bl false))) sNx
def tF : MStm := sIf (mOr (mB (m2 (oEqK true (oEqD true)) (mCall (mCons (mv 12) mNil) cRepr) (mv 15))) (mB (m2 (oEqK true (oEqD true)) (mAt (mv 6) (oPrp "Table" F_Table_rows (fun _ _ => .stuck))) (mv 8)))) (sRet (mc (.bl false))) sNx
def B6 : MStm := sSeq tA (sSeq tB (sSeq tC (sSeq tD (sSeq tE tF))))
section
variable {ns : List Int} {hp : List Cell} {p L n d q : Nat} {ps : List IP} {E : List M} {ru : Rl} {q1 q5 q11 q12 q13 q14 q15 q16 q17 : Option M}
abbrev envT (ns : List Int) (p L n q : Nat) (ps : List IP) (ru : Rl) (q1 q5 q11 q12 q13 q14 q15 q16 q17 : Option M) : List (Option M) :=
  envL ns q1 (some (.box p)) (some (.lst (rm ps))) (some (.str ru.wd)) q5 (some (.box n)) (some (.lst ((keysP ps).map M.int))) (some (.tup (rm (Tp ps)))) (some (.box L)) (some (.box q)) q11 q12 q13 q14 q15 q16 q17
theorem last_at {e : M} {env : List (Option M)} (h : hp[L]? = some (.lst (E ++ [e]))) (i : Nat) (hi : env[i]? = some (some (.box L))) : m2 (oIxD oIx) (mv i) (mNeg (mc (.int 1))) ⟨env, hp⟩ = .ok e ⟨env, hp⟩ := by
  refine m2_of (mv_of hi) (y := .int (-1)) rfl ?_
  unfold oIxD
  rw [show dictOf (⟨env, hp⟩ : MS).hp (.box L) = none by unfold dictOf; dsimp only; rw [h]]
  dsimp only
  unfold oIx
  dsimp only
  unfold seqL
  dsimp only
  rw [show lstOf (⟨env, hp⟩ : MS).hp (.box L) = some (E ++ [e]) by unfold lstOf; dsimp only; rw [h]]
  dsimp only
  rw [atI_last]
theorem turn_at (R : Rows ps) (s : Sx hp p L n d (Tp ps) E) (hq : hp[q]? = some (.ins ru.nm [])) (hE : E.length ≤ 20) :
    ∃ hp' E' o12 o13 o14 o15, B6 ⟨envT ns p L n q ps ru q1 q5 q11 q12 q13 q14 q15 q16 q17, hp⟩ = .ok .nx ⟨envT ns p L n q ps ru q1 q5 q11 o12 o13 o14 o15 q16 q17, hp'⟩ ∧ Sx hp' p L n d (Tp ps) E' ∧ hp'[q]? = some (.ins ru.nm []) ∧ E'.length = E.length + 1 := by
  have R' := R.srt
  -- the order
  obtain ⟨c, pc, hc⟩ := s.pen
  obtain ⟨ms, c1, hms, p1, e1⟩ := mixed_at (ms := (keysP ps).map M.int) hc pc (fun m hm => by
    obtain ⟨i, _, rfl⟩ := List.mem_map.mp hm
    exact dat_int i) (by rw [List.length_map]; have := keys_len R; omega)
  obtain ⟨o, rfl, po⟩ := map_inv hms
  have ho : o.Perm (keysP (Tp ps)) := po.trans hm_of
  have s1 := s.draw p1 [.lst [], .dead]
  have k1 := s.draw_hf (c' := c1) [.lst [], .dead]
  have eA : tA ⟨envT ns p L n q ps ru q1 q5 q11 q12 q13 q14 q15 q16 q17, hp⟩ = .ok .nx ⟨envT ns p L n q ps ru q1 q5 q11 (some (tupI o)) q13 q14 q15 q16 q17, hp.set p c1 ++ [.lst [], .dead]⟩ :=
    set_of (call_of (o := cTup) (mone (fn_of (F := F__law_mixed) (s := ⟨envT ns p L n q ps ru q1 q5 q11 q12 q13 q14 q15 q16 q17, hp⟩) (mcons_of (a := mv 2) (mv_of rfl) (mone (a := mv 7) (mv_of rfl))) e1)) rfl)
  generalize hp.set p c1 ++ [.lst [], .dead] = h1 at eA s1 k1
  -- the law's run, the text of the order
  obtain ⟨b, h2, e2, x2, hb⟩ := lrun_at (hp := h1) ru R ho
  have s2 := s1.ext x2
  have okO : Okd (tupD o) 2 11320 := okd_int (fun x hx => by
    obtain ⟨w, hw⟩ := Option.isSome_iff_exists.mp (getP_key.mpr (ho.mem_iff.mp hx))
    exact (R'.kp _ (getP_mem hw)).1) (by rw [ho.length_eq, List.length_map]; exact R'.le)
  have dO' : ∀ hp : List Cell, datT hp (tupI o) = some (tupD o) := fun hp => by
    show (datL (o.map M.int)).map PyData.tuple = _
    rw [datL_ints]; rfl
  have rp : ∀ (s : MS), s.env[12]? = some (some (tupI o)) → mCall (mCons (mv 12) mNil) cRepr s = .ok (.str (tupD o).shown) s := fun s h => call_of (mone (mv_of h)) (cRepr_seq (dO' _) rfl okO (by decide) (by decide))
  have eB : tB ⟨envT ns p L n q ps ru q1 q5 q11 (some (tupI o)) q13 q14 q15 q16 q17, h1⟩ = .ok .nx ⟨envT ns p L n q ps ru q1 q5 q11 (some (tupI o)) q13 (some (.tup [stM (goR ru (Tp ps) o (idP (Tp ps), idP (Tp ps))).1, .box b])) (some (.str (tupD o).shown)) q16 q17, h2⟩ :=
    par2_of (mcons_of (fn_of (F := F__law_run) (s := ⟨envT ns p L n q ps ru q1 q5 q11 (some (tupI o)) q13 q14 q15 q16 q17, h1⟩) (mcons_of (a := mv 3) (mv_of rfl) (mcons_of (a := mv 12) (mv_of rfl) (mone (a := mv 4) (mv_of rfl)))) e2) (mone (rp _ rfl)))
  have gd := good_go ru R ho
  generalize hst : (goR ru (Tp ps) o (idP (Tp ps), idP (Tp ps))).1 = st at eB gd
  generalize hK : (goR ru (Tp ps) o (idP (Tp ps), idP (Tp ps))).2.1 = K at hb gd
  -- the rule, twice
  have q2 : h2[q]? = some (.ins ru.nm []) := x2 _ _ (k1 _ _ hq trivial)
  obtain ⟨h3, x, a1, b1, e3, x3, o3, _⟩ := rule_at ru (hp := h2) s2.tab R'.le R'.nd q2 ho
  rw [hst, hK] at o3
  have s3 := s2.ext x3
  have c3 : rcE ⟨envT ns p L n q ps ru q1 q5 q11 (some (tupI o)) q13 (some (.tup [stM st, .box b])) (some (.str (tupD o).shown)) q16 q17, h2⟩ = .ok (.box x) ⟨envT ns p L n q ps ru q1 q5 q11 (some (tupI o)) q13 (some (.tup [stM st, .box b])) (some (.str (tupD o).shown)) q16 q17, h3⟩ :=
    callI_of (n := q) (c := ru.nm) (fms := []) (s := ⟨envT ns p L n q ps ru q1 q5 q11 (some (tupI o)) q13 (some (.tup [stM st, .box b])) (some (.str (tupD o).shown)) q16 q17, h2⟩) (mv_of rfl) q2 (mcons_of (a := mv 6) (mv_of rfl) (mone (a := mv 12) (mv_of rfl))) q2 (tbl_ca ru) e3
  have told : Told h3 (Tp ps) (.tup [.box x, .tup [stM st, .box b]]) := ⟨x, a1, b1, b, st, K, rfl, o3, x3 _ _ hb, gd⟩
  have eC : tC ⟨envT ns p L n q ps ru q1 q5 q11 (some (tupI o)) q13 (some (.tup [stM st, .box b])) (some (.str (tupD o).shown)) q16 q17, h2⟩ = .ok .nx ⟨envT ns p L n q ps ru q1 q5 q11 (some (tupI o)) q13 (some (.tup [stM st, .box b])) (some (.str (tupD o).shown)) q16 q17, h3.set L (.lst (E ++ [.tup [.box x, .tup [stM st, .box b]]]))⟩ :=
    app_any s2.lst rfl (mtup2 c3 (mv_of rfl)) s3.lst (by omega)
  obtain ⟨s4, k4⟩ := s3.app told
  have q4 : (h3.set L (.lst (E ++ [.tup [.box x, .tup [stM st, .box b]]])))[q]? = some (.ins ru.nm []) := k4 _ _ (x3 _ _ q2) trivial
  have o4 := o3.hf k4
  have hb4 := k4 _ _ (x3 _ _ hb) trivial
  generalize h3.set L (.lst (E ++ [.tup [.box x, .tup [stM st, .box b]]])) = h4 at eC s4 q4 o4 hb4
  obtain ⟨h5, y, a2, b2, e5, x5, o5, _⟩ := rule_at ru (hp := h4) s4.tab R'.le R'.nd q4 ho
  rw [hst, hK] at o5
  have s5 := s4.ext x5
  have eD : tD ⟨envT ns p L n q ps ru q1 q5 q11 (some (tupI o)) q13 (some (.tup [stM st, .box b])) (some (.str (tupD o).shown)) q16 q17, h4⟩ = .ok .nx ⟨envT ns p L n q ps ru q1 q5 q11 (some (tupI o)) (some (.box y)) (some (.tup [stM st, .box b])) (some (.str (tupD o).shown)) q16 q17, h5⟩ :=
    set_of (callI_of (n := q) (c := ru.nm) (fms := []) (s := ⟨envT ns p L n q ps ru q1 q5 q11 (some (tupI o)) q13 (some (.tup [stM st, .box b])) (some (.str (tupD o).shown)) q16 q17, h4⟩) (mv_of rfl) q4 (mcons_of (a := mv 6) (mv_of rfl) (mone (a := mv 12) (mv_of rfl))) q4 (tbl_ca ru) e5)
  -- both outcomes are right
  obtain ⟨h6, e6, x6⟩ := oright_at (hp := h5) R (o4.ext x5) (x5 _ _ hb4) gd.g gd.nK gd.hK gd.pos
  obtain ⟨h7, e7, x7⟩ := oright_at (hp := h6) R (o5.ext x6) (x6 _ _ (x5 _ _ hb4)) gd.g gd.nK gd.hK gd.pos
  have s7 := (s5.ext x6).ext x7
  have eE : tE ⟨envT ns p L n q ps ru q1 q5 q11 (some (tupI o)) (some (.box y)) (some (.tup [stM st, .box b])) (some (.str (tupD o).shown)) q16 q17, h5⟩ = .ok .nx ⟨envT ns p L n q ps ru q1 q5 q11 (some (tupI o)) (some (.box y)) (some (.tup [stM st, .box b])) (some (.str (tupD o).shown)) q16 q17, h7⟩ := by
    have i1 : m2 (oIxD oIx) (m2 (oIxD oIx) (mv 9) (mNeg (mc (.int 1)))) (mc (.int 0)) ⟨envT ns p L n q ps ru q1 q5 q11 (some (tupI o)) (some (.box y)) (some (.tup [stM st, .box b])) (some (.str (tupD o).shown)) q16 q17, h5⟩ = .ok (.box x) ⟨envT ns p L n q ps ru q1 q5 q11 (some (tupI o)) (some (.box y)) (some (.tup [stM st, .box b])) (some (.str (tupD o).shown)) q16 q17, h5⟩ :=
      m2_of (last_at s5.lst 9 rfl) (y := .int 0) rfl rfl
    have t1 := not_of (b_of (fn_of (F := F__law_outcome_right) (mcons_of i1 (mcons_of (a := mv 3) (mv_of rfl) (mone (a := mv 14) (mv_of rfl)))) e6))
    have t2 := not_of (b_of (fn_of (F := F__law_outcome_right) (s := ⟨envT ns p L n q ps ru q1 q5 q11 (some (tupI o)) (some (.box y)) (some (.tup [stM st, .box b])) (some (.str (tupD o).shown)) q16 q17, h6⟩) (mcons_of (a := mv 13) (mv_of rfl) (mcons_of (a := mv 3) (mv_of rfl) (mone (a := mv 14) (mv_of rfl)))) e7))
    exact (if_of ((or_f t1).trans t2)).trans rfl
  -- the order and the table stay
  have eF : tF ⟨envT ns p L n q ps ru q1 q5 q11 (some (tupI o)) (some (.box y)) (some (.tup [stM st, .box b])) (some (.str (tupD o).shown)) q16 q17, h7⟩ = .ok .nx ⟨envT ns p L n q ps ru q1 q5 q11 (some (tupI o)) (some (.box y)) (some (.tup [stM st, .box b])) (some (.str (tupD o).shown)) q16 q17, h7⟩ := by
    have t1 : mB (m2 (oEqK true (oEqD true)) (mCall (mCons (mv 12) mNil) cRepr) (mv 15)) ⟨envT ns p L n q ps ru q1 q5 q11 (some (tupI o)) (some (.box y)) (some (.tup [stM st, .box b])) (some (.str (tupD o).shown)) q16 q17, h7⟩ = .ok false ⟨envT ns p L n q ps ru q1 q5 q11 (some (tupI o)) (some (.box y)) (some (.tup [stM st, .box b])) (some (.str (tupD o).shown)) q16 q17, h7⟩ :=
      b_of (m2_of (rp _ rfl) (mv_of rfl) (by
        show oEqD true (.str (tupD o).shown) (.str (tupD o).shown) _ = _
        rw [oEqD_str okO.low okO.low]
        simp))
    have t2 : mB (m2 (oEqK true (oEqD true)) (mAt (mv 6) (oPrp "Table" F_Table_rows (fun _ _ => .stuck))) (mv 8)) ⟨envT ns p L n q ps ru q1 q5 q11 (some (tupI o)) (some (.box y)) (some (.tup [stM st, .box b])) (some (.str (tupD o).shown)) q16 q17, h7⟩ = .ok false ⟨envT ns p L n q ps ru q1 q5 q11 (some (tupI o)) (some (.box y)) (some (.tup [stM st, .box b])) (some (.str (tupD o).shown)) q16 q17, h7⟩ :=
      b_of (m2_of (self_rows (env := []) (s := ⟨envT ns p L n q ps ru q1 q5 q11 (some (tupI o)) (some (.box y)) (some (.tup [stM st, .box b])) (some (.str (tupD o).shown)) q16 q17, h7⟩) rfl s7.tab R'.le) (mv_of rfl) eq_rowsT)
    exact (if_of ((or_f t1).trans t2)).trans rfl
  exact ⟨h7, _, _, _, _, _, seq_of eA (seq_of eB (seq_of eC (seq_of eD (seq_of eE eF)))), s7, x7 _ _ (x6 _ _ (x5 _ _ q4)), by simp⟩
theorem turns_at (R : Rows ps) (xs : List M) : ∀ {hp : List Cell} {E : List M} {q11 q12 q13 q14 q15 : Option M}, Sx hp p L n d (Tp ps) E → hp[q]? = some (.ins ru.nm []) → E.length + xs.length ≤ 20 →
    ∃ hp' E' o11 o12 o13 o14 o15, sFor (gSet 11) B6 xs ⟨envT ns p L n q ps ru q1 q5 q11 q12 q13 q14 q15 q16 q17, hp⟩ = .ok .nx ⟨envT ns p L n q ps ru q1 q5 o11 o12 o13 o14 o15 q16 q17, hp'⟩ ∧ Sx hp' p L n d (Tp ps) E' ∧ E'.length = E.length + xs.length := by
  induction xs with
  | nil => exact fun {hp E q11 q12 q13 q14 q15} s _ _ => ⟨hp, E, q11, q12, q13, q14, q15, rfl, s, rfl⟩
  | cons z xs ih =>
    intro hp E q11 q12 q13 q14 q15 s hq hE
    rw [List.length_cons] at hE
    obtain ⟨h1, E1, o12, o13, o14, o15, e1, s1, g1, l1⟩ := turn_at (ns := ns) (q1 := q1) (q5 := q5) (q11 := some z) (q12 := q12) (q13 := q13) (q14 := q14) (q15 := q15) (q16 := q16) (q17 := q17) R s hq (by omega)
    obtain ⟨h2, E2, r11, r12, r13, r14, r15, e2, s2, l2⟩ := ih (q11 := some z) (q12 := o12) (q13 := o13) (q14 := o14) (q15 := o15) s1 g1 (by omega)
    exact ⟨h2, E2, r11, r12, r13, r14, r15, (sfor_nx (s1 := ⟨envT ns p L n q ps ru q1 q5 (some z) q12 q13 q14 q15 q16 q17, hp⟩) rfl e1).trans e2, s2, by rw [l2, l1, List.length_cons]; omega⟩
end
end Lw
namespace Lw
open L2 Ma PySem.Spec PySem PyProof.Rows
/-! the law -/
def IT0 : MI := (iSeq (m2 oAdd (mLst (mCons (mFn (mCons (mv 0) (mCons (mc (.int 0)) mNil)) F__law_cell_at) mNil)) (mSl (mv 0) (oSome (mc (.int 1))) (oSome (mc (.int 2))))))
def C1 : MStm := sSet 2 (mFn (mCons (mv 1) mNil) F__law_pen)
def C2 : MStm := sSet 3 (mFn (mCons (mv 2) (mCons (mFn (mCons (mv 2) (mCons (mLst (mCons (mc (.int 40)) (mCons (mc (.int 8)) (mCons (mc (.int 8)) (mCons (mc (.int 5)) mNil))))) mNil)) F__law_pick) mNil)) F__law_pairs)
def C4 : MStm := sPar2 6 7 (mCons (m2 (oDunB "Table" F_Table___add__ "tuple" oAdd) (mMk "Table" F_Table___init__ mNil) (mCall (mCons (mv 3) mNil) cTup)) (mCons (mLc [5, 16] (iSeq (mv 3)) (gTupN [5, 16]) mYes (mv 5)) mNil))
def C5 : MStm := sPar2 8 9 (mCons (mAt (mv 6) (oPrp "Table" F_Table_rows (fun _ _ => .stuck))) (mCons (mLstB mNil) mNil))
def wA : MStm := sSet 10 (mFn (mCons (mv 2) (mCons (mLst (mCons (mSm "Rule" F_Rule_named (mc (.cls "Rule")) (mCons (mv 4) mNil)) (mCons (mFn (mCons (mv 4) mNil) F__law_rule) mNil))) mNil)) F__law_pick)
def W4 : MStm := sSeq wA (sForI (iRange1 (mCons (mc (.int 2)) mNil)) (gSet 11) B6)
def WS : MI := iSeq (mLst (mCons (mc (.str "abort")) (mCons (mc (.str "fail")) (mCons (mc (.str "ignore")) (mCons (mc (.str "replace")) mNil)))))
def C6b : MStm := sAsg (m2 (oDunB "Table" F_Table___add__ "tuple" oAdd) (mv 5) (mc (.int 1))) (gSub (mv 6) (mv 5) (fSetI "Table" F_Table___setitem__ (fSetD fSetL)))
def C6 : MStm := sForI (iSeq (mSl (mv 7) oNo (oSome (mc (.int 1))))) (gSet 5) C6b
def C7c : ME := mLc [17, 14] (iSeq (mv 9)) (gTupN [17, 14]) mYes (orE (mv 17))
def C7 : MStm := sSeq (sFz 9) (sIf (mNot (mB (mCall (mCons C7c mNil) (cAll false)))) (sRet (mc (.bl false))) sNx)
def CELL : MStm := sSeq C1 (sSeq C2 (sSeq C4 (sSeq C5 (sSeq (sForI WS (gSet 4) W4) (sSeq C6 C7)))))
theorem law_eq : m_law = sSeq (sForI IT0 (gSet 1) CELL) (sRet (mc (.bl true))) := rfl
section
variable {ns : List Int} {hp : List Cell} {p L n d : Nat} {c : Cell} {ps : List IP} {E : List M} {ru : Rl} {i : Int} {q1 q2 q3 q4 q5 q6 q7 q8 q9 q10 q11 q12 q13 q14 q15 q16 q17 : Option M}
abbrev envW (ns : List Int) (p L n : Nat) (ps : List IP) (q1 q4 q5 q10 q11 q12 q13 q14 q15 q16 q17 : Option M) : List (Option M) :=
  envL ns q1 (some (.box p)) (some (.lst (rm ps))) q4 q5 (some (.box n)) (some (.lst ((keysP ps).map M.int))) (some (.tup (rm (Tp ps)))) (some (.box L)) q10 q11 q12 q13 q14 q15 q16 q17
theorem word_at (R : Rows ps) (s : Sx hp p L n d (Tp ps) E) (hE : E.length + 2 ≤ 20) :
    ∃ hp' E' o10 o11 o12 o13 o14 o15, W4 ⟨envW ns p L n ps q1 (some (.str ru.wd)) q5 q10 q11 q12 q13 q14 q15 q16 q17, hp⟩ = .ok .nx ⟨envW ns p L n ps q1 (some (.str ru.wd)) q5 o10 o11 o12 o13 o14 o15 q16 q17, hp'⟩ ∧ Sx hp' p L n d (Tp ps) E' ∧ E'.length = E.length + 2 := by
  obtain ⟨q, h1, e1, x1, hq⟩ := named_at ru hp
  have e2 := lrule_at ru h1
  have s2 := (s.ext x1).ext (Ext.app h1 [Cell.ins ru.nm []])
  have k2 : (h1 ++ [Cell.ins ru.nm []])[h1.length]? = some (.ins ru.nm []) := gapp 0 rfl
  have hq2 : (h1 ++ [Cell.ins ru.nm []])[q]? = some (.ins ru.nm []) := glow hq
  have x2 : Ext hp (h1 ++ [Cell.ins ru.nm []]) := x1.trans (Ext.app _ _)
  obtain ⟨c, pc, hc⟩ := s2.pen
  obtain ⟨m, c1, hm, e3, p3⟩ := pick_at (ms := [.box q, .box h1.length]) hc pc (Nat.zero_lt_succ _) (by show (2 : Int) < 1073741824; decide)
  have s3 := s2.draw p3 []
  have k3 := s2.draw_hf (c' := c1) []
  rw [List.append_nil] at s3 k3
  obtain ⟨r, rfl, hr⟩ : ∃ r, m = .box r ∧ (h1 ++ [Cell.ins ru.nm []])[r]? = some (.ins ru.nm []) := by
    simp only [List.mem_cons, List.not_mem_nil, or_false] at hm
    rcases hm with rfl | rfl
    · exact ⟨q, rfl, hq2⟩
    · exact ⟨_, rfl, k2⟩
  have eA : wA ⟨envW ns p L n ps q1 (some (.str ru.wd)) q5 q10 q11 q12 q13 q14 q15 q16 q17, hp⟩ = .ok .nx ⟨envW ns p L n ps q1 (some (.str ru.wd)) q5 (some (.box r)) q11 q12 q13 q14 q15 q16 q17, (h1 ++ [Cell.ins ru.nm []]).set p c1⟩ := by
    have a1 : mSm "Rule" F_Rule_named (mc (.cls "Rule")) (mCons (mv 4) mNil) ⟨envW ns p L n ps q1 (some (.str ru.wd)) q5 q10 q11 q12 q13 q14 q15 q16 q17, hp⟩ = .ok (.box q) ⟨envW ns p L n ps q1 (some (.str ru.wd)) q5 q10 q11 q12 q13 q14 q15 q16 q17, h1⟩ := by
      unfold mSm mc
      show (if ("Rule" : Str) = "Rule" then (mCons (mv 4) mNil ⟨envW ns p L n ps q1 (some (.str ru.wd)) q5 q10 q11 q12 q13 q14 q15 q16 q17, hp⟩).bind (fun xs s2 => upF s2.env (F_Rule_named xs s2.hp)) else Res.stuck) = _
      rw [if_pos rfl, mone (x := .str ru.wd) (s1 := ⟨envW ns p L n ps q1 (some (.str ru.wd)) q5 q10 q11 q12 q13 q14 q15 q16 q17, hp⟩) (mv_of rfl)]
      show upF _ (F_Rule_named [.str ru.wd] hp) = _
      rw [e1]; rfl
    have a2 := fn_of (F := F__law_rule) (s := ⟨envW ns p L n ps q1 (some (.str ru.wd)) q5 q10 q11 q12 q13 q14 q15 q16 q17, h1⟩) (mone (a := mv 4) (x := .str ru.wd) (mv_of rfl)) e2
    refine set_of (fn_of (F := F__law_pick) (mcons_of (a := mv 2) (x := .box p) (s1 := ⟨envW ns p L n ps q1 (some (.str ru.wd)) q5 q10 q11 q12 q13 q14 q15 q16 q17, hp⟩) (mv_of rfl) (mone (x := .lst [.box q, .box h1.length]) (s1 := ⟨envW ns p L n ps q1 (some (.str ru.wd)) q5 q10 q11 q12 q13 q14 q15 q16 q17, h1 ++ [Cell.ins ru.nm []]⟩) ?_)) e3)
    unfold mLst
    rw [mcons_of a1 (mone a2)]
    rfl
  obtain ⟨h4, E', o11, o12, o13, o14, o15, e4, s4, l4⟩ := turns_at (ns := ns) (p := p) (L := L) (n := n) (q := r) (ps := ps) (ru := ru) (q1 := q1) (q5 := q5) (q11 := q11) (q12 := q12) (q13 := q13) (q14 := q14) (q15 := q15) (q16 := q16) (q17 := q17) R [.int 0, .int 1] s3 (k3 _ _ hr trivial) hE
  exact ⟨h4, E', _, o11, o12, o13, o14, o15, seq_of eA (for_of (it := iRange1 (mCons (mc (.int 2)) mNil)) (s := ⟨envW ns p L n ps q1 (some (.str ru.wd)) q5 (some (.box r)) q11 q12 q13 q14 q15 q16 q17, (h1 ++ [Cell.ins ru.nm []]).set p c1⟩) (s1 := ⟨envW ns p L n ps q1 (some (.str ru.wd)) q5 (some (.box r)) q11 q12 q13 q14 q15 q16 q17, (h1 ++ [Cell.ins ru.nm []]).set p c1⟩) (xs := [.int 0, .int 1]) rfl e4), s4, l4⟩
theorem words_at (R : Rows ps) (rs : List Rl) : ∀ {hp : List Cell} {E : List M} {q4 q10 q11 q12 q13 q14 q15 : Option M}, Sx hp p L n d (Tp ps) E → E.length + 2 * rs.length ≤ 20 →
    ∃ hp' E' o4 o10 o11 o12 o13 o14 o15, sFor (gSet 4) W4 (rs.map fun r => M.str r.wd) ⟨envW ns p L n ps q1 q4 q5 q10 q11 q12 q13 q14 q15 q16 q17, hp⟩ = .ok .nx ⟨envW ns p L n ps q1 o4 q5 o10 o11 o12 o13 o14 o15 q16 q17, hp'⟩ ∧ Sx hp' p L n d (Tp ps) E' ∧ E'.length = E.length + 2 * rs.length := by
  induction rs with
  | nil => exact fun {hp E q4 q10 q11 q12 q13 q14 q15} s _ => ⟨hp, E, q4, q10, q11, q12, q13, q14, q15, rfl, s, rfl⟩
  | cons z rs ih =>
    intro hp E q4 q10 q11 q12 q13 q14 q15 s hE
    rw [List.length_cons] at hE
    obtain ⟨h1, E1, o10, o11, o12, o13, o14, o15, e1, s1, l1⟩ := word_at (ns := ns) (ru := z) (q1 := q1) (q5 := q5) (q10 := q10) (q11 := q11) (q12 := q12) (q13 := q13) (q14 := q14) (q15 := q15) (q16 := q16) (q17 := q17) R s (by omega)
    obtain ⟨h2, E2, r4, r10, r11, r12, r13, r14, r15, e2, s2, l2⟩ := ih (q4 := some (.str z.wd)) (q10 := o10) (q11 := o11) (q12 := o12) (q13 := o13) (q14 := o14) (q15 := o15) s1 (by omega)
    exact ⟨h2, E2, r4, r10, r11, r12, r13, r14, r15, (sfor_nx (s1 := ⟨envW ns p L n ps q1 (some (.str z.wd)) q5 q10 q11 q12 q13 q14 q15 q16 q17, hp⟩) rfl e1).trans e2, s2, by rw [l2, l1, List.length_cons]; omega⟩
end
end Lw
namespace Lw
open L2 Ma PySem.Spec PySem PyProof.Rows
section
variable {ns : List Int} {hp : List Cell} {p L n d : Nat} {c : Cell} {ps : List IP} {E : List M} {ru : Rl} {i : Int} {q1 q2 q3 q4 q5 q6 q7 q8 q9 q10 q11 q12 q13 q14 q15 q16 q17 : Option M}
/-- the first key is given another new key: what is kept stays -/
theorem c6_at (R : Rows ps) (nb : ∀ q ∈ ps, NB q.1 ∧ NB q.2) (s : Sx hp p L n d (Tp ps) E) :
    ∃ hp' o5, C6 ⟨envW ns p L n ps q1 q4 q5 q10 q11 q12 q13 q14 q15 q16 q17, hp⟩ = .ok .nx ⟨envW ns p L n ps q1 q4 o5 q10 q11 q12 q13 q14 q15 q16 q17, hp'⟩ ∧ hp'[L]? = some (.lst E) ∧ ∀ e ∈ E, Told hp' (Tp ps) e := by
  have sl : mSl (mv 7) oNo (oSome (mc (.int 1))) ⟨envW ns p L n ps q1 q4 q5 q10 q11 q12 q13 q14 q15 q16 q17, hp⟩ = .ok (.lst (((keysP ps).take 1).map M.int)) ⟨envW ns p L n ps q1 q4 q5 q10 q11 q12 q13 q14 q15 q16 q17, hp⟩ := sl_hi (a := mv 7) (b := mc (.int 1)) (js := keysP ps) (k := 1) rfl rfl
  have it : iSeq (mSl (mv 7) oNo (oSome (mc (.int 1)))) ⟨envW ns p L n ps q1 q4 q5 q10 q11 q12 q13 q14 q15 q16 q17, hp⟩ = .ok (((keysP ps).take 1).map M.int) ⟨envW ns p L n ps q1 q4 q5 q10 q11 q12 q13 q14 q15 q16 q17, hp⟩ := by
    unfold iSeq
    rw [sl]
    rfl
  cases ps with
  | nil => exact ⟨hp, q5, for_of it rfl, s.lst, s.told⟩
  | cons z zs =>
    have k1 : z.1 ∈ keysP (Tp (z :: zs)) := ((srtP_perm (z :: zs)).map Prod.fst).mem_iff.mpr (by simp)
    have kb : KB (z.1 + 1) := by
      obtain ⟨⟨h1, h2⟩, _⟩ := nb z (by simp)
      have z29 : (10 : Int) ^ 29 = 100000000000000000000000000000 := by decide
      have z30 : (10 : Int) ^ 30 = 1000000000000000000000000000000 := by decide
      unfold KB
      rw [z29] at h1 h2
      rw [z30]
      omega
    have st := setitem_at (v := z.1 + 1) s.tab k1 kb R.srt.le
    have hne : d ≠ L := fun e => by
      have a := s.tab.d
      have b := s.lst
      rw [e, b] at a
      cases a
    have hf : HF hp (hp.set d (.dK (dm (updP (Tp (z :: zs)) z.1 (z.1 + 1))))) := hf_set0 s.tab.d fun z => z
    refine ⟨hp.set d (.dK (dm (updP (Tp (z :: zs)) z.1 (z.1 + 1)))), some (.int z.1), for_of it ?_, gset s.lst hne, fun e he => (s.told e he).hf hf⟩
    refine (sfor_nx (s1 := ⟨envW ns p L n (z :: zs) q1 q4 (some (.int z.1)) q10 q11 q12 q13 q14 q15 q16 q17, hp⟩) (s2 := ⟨envW ns p L n (z :: zs) q1 q4 (some (.int z.1)) q10 q11 q12 q13 q14 q15 q16 q17, hp.set d (.dK (dm (updP (Tp (z :: zs)) z.1 (z.1 + 1))))⟩) rfl ?_).trans rfl
    refine asgE (m := .int (z.1 + 1)) (s1 := ⟨envW ns p L n (z :: zs) q1 q4 (some (.int z.1)) q10 q11 q12 q13 q14 q15 q16 q17, hp⟩) rfl ?_
    show fSetI "Table" F_Table___setitem__ (fSetD fSetL) (.box n) (.int z.1) (.int (z.1 + 1)) ⟨envW ns p L n (z :: zs) q1 q4 (some (.int z.1)) q10 q11 q12 q13 q14 q15 q16 q17, hp⟩ = _
    unfold fSetI
    rw [if_pos (isIns_at (s := ⟨envW ns p L n (z :: zs) q1 q4 (some (.int z.1)) q10 q11 q12 q13 q14 q15 q16 q17, hp⟩) s.tab), st]
    rfl
theorem bls_true : ∀ l : List M, blsOf (l.map fun _ => M.bl true) = some (l.map fun _ => true)
  | [] => rfl
  | _ :: l => by
    show (blsOf (l.map fun _ => M.bl true)).map (true :: ·) = _
    rw [bls_true l]; rfl
theorem all_true : ∀ l : List M, (l.map fun _ => true).all id = true
  | [] => rfl
  | _ :: l => by
    show (true && (l.map fun _ => true).all id) = true
    rw [all_true l]; rfl
theorem c7_at (R : Rows ps) (hL : hp[L]? = some (.lst E)) (hE : E.length ≤ 20) (tl : ∀ e ∈ E, Told hp (Tp ps) e) :
    ∃ hp', C7 ⟨envW ns p L n ps q1 q4 q5 q10 q11 q12 q13 q14 q15 q16 q17, hp⟩ = .ok .nx ⟨envL ns q1 (some (.box p)) (some (.lst (rm ps))) q4 q5 (some (.box n)) (some (.lst ((keysP ps).map M.int))) (some (.tup (rm (Tp ps)))) (some (.lst E)) q10 q11 q12 q13 q14 q15 q16 q17, hp'⟩ := by
  have hf : HF hp (hp.set L .dead) := hf_set0 hL fun z => z
  have fz : sFz 9 ⟨envW ns p L n ps q1 q4 q5 q10 q11 q12 q13 q14 q15 q16 q17, hp⟩ = .ok .nx ⟨envL ns q1 (some (.box p)) (some (.lst (rm ps))) q4 q5 (some (.box n)) (some (.lst ((keysP ps).map M.int))) (some (.tup (rm (Tp ps)))) (some (.lst E)) q10 q11 q12 q13 q14 q15 q16 q17, hp.set L .dead⟩ := by
    unfold sFz
    show (match hp[L]? with
      | some (.lst ms) => Res.ok Fl.nx (⟨(envW ns p L n ps q1 q4 q5 q10 q11 q12 q13 q14 q15 q16 q17).set 9 (some (.lst ms)), hp.set L .dead⟩ : MS)
      | _ => .stuck) = _
    rw [hL]
    rfl
  have c := evb_lc (B := hp.set L .dead) (env := envL ns q1 (some (.box p)) (some (.lst (rm ps))) q4 q5 (some (.box n)) (some (.lst ((keysP ps).map M.int))) (some (.tup (rm (Tp ps)))) (some (.lst E)) q10 q11 q12 q13 q14 q15 q16 q17) (vs := [17, 14]) (it := iSeq (mv 9)) (tg := gTupN [17, 14]) (tt := mYes) (el := orE (mv 17)) (em := fun e : M => e) (f := fun _ => M.bl true) (p := fun _ => true) (xs := E)
    (fun hp k => ⟨hp, Ext.refl _, by rw [List.map_id']; rfl⟩) (by omega) fun e he => by
      obtain ⟨x, a1, b1, b, st, K, rfl, o, hb, g⟩ := (tl e he).hf hf
      refine ⟨envL ns q1 (some (.box p)) (some (.lst (rm ps))) q4 q5 (some (.box n)) (some (.lst ((keysP ps).map M.int))) (some (.tup (rm (Tp ps)))) (some (.lst E)) q10 q11 q12 q13 (some (.tup [stM st, .box b])) q15 q16 (some (.box x)), fun _ => rfl, fun hp k => ⟨hp, Ext.refl _, rfl⟩, fun _ hp k => ?_⟩
      obtain ⟨h6, e6, x6⟩ := oright_at (hp := hp) R (o.ext k) (k _ _ hb) g.g g.nK g.hK g.pos
      exact ⟨h6, x6, fn_of (F := F__law_outcome_right) (mcons_of (a := mv 17) (x := .box x) (mv_of rfl) (mcons_of (a := mv 3) (x := .lst (rm ps)) (mv_of rfl) (mone (a := mv 14) (x := .tup [stM st, .box b]) (mv_of rfl)))) e6⟩
  rw [List.filter_eq_self.mpr (fun _ _ => rfl)] at c
  obtain ⟨h7, x7, e7⟩ := c _ (Ext.refl _)
  have t : mCall (mCons C7c mNil) (cAll false) ⟨envL ns q1 (some (.box p)) (some (.lst (rm ps))) q4 q5 (some (.box n)) (some (.lst ((keysP ps).map M.int))) (some (.tup (rm (Tp ps)))) (some (.lst E)) q10 q11 q12 q13 q14 q15 q16 q17, hp.set L .dead⟩ = .ok (.bl true) ⟨envL ns q1 (some (.box p)) (some (.lst (rm ps))) q4 q5 (some (.box n)) (some (.lst ((keysP ps).map M.int))) (some (.tup (rm (Tp ps)))) (some (.lst E)) q10 q11 q12 q13 q14 q15 q16 q17, h7⟩ := by
    refine call_of (mone e7) ?_
    show (match blsOf (E.map fun _ => M.bl true) with
      | some bs => Res.ok (M.bl (if false = true then bs.any id else bs.all id)) ⟨envL ns q1 (some (.box p)) (some (.lst (rm ps))) q4 q5 (some (.box n)) (some (.lst ((keysP ps).map M.int))) (some (.tup (rm (Tp ps)))) (some (.lst E)) q10 q11 q12 q13 q14 q15 q16 q17, h7⟩
      | none => .stuck) = _
    rw [bls_true]
    dsimp only
    rw [if_neg (by decide), all_true]
  exact ⟨h7, seq_of fz ((if_of (not_of (b_of t))).trans rfl)⟩
end
end Lw
namespace Lw
open L2 Ma PySem.Spec PySem PyProof.Rows
section
variable {ns : List Int} {hp : List Cell} {p L n d : Nat} {c : Cell} {ps : List IP} {E : List M} {ru : Rl} {i : Int} {q1 q2 q3 q4 q5 q6 q7 q8 q9 q10 q11 q12 q13 q14 q15 q16 q17 : Option M}
theorem keys_at (hl : ps.length ≤ big) : mLc [5, 16] (iSeq (mv 3)) (gTupN [5, 16]) mYes (mv 5) ⟨envL ns q1 q2 (some (.lst (rm ps))) q4 q5 q6 q7 q8 q9 q10 q11 q12 q13 q14 q15 q16 q17, hp⟩ = .ok (.lst ((keysP ps).map M.int)) ⟨envL ns q1 q2 (some (.lst (rm ps))) q4 q5 q6 q7 q8 q9 q10 q11 q12 q13 q14 q15 q16 q17, hp⟩ := by
  have z := mlc_if (vs := [5, 16]) (it := iSeq (mv 3)) (tg := gTupN [5, 16]) (tt := mYes) (el := mv 5) (em := pM) (f := fun p => M.int p.1) (p := fun _ => true) (xs := ps) (s := ⟨envL ns q1 q2 (some (.lst (rm ps))) q4 q5 q6 q7 q8 q9 q10 q11 q12 q13 q14 q15 q16 q17, hp⟩) (s1 := ⟨envL ns q1 q2 (some (.lst (rm ps))) q4 q5 q6 q7 q8 q9 q10 q11 q12 q13 q14 q15 q16 q17, hp⟩) rfl hl
    fun x _ => ⟨⟨envL ns q1 q2 (some (.lst (rm ps))) q4 (some (.int x.1)) q6 q7 q8 q9 q10 q11 q12 q13 q14 q15 (some (.int x.2)) q17, hp⟩, envL ns q1 q2 (some (.lst (rm ps))) q4 (some (.int x.1)) q6 q7 q8 q9 q10 q11 q12 q13 q14 q15 (some (.int x.2)) q17, rfl, rfl, fun _ => ⟨_, rfl⟩⟩
  rw [List.filter_eq_self.mpr (fun _ _ => rfl)] at z
  rw [z, keysP, List.map_map]
  rfl
theorem cell_nx : ∃ p2 p3 p4 p5 p6 p7 p8 p9 p10 p11 p12 p13 p14 p15 hp', CELL ⟨envL ns (some (.int i)) q2 q3 q4 q5 q6 q7 q8 q9 q10 q11 q12 q13 q14 q15 q16 q17, hp⟩ = .ok .nx ⟨envL ns (some (.int i)) p2 p3 p4 p5 p6 p7 p8 p9 p10 p11 p12 p13 p14 p15 q16 q17, hp'⟩ := by
  have s1 : C1 ⟨envL ns (some (.int i)) q2 q3 q4 q5 q6 q7 q8 q9 q10 q11 q12 q13 q14 q15 q16 q17, hp⟩ = .ok .nx ⟨envL ns (some (.int i)) (some (.box hp.length)) q3 q4 q5 q6 q7 q8 q9 q10 q11 q12 q13 q14 q15 q16 q17, hp ++ [pen (if i - 10 ^ 18 > 0 then i - 10 ^ 18 else 0) (i % 2147483629) 1]⟩ := set_of (fn_of (F := F__law_pen) (s := ⟨envL ns (some (.int i)) q2 q3 q4 q5 q6 q7 q8 q9 q10 q11 q12 q13 q14 q15 q16 q17, hp⟩) (mone (a := mv 1) (mv_of rfl)) pen_at)
  have g0 : (hp ++ [pen (if i - 10 ^ 18 > 0 then i - 10 ^ 18 else 0) (i % 2147483629) 1])[hp.length]? = some (pen (if i - 10 ^ 18 > 0 then i - 10 ^ 18 else 0) (i % 2147483629) 1) := gapp 0 rfl
  obtain ⟨m, c1, hm, e1, p1⟩ := pick_at (ms := [.int 40, .int 8, .int 8, .int 5]) g0 (pen_of i) (by decide) (by decide)
  obtain ⟨mx, rfl, m0, m1⟩ : ∃ mx : Int, m = .int mx ∧ 0 ≤ mx ∧ mx ≤ 40 := by
    simp only [List.mem_cons, List.not_mem_nil, or_false] at hm
    rcases hm with rfl | rfl | rfl | rfl <;> exact ⟨_, rfl, by decide, by decide⟩
  obtain ⟨ps, c2, ex, e2, p2, R, nb, _, _⟩ := pairs_at m0 m1 (gsame g0) p1
  have e0 : mFn (mCons (mv 2) (mCons (mLst (mCons (mc (.int 40)) (mCons (mc (.int 8)) (mCons (mc (.int 8)) (mCons (mc (.int 5)) mNil))))) mNil)) F__law_pick ⟨envL ns (some (.int i)) (some (.box hp.length)) q3 q4 q5 q6 q7 q8 q9 q10 q11 q12 q13 q14 q15 q16 q17, hp ++ [pen (if i - 10 ^ 18 > 0 then i - 10 ^ 18 else 0) (i % 2147483629) 1]⟩ = .ok (.int mx) ⟨envL ns (some (.int i)) (some (.box hp.length)) q3 q4 q5 q6 q7 q8 q9 q10 q11 q12 q13 q14 q15 q16 q17, (hp ++ [pen (if i - 10 ^ 18 > 0 then i - 10 ^ 18 else 0) (i % 2147483629) 1]).set hp.length c1⟩ :=
    fn_of (F := F__law_pick) (s1 := ⟨envL ns (some (.int i)) (some (.box hp.length)) q3 q4 q5 q6 q7 q8 q9 q10 q11 q12 q13 q14 q15 q16 q17, hp ++ [pen (if i - 10 ^ 18 > 0 then i - 10 ^ 18 else 0) (i % 2147483629) 1]⟩) (ms := [.box hp.length, .lst [.int 40, .int 8, .int 8, .int 5]]) rfl e1
  have s2 : C2 ⟨envL ns (some (.int i)) (some (.box hp.length)) q3 q4 q5 q6 q7 q8 q9 q10 q11 q12 q13 q14 q15 q16 q17, hp ++ [pen (if i - 10 ^ 18 > 0 then i - 10 ^ 18 else 0) (i % 2147483629) 1]⟩ = .ok .nx ⟨envL ns (some (.int i)) (some (.box hp.length)) (some (.lst (rm ps))) q4 q5 q6 q7 q8 q9 q10 q11 q12 q13 q14 q15 q16 q17, ((hp ++ [pen (if i - 10 ^ 18 > 0 then i - 10 ^ 18 else 0) (i % 2147483629) 1]).set hp.length c1).set hp.length c2 ++ ex⟩ :=
    set_of (fn_of (F := F__law_pairs) (s1 := ⟨envL ns (some (.int i)) (some (.box hp.length)) q3 q4 q5 q6 q7 q8 q9 q10 q11 q12 q13 q14 q15 q16 q17, (hp ++ [pen (if i - 10 ^ 18 > 0 then i - 10 ^ 18 else 0) (i % 2147483629) 1]).set hp.length c1⟩) (ms := [.box hp.length, .int mx]) (mcons_of (a := mv 2) (x := .box hp.length) (s1 := ⟨envL ns (some (.int i)) (some (.box hp.length)) q3 q4 q5 q6 q7 q8 q9 q10 q11 q12 q13 q14 q15 q16 q17, hp ++ [pen (if i - 10 ^ 18 > 0 then i - 10 ^ 18 else 0) (i % 2147483629) 1]⟩) (mv_of rfl) (mone e0)) e2)
  have hc : ((((hp ++ [pen (if i - 10 ^ 18 > 0 then i - 10 ^ 18 else 0) (i % 2147483629) 1]).set hp.length c1).set hp.length c2 ++ ex))[hp.length]? = some c2 := glow (gsame (gsame g0))
  generalize (((hp ++ [pen (if i - 10 ^ 18 > 0 then i - 10 ^ 18 else 0) (i % 2147483629) 1]).set hp.length c1).set hp.length c2 ++ ex) = h2 at s2 hc
  have hpl : hp.length < h2.length := (List.getElem?_eq_some_iff.mp hc).1
  generalize hp.length = pp at s1 s2 hc hpl e0 e1 e2 g0
  -- the table
  have t0 := mk_tab (ps := []) (hp := h2)
  have a1 := tadd_of (env := envL ns (some (.int i)) (some (.box pp)) (some (.lst (rm ps))) q4 q5 q6 q7 q8 q9 q10 q11 q12 q13 q14 q15 q16 q17) (e := mCall (mCons (mv 3) mNil) cTup) (qs := ps) (hp := h2) (h2 := h2 ++ mkCells h2.length []) R rfl t0
  have tt := mk_tab (ps := ps) (hp := h2 ++ mkCells h2.length [])
  have hc3 : (h2 ++ mkCells h2.length [] ++ mkCells (h2 ++ mkCells h2.length []).length ps)[pp]? = some c2 := glow (glow hc)
  generalize (h2 ++ mkCells h2.length []).length = n at a1 tt hc3
  generalize h2 ++ mkCells h2.length [] ++ mkCells n ps = h3 at a1 tt hc3
  have a2 := keys_at (ps := ps) (ns := ns) (q1 := some (.int i)) (q2 := some (.box pp)) (q4 := q4) (q5 := q5) (q6 := q6) (q7 := q7) (q8 := q8) (q9 := q9) (q10 := q10) (q11 := q11) (q12 := q12) (q13 := q13) (q14 := q14) (q15 := q15) (q16 := q16) (q17 := q17) (hp := h3) (by have := R.le; show ps.length ≤ 16777216; omega)
  have s4 : C4 ⟨envL ns (some (.int i)) (some (.box pp)) (some (.lst (rm ps))) q4 q5 q6 q7 q8 q9 q10 q11 q12 q13 q14 q15 q16 q17, h2⟩ = .ok .nx ⟨envL ns (some (.int i)) (some (.box pp)) (some (.lst (rm ps))) q4 q5 (some (.box n)) (some (.lst ((keysP ps).map M.int))) q8 q9 q10 q11 q12 q13 q14 q15 q16 q17, h3⟩ := par2_of (mcons_of a1 (mone a2))
  -- the rows, the list
  have b1 := self_rows (env := []) (i := 6) (s := ⟨envL ns (some (.int i)) (some (.box pp)) (some (.lst (rm ps))) q4 q5 (some (.box n)) (some (.lst ((keysP ps).map M.int))) q8 q9 q10 q11 q12 q13 q14 q15 q16 q17, h3⟩) rfl tt R.srt.le
  have b12 : (mCons (mAt (mv 6) (oPrp "Table" F_Table_rows (fun _ _ => .stuck))) (mCons (mLstB mNil) mNil)) ⟨envL ns (some (.int i)) (some (.box pp)) (some (.lst (rm ps))) q4 q5 (some (.box n)) (some (.lst ((keysP ps).map M.int))) q8 q9 q10 q11 q12 q13 q14 q15 q16 q17, h3⟩ = .ok [.tup (rm (Tp ps)), .box h3.length] ⟨envL ns (some (.int i)) (some (.box pp)) (some (.lst (rm ps))) q4 q5 (some (.box n)) (some (.lst ((keysP ps).map M.int))) q8 q9 q10 q11 q12 q13 q14 q15 q16 q17, h3 ++ [.lst []]⟩ := mcons_of b1 (mone rfl)
  have s5 : C5 ⟨envL ns (some (.int i)) (some (.box pp)) (some (.lst (rm ps))) q4 q5 (some (.box n)) (some (.lst ((keysP ps).map M.int))) q8 q9 q10 q11 q12 q13 q14 q15 q16 q17, h3⟩ = .ok .nx ⟨envW ns pp h3.length n ps (some (.int i)) q4 q5 q10 q11 q12 q13 q14 q15 q16 q17, h3 ++ [.lst []]⟩ :=
    par2_of b12
  have hne : pp ≠ h3.length := by
    have := (List.getElem?_eq_some_iff.mp hc3).1
    omega
  have sx : Sx (h3 ++ [.lst []]) pp h3.length n (n + 2) (Tp ps) [] := ⟨⟨c2, p2, glow hc3⟩, gapp 0 rfl, ⟨glow tt.i, glow tt.d⟩, fun e he => absurd he List.not_mem_nil, hne⟩
  obtain ⟨h6, E6, o4, o10, o11, o12, o13, o14, o15, e6, x6, l6⟩ := words_at (ns := ns) (q1 := some (.int i)) (q4 := q4) (q5 := q5) (q10 := q10) (q11 := q11) (q12 := q12) (q13 := q13) (q14 := q14) (q15 := q15) (q16 := q16) (q17 := q17) R [.ab, .fa, .ig, .re] sx (by decide)
  have s6 : sForI WS (gSet 4) W4 ⟨envW ns pp h3.length n ps (some (.int i)) q4 q5 q10 q11 q12 q13 q14 q15 q16 q17, h3 ++ [.lst []]⟩ = _ := for_of (s1 := ⟨envW ns pp h3.length n ps (some (.int i)) q4 q5 q10 q11 q12 q13 q14 q15 q16 q17, h3 ++ [.lst []]⟩) (it := WS) rfl e6
  obtain ⟨h7, o5, e7, hL, tl⟩ := c6_at (ns := ns) (q1 := some (.int i)) (q4 := o4) (q5 := q5) (q10 := o10) (q11 := o11) (q12 := o12) (q13 := o13) (q14 := o14) (q15 := o15) (q16 := q16) (q17 := q17) R nb x6
  obtain ⟨h8, e8⟩ := c7_at (ns := ns) (p := pp) (n := n) (q1 := some (.int i)) (q4 := o4) (q5 := o5) (q10 := o10) (q11 := o11) (q12 := o12) (q13 := o13) (q14 := o14) (q15 := o15) (q16 := q16) (q17 := q17) R hL (by rw [l6]; decide) tl
  exact ⟨_, _, _, _, _, _, _, _, _, _, _, _, _, _, h8, seq_of s1 (seq_of s2 (seq_of s4 (seq_of s5 (seq_of s6 (seq_of e7 e8)))))⟩
theorem cells_at (is : List Int) : ∀ {hp : List Cell} {q1 q2 q3 q4 q5 q6 q7 q8 q9 q10 q11 q12 q13 q14 q15 : Option M}, ∃ p1 p2 p3 p4 p5 p6 p7 p8 p9 p10 p11 p12 p13 p14 p15 hp', sFor (gSet 1) CELL (is.map M.int) ⟨envL ns q1 q2 q3 q4 q5 q6 q7 q8 q9 q10 q11 q12 q13 q14 q15 q16 q17, hp⟩ = .ok .nx ⟨envL ns p1 p2 p3 p4 p5 p6 p7 p8 p9 p10 p11 p12 p13 p14 p15 q16 q17, hp'⟩ := by
  induction is with
  | nil => exact fun {hp q1 q2 q3 q4 q5 q6 q7 q8 q9 q10 q11 q12 q13 q14 q15} => ⟨q1, q2, q3, q4, q5, q6, q7, q8, q9, q10, q11, q12, q13, q14, q15, hp, rfl⟩
  | cons i is ih =>
    intro hp q1 q2 q3 q4 q5 q6 q7 q8 q9 q10 q11 q12 q13 q14 q15
    obtain ⟨a2, a3, a4, a5, a6, a7, a8, a9, a10, a11, a12, a13, a14, a15, hp1, e1⟩ := cell_nx (ns := ns) (i := i) (hp := hp) (q2 := q2) (q3 := q3) (q4 := q4) (q5 := q5) (q6 := q6) (q7 := q7) (q8 := q8) (q9 := q9) (q10 := q10) (q11 := q11) (q12 := q12) (q13 := q13) (q14 := q14) (q15 := q15) (q16 := q16) (q17 := q17)
    obtain ⟨p1, p2, p3, p4, p5, p6, p7, p8, p9, p10, p11, p12, p13, p14, p15, hp2, e2⟩ := ih (hp := hp1) (q1 := some (.int i)) (q2 := a2) (q3 := a3) (q4 := a4) (q5 := a5) (q6 := a6) (q7 := a7) (q8 := a8) (q9 := a9) (q10 := a10) (q11 := a11) (q12 := a12) (q13 := a13) (q14 := a14) (q15 := a15)
    exact ⟨p1, p2, p3, p4, p5, p6, p7, p8, p9, p10, p11, p12, p13, p14, p15, hp2, (sfor_nx (s1 := ⟨envL ns (some (.int i)) q2 q3 q4 q5 q6 q7 q8 q9 q10 q11 q12 q13 q14 q15 q16 q17, hp⟩) rfl e1).trans e2⟩
end
theorem cell_at (ns : List Int) (hp : List Cell) : ∃ i : Int, F__law_cell_at [.scr ns, .int 0] hp = .ok (.int i) hp := by
  cases ns with
  | nil => exact ⟨0, by kernel_rfl⟩
  | cons i r =>
    refine ⟨i, ?_⟩
    simp [F__law_cell_at, m__law_cell_at, posF, bodyF, starF, sSeq, sIf, sSet, sRet, sNx, sAsg, sExpr, sForI, sPut, fPut, putFM, Ma.gSub, gSet, fSetL, fSetD, fSetI, dictL, dictOf, oIxD, m2, mv, mc, mB, isB, mNot, mAnd, mOr, mAndV, mNotV, mCons, mNil, mCall, mFn, upF, mLst, mTup, mFld, oFld, fldM, cInt, cLenD, cLen, cMax, oIx, seqL, lstOf, itemsOf, oInt, oGt, oLt, oAdd, oSub, oMul, oDivW, oMod, yes, Res.bind, atI, ixN, mYes, mAt, oPrp, isIns, noErr, mItems, iSeq, mChain, mNeg, oInD, oEqK, oEqD, datT, dat, datL, big, upP, pBl, pNot, pNat, pTru, cDun, oDunR, oDunC, oDunN, oDun, tin, tyAt, oDunBs, oDunRf, oMulL, cMin, oInL, oIsN, Ma.isNon, gUnpN, gTupN, setM]
abbrev envN (ns : List Int) : List (Option M) := envL ns none none none none none none none none none none none none none none none none none
theorem it0_at {ns : List Int} (hl : ns.length ≤ 63) {hp : List Cell} : ∃ is : List Int, IT0 ⟨envN ns, hp⟩ = .ok (is.map M.int) ⟨envN ns, hp⟩ := by
  obtain ⟨q, e0⟩ := cell_at ns hp
  have ec : cutM (ns.map M.int) (some 1) (some 2) = ((ns.drop (HT.sIx (ns.map M.int).length 0 (some 1))).take (HT.sIx (ns.map M.int).length (ns.map M.int).length (some 2) - HT.sIx (ns.map M.int).length 0 (some 1))).map M.int := by
    unfold cutM; rw [List.map_take, List.map_drop]
  refine ⟨q :: ((ns.drop (HT.sIx (ns.map M.int).length 0 (some 1))).take (HT.sIx (ns.map M.int).length (ns.map M.int).length (some 2) - HT.sIx (ns.map M.int).length 0 (some 1))), ?_⟩
  have eA : mLst (mCons (mFn (mCons (mv 0) (mCons (mc (.int 0)) mNil)) F__law_cell_at) mNil) ⟨envN ns, hp⟩ = .ok (.lst [.int q]) ⟨envN ns, hp⟩ := by
    simp [mLst, mFn, mCons, mNil, mv, mc, Res.bind, upF, e0, big]
  have eB : mSl (mv 0) (oSome (mc (.int 1))) (oSome (mc (.int 2))) ⟨envN ns, hp⟩ = .ok (.lst (cutM (ns.map M.int) (some 1) (some 2))) ⟨envN ns, hp⟩ := rfl
  have eC : oAdd (.lst [.int q]) (.lst (cutM (ns.map M.int) (some 1) (some 2))) ⟨envN ns, hp⟩ = .ok (.lst ([.int q] ++ cutM (ns.map M.int) (some 1) (some 2))) ⟨envN ns, hp⟩ := by
    refine if_pos ?_
    rw [ec]
    simp only [List.length_cons, List.length_nil, List.length_map, List.length_take, List.length_drop, big]; omega
  unfold IT0 iSeq
  rw [m2_of eA eB eC, ec]
  rfl
theorem law_pure {ns : List Int} (hl : ns.length ≤ 63) : ∃ hp, F_law [.scr ns] [] = .ok (.bl true) hp := by
  obtain ⟨is, ei⟩ := it0_at hl (hp := [])
  obtain ⟨p1, p2, p3, p4, p5, p6, p7, p8, p9, p10, p11, p12, p13, p14, p15, hp, ef⟩ := cells_at (ns := ns) (q16 := none) (q17 := none) is (hp := []) (q1 := none) (q2 := none) (q3 := none) (q4 := none) (q5 := none) (q6 := none) (q7 := none) (q8 := none) (q9 := none) (q10 := none) (q11 := none) (q12 := none) (q13 := none) (q14 := none) (q15 := none)
  have e4 : m_law ⟨envN ns, []⟩ = .ok (.rt (.bl true)) ⟨envL ns p1 p2 p3 p4 p5 p6 p7 p8 p9 p10 p11 p12 p13 p14 p15 none none, hp⟩ := by
    rw [law_eq]
    exact (seq_nx (for_of ei ef)).trans (ret_of rfl)
  have e6 : bodyF 1 18 m_law [.scr ns] [] = .ok (.bl true) hp := by
    unfold bodyF
    rw [show m_law ⟨[M.scr ns].map some ++ List.replicate (18 - 1) none, []⟩ = _ from e4]
  exact ⟨hp, (show F_law [.scr ns] [] = bodyF 1 18 m_law [.scr ns] [] from rfl).trans e6⟩
end Lw
open PySem.W PySem PySem.Calls PyProof.Rows
theorem PySem.Challenge.cw_rowclash_k04_statements_executed_holds : PySem.Challenge.rw_rowclash_k04_statements_executed.Holds := by
  w_on; o_law
  refine HandSHeadRun.head_any (r := Lw.R) (q := view Lw.R.prog [57]) (H := Lw.hk) (ob := Lw.ob) (M := 15000) (loose := Lw.loose) (d := HandSHeadRun.topDef Lw.R.prog 57) (kwd := []) Lw.ob_eq
    (by kernel_rfl) (fun s => by kernel_rfl) Lw.run (by kernel_rfl) (by kernel_rfl) (by kernel_rfl) (by rfl) (by first | assumption | decide +kernel) (by decide +kernel) ⟨rfl, rfl, rfl, rfl, rfl, by decide +kernel⟩ ?hw ?hc
  case hw => w_witness2
  case hc =>
    refine Ma.walkT (l := PySem.Challenge.rw_rowclash_k04_statements_executed) (n := 63) (k := 9) rfl (by decide) (by kernel_rfl) ⟨rfl, by decide, by decide⟩ ?F
    intro w mg fa h Y G hmg0
    obtain ⟨K, KX, c, t⟩ := Y
    have hmg : mg ("law" : PySem.Str) = some (.ref fa) := by
      have e : (HandSHeadRun.topDef Lw.R.prog 57).name = ("law" : PySem.Str) := by kernel_rfl
      rw [← e]
      exact hmg0
    refine ⟨Lw.TT K, Lw.tbs K, Lw.F_law, KX, t.at_, t.no, fun p hp => PySem.W.codeHd_of_K KX (t.hd p hp), rfl, t.nd, fun ns hl => Lw.law_pure hl, fun base hb gb TB => ?_⟩
    obtain ⟨f, fp, hm, kp⟩ := (Lw.law_kn (w := w) (base := base) KX G c t TB).ex
    rw [hmg] at hm
    cases hm
    exact fp
#print axioms PySem.Challenge.cw_rowclash_k04_statements_executed_holds
