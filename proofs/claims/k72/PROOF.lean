import PyProof.Rows.All
import Wide.All
import OpenK.AllK
import Wide.FinOn
import HandS.ForMost
import HandS.Exc
import HandS.Lambda
import HandS.Set
import HandS.Walk
import HandS.Style
import HandS.TupAny
import HandS.WideBits
import HandS.Conv
import HandS.WordsExc
import HandS.HeadEnd
import HandS.EndTab
import HandS.Star
import HandS.Property
import KE.KOpsOwn
import HandS.ExcInit
import HandS.ExcIs
import HandS.ExcField
import HandS.ExcValue
import HandS.IsInst
import KE.KExcIs
import KE.KExcSuper
import KE.KExcMake
import KE.KCount
import KE.DataFind
import HandS.Deep
import HandS.List
import PyProof.ReprRoads
import HandS.RaiseMore
import HandS.Codes
import KE.KSuper
import KE.KSuperObj
import HandS.FStr
import HandS.Head0
import HandS.Head1
import HandS.Head2
import HandS.HeadHook1
import HandS.HeadHook2
import HandS.HeadHook4
import HandS.HeadNt
import HandS.SlotsOwn
import HandS.WordsDict
import HandS.NamedTupSort
import PyProof.InstNe
import PyProof.TupleOfSeq
import KE.KItemsList
import HandS.ListItems
import HandS.Iter
import HandS.DictComp
import HandS.SortRule
import HandS.SortInts
import HandS.Zip
import OpenK.KOps
import PyProof.Conv_bool
import PyProof.ListTruth
import HandS.OwnEq
import PyProof.EqKinds
import HandS.NoneIn
import PyProof.ReprLen
import PyProof.Rows.ReprOcc
import HandS.ExcOwn
import HandS.HotCalls
import HandS.TupMul
import KE.KCallOwn
import HandS.Defaults
import PyProof.FactsAll.int
import PyProof.FactsAll.bool
import HandS.Wide
import KE.KToBytes
import KE.KFromBytes
import KE.KBytesMore
import HandS.Bytes
import HandS.BytesMake
import HandS.More
import HandS.ToBytes
import KE.BytesMul
import KE.KBytesStep
import KE.SortData
import HandS.SetFor
import HandS.Strs
import KE.DataMinMax
import HandS.SetKeys
import PyProof.SetRoads
import HandS.MakeKwOnly
import KE.DataMinKey
import KE.KRevSl
import KE.SortKeyHeap
import HandS.Keys
import HandS.SortKw
import PyProof.FitsReplace
import PySem.Challenge.RW_rowclash_k72_statements_planned
set_option Elab.async false
set_option linter.all false
set_option maxRecDepth 100000
set_option maxHeartbeats 0
/-! Ma1: the mirror machine: its values, its state, what a piece of code comes to. -/
namespace Ma
open L2 PySem
/-- values: tuples, and lists and dicts that nobody changes any more, are data; what may still change is a box -/
inductive M where
  | non | bl (b : Bool) | int (i : Int) | str (x : Str) | byt (b : Array UInt8)
  | tup (ms : List M) | lst (ms : List M) | dct (ks : List Key) (ms : List M)
  | scr (ns : List Int) | box (n : Nat) | exn (c : Str) (ns : List Str) (ms : List M) | cls (c : Str) | ty (n : String) | raw (a : Addr) | set (ks : List Int)
/-- what lies in a box -/
inductive Cell where
  | lst (ms : List M) | dK (kms : List (Key × M)) | dF (kms : List (Key × M)) | ins (c : Str) (fms : List (Str × M)) | dead
structure MS where
  env : List (Option M)
  hp : List Cell
structure Exc where
  c : Str
  ns : List Str
  ms : List M
inductive Res (α : Type) where
  | ok (a : α) (s : MS)
  | err (x : Exc) (s : MS)
  | stuck
def Res.bind {α β : Type} : Res α → (α → MS → Res β) → Res β
  | .ok a s, f => f a s
  | .err x s, _ => .err x s
  | .stuck, _ => .stuck
abbrev ME := MS → Res M
/-- expressions in a row -/
abbrev MA := MS → Res (List M)
abbrev MT := MS → Res Bool
inductive Fl where
  | nx | rt (m : M) | bk | ct
abbrev MStm := MS → Res Fl
/-- what a def comes to -/
inductive ResF where
  | ok (m : M) (hp : List Cell)
  | err (x : Exc) (hp : List Cell)
  | stuck
abbrev Fn := List M → List Cell → ResF
end Ma
/-! Ma2: how the machine's state stands to the layer's heap. -/
namespace Ma
open L2 PySem
/-- what is fixed: the written part, the own classes by name -/
structure Tab where
  K : PySem.W.Frag
  ad : Str → Option Addr
  tb : List (Addr × Str) := []
/-- where the boxes stand; what is frozen -/
structure Gh where
  ro : List Addr
  fz : Addr → Prop
/-- a set of ints -/
def SetI (a : Addr) (ks : List Int) : HO := .ext fun h => ∃ (w : World) (n : Nat), L2.SetR w h a (fun j => decide (j ∈ ks)) n
/-- a list of ints that the written part holds -/
def Wr (K : PySem.W.Frag) (a : Addr) (ns : List Int) : Prop := ∀ H : Hp, SqL K H a (ns.map V.int)
def XO (C : Value) (d : Option Addr) (a : Addr) : HO := .ext fun h => ∃ (oe : Obj) (vs : Array Value), h.get? a = some oe ∧ Zc C d oe ∧ oe.data = .fields vs
/-- an exception of the class at C with these fields -/
def XAt (fz : Addr → Prop) (H : Hp) (a C : Addr) (ns : List Str) (vs : List V) : Prop :=
  ns.length = vs.length ∧ fz a ∧ ∃ d : Option Addr, H a = some (XO (.ref C) d a) ∧ match d with
    | none => ns = []
    | some dx => fz dx ∧ H dx = some (.xd (ns.zip vs))
mutual
inductive RV (T : Tab) (g : Gh) (H : Hp) : M → V → Prop
  | non : RV T g H .non .non
  | bl (b : Bool) : RV T g H (.bl b) (.bl b)
  | int (i : Int) : RV T g H (.int i) (.int i)
  | str (x : Str) : RV T g H (.str x) (.str x)
  | byt (b : Array UInt8) : RV T g H (.byt b) (.byt b)
  | tup {a : Addr} {ms : List M} {vs : List V} : H a = some (.tup vs) → RVs T g H ms vs → RV T g H (.tup ms) (.ref a)
  | lst {a : Addr} {ms : List M} {vs : List V} : g.fz a → H a = some (.lst vs) → RVs T g H ms vs → RV T g H (.lst ms) (.ref a)
  | dct {a : Addr} {o : Obj} {ks : List Key} {ms : List M} {vs : List V} : g.fz a → ks.length = vs.length → H a = some (.frz o (.dK (ks.zip vs))) → RVs T g H ms vs → RV T g H (.dct ks ms) (.ref a)
  | scr {a : Addr} {o : Obj} {ns : List Int} : g.fz a → H a = some (.frz o (.lst (ns.map V.int))) → RV T g H (.scr ns) (.ref a)
  | scrK {a : Addr} {ns : List Int} : Wr T.K a ns → RV T g H (.scr ns) (.ref a)
  | box {n : Nat} {a : Addr} : g.ro[n]? = some a → RV T g H (.box n) (.ref a)
  | exn {a C : Addr} {c : Str} {ns : List Str} {ms : List M} {vs : List V} : T.ad c = some C → XAt g.fz H a C ns vs → RVs T g H ms vs → RV T g H (.exn c ns ms) (.ref a)
  | cls {c : Str} {C : Addr} : T.ad c = some C → RV T g H (.cls c) (.ref C)
  | ty (n : String) : RV T g H (.ty n) (.ty n)
  | raw (a : Addr) : RV T g H (.raw a) (.ref a)
  | set {a : Addr} {ks : List Int} : g.fz a → H a = some (SetI a ks) → RV T g H (.set ks) (.ref a)
inductive RVs (T : Tab) (g : Gh) (H : Hp) : List M → List V → Prop
  | nil : RVs T g H [] []
  | cons {m : M} {v : V} {ms : List M} {vs : List V} : RV T g H m v → RVs T g H ms vs → RVs T g H (m :: ms) (v :: vs)
end
/-- what was a value stays one -/
structure MonoB (g : Gh) (H : Hp) (g' : Gh) (H' : Hp) : Prop where
  ro : g.ro <+: g'.ro
  fz : ∀ a, g.fz a → g'.fz a
  fh : ∀ a, g.fz a → H' a = H a
  tup : ∀ a vs, H a = some (.tup vs) → H' a = some (.tup vs)
/-- and what is locked stays locked -/
structure Mono (g : Gh) (H : Hp) (g' : Gh) (H' : Hp) : Prop extends MonoB g H g' H' where
  fr : ∀ a o u, H a = some (.frz o u) → H' a = some (.frz o u)
instance {g g' : Gh} {H H' : Hp} : Coe (Mono g H g' H') (MonoB g H g' H') := ⟨Mono.toMonoB⟩
section
variable {T : Tab} {g g1 g2 : Gh} {H H1 H2 : Hp}
theorem Mono.refl (g : Gh) (H : Hp) : Mono g H g H := ⟨⟨List.prefix_refl _, fun _ h => h, fun _ _ => rfl, fun _ _ h => h⟩, fun _ _ _ h => h⟩
theorem Mono.trans (a : Mono g H g1 H1) (b : Mono g1 H1 g2 H2) : Mono g H g2 H2 :=
  ⟨⟨a.ro.trans b.ro, fun x h => b.fz x (a.fz x h), fun x h => (b.fh x (a.fz x h)).trans (a.fh x h), fun x vs h => b.tup x vs (a.tup x vs h)⟩, fun x o u h => b.fr x o u (a.fr x o u h)⟩
theorem MonoB.at (a : MonoB g H g1 H1) {n : Nat} {x : Addr} (h : g.ro[n]? = some x) : g1.ro[n]? = some x := by
  obtain ⟨t, e⟩ := a.ro
  rw [← e, List.getElem?_append_left (by
    have := List.getElem?_eq_some_iff.mp h
    exact this.1)]
  exact h
theorem Mono.at (a : Mono g H g1 H1) {n : Nat} {x : Addr} (h : g.ro[n]? = some x) : g1.ro[n]? = some x := a.toMonoB.at h
mutual
theorem RV.monoB (q : MonoB g H g1 H1) : ∀ {m : M} {v : V}, RV T g H m v → RV T g1 H1 m v
  | _, _, .non => .non
  | _, _, .bl b => .bl b
  | _, _, .int i => .int i
  | _, _, .str x => .str x
  | _, _, .byt b => .byt b
  | _, _, .tup e r => .tup (q.tup _ _ e) (RVs.monoB q r)
  | _, _, .lst f e r => .lst (q.fz _ f) ((q.fh _ f).trans e) (RVs.monoB q r)
  | _, _, .dct f l e r => .dct (q.fz _ f) l ((q.fh _ f).trans e) (RVs.monoB q r)
  | _, _, .scr f e => .scr (q.fz _ f) ((q.fh _ f).trans e)
  | _, _, .scrK e => .scrK e
  | _, _, .box e => .box (q.at e)
  | _, _, .exn e x r => .exn e (by
      obtain ⟨l, f, d, hd, y⟩ := x
      refine ⟨l, q.fz _ f, d, (q.fh _ f).trans hd, ?_⟩
      cases d with
      | none => exact y
      | some dx => exact ⟨q.fz _ y.1, (q.fh _ y.1).trans y.2⟩) (RVs.monoB q r)
  | _, _, .cls e => .cls e
  | _, _, .ty n => .ty n
  | _, _, .raw a => .raw a
  | _, _, .set f e => .set (q.fz _ f) ((q.fh _ f).trans e)
theorem RVs.monoB (q : MonoB g H g1 H1) : ∀ {ms : List M} {vs : List V}, RVs T g H ms vs → RVs T g1 H1 ms vs
  | _, _, .nil => .nil
  | _, _, .cons r s => .cons (RV.monoB q r) (RVs.monoB q s)
end
theorem RV.mono (q : Mono g H g1 H1) {m : M} {v : V} (r : RV T g H m v) : RV T g1 H1 m v := r.monoB q.toMonoB
theorem RVs.mono (q : Mono g H g1 H1) {ms : List M} {vs : List V} (r : RVs T g H ms vs) : RVs T g1 H1 ms vs := r.monoB q.toMonoB
theorem RVs.length : ∀ {ms : List M} {vs : List V}, RVs T g H ms vs → ms.length = vs.length
  | _, _, .nil => rfl
  | _, _, .cons _ s => congrArg Nat.succ (RVs.length s)
theorem RVs.get : ∀ {ms : List M} {vs : List V} {i : Nat} {m : M}, RVs T g H ms vs → ms[i]? = some m → ∃ v, vs[i]? = some v ∧ RV T g H m v
  | _, _, _, _, .nil, e => by simp at e
  | _, _, 0, _, .cons r _, e => by simp at e; subst e; exact ⟨_, rfl, r⟩
  | _, _, i + 1, m, .cons _ s, e => by
    obtain ⟨v, h1, h2⟩ := RVs.get (i := i) (m := m) s (by simpa using e)
    exact ⟨v, by simpa using h1, h2⟩
theorem RVs.app : ∀ {ms ns : List M} {vs ws : List V}, RVs T g H ms vs → RVs T g H ns ws → RVs T g H (ms ++ ns) (vs ++ ws)
  | _, _, _, _, .nil, s => s
  | _, _, _, _, .cons r t, s => .cons r (RVs.app t s)
theorem RVs.take : ∀ {ms : List M} {vs : List V} (n : Nat), RVs T g H ms vs → RVs T g H (ms.take n) (vs.take n)
  | _, _, 0, _ => .nil
  | _, _, _ + 1, .nil => .nil
  | _, _, n + 1, .cons r t => .cons r (RVs.take n t)
theorem RVs.drop : ∀ {ms : List M} {vs : List V} (n : Nat), RVs T g H ms vs → RVs T g H (ms.drop n) (vs.drop n)
  | _, _, 0, r => r
  | _, _, _ + 1, .nil => .nil
  | _, _, n + 1, .cons _ t => RVs.drop n t
theorem RVs.set : ∀ {ms : List M} {vs : List V} {m : M} {v : V} (n : Nat), RVs T g H ms vs → RV T g H m v → RVs T g H (ms.set n m) (vs.set n v)
  | _, _, _, _, _, .nil, _ => .nil
  | _, _, _, _, 0, .cons _ t, r => .cons r t
  | _, _, _, _, n + 1, .cons q t, r => .cons q (RVs.set n t r)
theorem RVs.erase : ∀ {ms : List M} {vs : List V} (n : Nat), RVs T g H ms vs → RVs T g H (ms.eraseIdx n) (vs.eraseIdx n)
  | _, _, _, .nil => .nil
  | _, _, 0, .cons _ t => t
  | _, _, n + 1, .cons q t => .cons q (RVs.erase n t)
theorem RVs.ints : ∀ (ns : List Int), RVs T g H (ns.map M.int) (ns.map V.int)
  | [] => .nil
  | n :: ns => .cons (.int n) (RVs.ints ns)
end
/-! ### boxes -/
/-- named values -/
inductive RFs {κ : Type} (T : Tab) (g : Gh) (H : Hp) : List (κ × M) → List (κ × V) → Prop
  | nil : RFs T g H [] []
  | cons {k : κ} {m : M} {v : V} {fs : List (κ × M)} {vs : List (κ × V)} : RV T g H m v → RFs T g H fs vs → RFs T g H ((k, m) :: fs) ((k, v) :: vs)
theorem RFs.monoB {κ : Type} {T : Tab} {g g1 : Gh} {H H1 : Hp} (q : MonoB g H g1 H1) : ∀ {fs : List (κ × M)} {vs : List (κ × V)}, RFs T g H fs vs → RFs T g1 H1 fs vs
  | _, _, .nil => .nil
  | _, _, .cons r s => .cons (r.monoB q) (RFs.monoB q s)
theorem RFs.mono {κ : Type} {T : Tab} {g g1 : Gh} {H H1 : Hp} (q : Mono g H g1 H1) {fs : List (κ × M)} {vs : List (κ × V)} (r : RFs T g H fs vs) : RFs T g1 H1 fs vs := r.monoB q.toMonoB
theorem RFs.length {κ : Type} {T : Tab} {g : Gh} {H : Hp} : ∀ {fs : List (κ × M)} {vs : List (κ × V)}, RFs T g H fs vs → fs.length = vs.length
  | _, _, .nil => rfl
  | _, _, .cons _ s => congrArg Nat.succ (RFs.length s)
theorem RFs.keys {κ : Type} {T : Tab} {g : Gh} {H : Hp} : ∀ {fs : List (κ × M)} {vs : List (κ × V)}, RFs T g H fs vs → fs.map (·.1) = vs.map (·.1)
  | _, _, .nil => rfl
  | _, _, .cons _ s => congrArg _ (RFs.keys s)
theorem RFs.get {κ : Type} {T : Tab} {g : Gh} {H : Hp} : ∀ {fs : List (κ × M)} {vs : List (κ × V)} {i : Nat} {k : κ} {m : M}, RFs T g H fs vs → fs[i]? = some (k, m) → ∃ v, vs[i]? = some (k, v) ∧ RV T g H m v
  | _, _, _, _, _, .nil, e => by simp at e
  | _, _, 0, _, _, .cons r _, e => by
    simp at e
    obtain ⟨rfl, rfl⟩ := e
    exact ⟨_, rfl, r⟩
  | _, _, i + 1, k, m, .cons _ s, e => by
    obtain ⟨v, h1, h2⟩ := RFs.get (i := i) (k := k) (m := m) s (by simpa using e)
    exact ⟨v, by simpa using h1, h2⟩
def CellR (T : Tab) (g : Gh) (H : Hp) : Cell → Addr → Prop
  | .lst ms, a => ∃ vs, H a = some (.lst vs) ∧ RVs T g H ms vs
  | .dK kms, a => ∃ kvs, H a = some (.dK kvs) ∧ RFs T g H kms kvs
  | .dF kms, a => ∃ o kvs, H a = some (.frz o (.dK kvs)) ∧ RFs T g H kms kvs
  | .ins c fms, a => ∃ C dx fvs, T.ad c = some C ∧ H a = some (.ins C dx fvs) ∧ RFs T g H fms fvs
  | .dead, _ => True
def Live : Cell → Prop
  | .dead => False
  | .dF _ => False
  | _ => True
/-- what may still change, locked or not -/
def Own : Cell → Prop
  | .dead => False
  | _ => True
theorem Live.own {c : Cell} (h : Live c) : Own c := by cases c <;> first | exact h.elim | trivial
/-- no code object of a lambda, no fields of an exception -/
structure NoCX (o : HO) : Prop where
  code : ∀ c q, o ≠ LamX.CodeO c q
  xd : ∀ fs, o ≠ .xd fs
/-- nor a table of code objects -/
structure Plain (o : HO) : Prop extends NoCX o where
  tbl : ∀ ps, o ≠ .tbl ps
/-- no table -/
def NoTbl (o : HO) : Prop := ∀ ps, o ≠ .tbl ps
/-- the tables of code objects that lambdas are kept in -/
structure TbOk (tb : List (Addr × Str)) (g : Gh) (H : Hp) : Prop where
  tab : ∀ p ∈ tb, LamX.TabS H p.1 p.2 ∧ p.1 ∈ g.ro ∧ ¬ g.fz p.1
  only : ∀ a ps, H a = some (.tbl ps) → ∃ p ∈ tb, p.1 = a
  roc : ∀ a ∈ g.ro, ∀ o, H a = some o → NoCX o
section
variable {tb : List (Addr × Str)} {g : Gh} {H H' : Hp} {p : Addr} {o : HO}
theorem tabS_upd {P : Addr} {q : Str} (t : LamX.TabS H P q) (h : ∀ u, H p = some u → Plain u) : LamX.TabS (upd H p o) P q := by
  obtain ⟨ps, h1, h2, h3⟩ := t
  have n1 : P ≠ p := fun z => by subst z; exact (h _ h1).tbl ps rfl
  refine ⟨ps, by rw [upd_ne n1]; exact h1, h2, fun pos cv hc => ?_⟩
  obtain ⟨c, e1, e2⟩ := h3 pos cv hc
  have n2 : c ≠ p := fun z => by subst z; exact (h _ e2).code _ _ rfl
  exact ⟨c, e1, by rw [upd_ne n2]; exact e2⟩
/-- a new object, or another content of a plain one -/
theorem TbOk.upd (t : TbOk tb g H) (h : ∀ u, H p = some u → Plain u) (ho : NoTbl o) (hc : p ∈ g.ro → Plain o) : TbOk tb g (upd H p o) := by
  refine ⟨fun x hx => ?_, fun a ps z => ?_, fun a ha u z => ?_⟩
  · obtain ⟨h1, h2, h3⟩ := t.tab x hx
    exact ⟨tabS_upd h1 h, h2, h3⟩
  · by_cases e : a = p
    · subst e; rw [upd_same] at z; exact absurd (Option.some.inj z) (ho ps)
    · rw [upd_ne e] at z; exact t.only a ps z
  · by_cases e : a = p
    · subst e; rw [upd_same] at z; exact Option.some.inj z ▸ (hc ha).toNoCX
    · rw [upd_ne e] at z; exact t.roc a ha u z
/-- one more frozen place -/
theorem TbOk.more {fz : Addr → Prop} (t : TbOk tb g H) (h : ∀ a, fz a → g.fz a ∨ ∃ u, H a = some u ∧ NoTbl u) : TbOk tb ⟨g.ro, fz⟩ H := by
  refine ⟨fun x hx => ?_, t.only, t.roc⟩
  obtain ⟨h1, h2, h3⟩ := t.tab x hx
  refine ⟨h1, h2, fun f => ?_⟩
  rcases h x.1 f with z | ⟨u, z, n⟩
  · exact h3 z
  · obtain ⟨ps, e, _⟩ := h1
    rw [z] at e
    exact n ps (Option.some.inj e)
/-- one more box -/
theorem TbOk.box (t : TbOk tb g H) (h : ∀ u, H p = some u → Plain u) : TbOk tb ⟨g.ro ++ [p], g.fz⟩ H := by
  refine ⟨fun x hx => ?_, t.only, fun a ha u z => ?_⟩
  · obtain ⟨h1, h2, h3⟩ := t.tab x hx
    exact ⟨h1, List.mem_append_left _ h2, h3⟩
  · have ha : a ∈ g.ro ++ [p] := ha
    rcases List.mem_append.mp ha with y | y
    · exact t.roc a y u z
    · simp at y; subst y; exact (h _ z).toNoCX
end
theorem plain_lst {vs : List V} : Plain (.lst vs) := by exact ⟨⟨fun _ _ z => (by unfold LamX.CodeO at z; cases z), fun _ z => (by cases z)⟩, fun _ z => (by cases z)⟩
theorem plain_dK {vs : List (Key × V)} : Plain (.dK vs) := by exact ⟨⟨fun _ _ z => (by unfold LamX.CodeO at z; cases z), fun _ z => (by cases z)⟩, fun _ z => (by cases z)⟩
theorem plain_frz {o : Obj} {u : HO} : Plain (.frz o u) := by exact ⟨⟨fun _ _ z => (by unfold LamX.CodeO at z; cases z), fun _ z => (by cases z)⟩, fun _ z => (by cases z)⟩
theorem plain_ins {C dx : Addr} {vs : List (Str × V)} : Plain (.ins C dx vs) := by exact ⟨⟨fun _ _ z => (by unfold LamX.CodeO at z; cases z), fun _ z => (by cases z)⟩, fun _ z => (by cases z)⟩
/-- the entry of a def: its ghosts, its heap -/
structure En where
  g : Gh
  H : Hp
structure RelH (T : Tab) (e : En) (g : Gh) (hp : List Cell) (H : Hp) : Prop where
  len : g.ro.length = hp.length
  nd : g.ro.Nodup
  cell : ∀ (n : Nat) (c : Cell) (a : Addr), hp[n]? = some c → g.ro[n]? = some a → CellR T g H c a
  thaw : ∀ (n : Nat) (c : Cell) (a : Addr), hp[n]? = some c → g.ro[n]? = some a → Own c → ¬ g.fz a
  fzt : ∀ a, g.fz a → ∃ o, H a = some o
  rot : ∀ a ∈ g.ro, ∃ o, H a = some o
  frm : ∀ a o, e.H a = some o → a ∉ e.g.ro → H a = some o
  nfz : ∀ a, g.fz a → e.g.fz a ∨ e.H a = none ∨ a ∈ e.g.ro
  nro : ∀ a ∈ g.ro, a ∈ e.g.ro ∨ e.H a = none
  m0 : Mono e.g e.H g H
  tb : TbOk T.tb g H
  tbe : ∀ p ∈ T.tb, p.1 ∈ e.g.ro
theorem CellR.plain {T : Tab} {g : Gh} {H : Hp} {c : Cell} {a : Addr} (h : CellR T g H c a) (o : Own c) {u : HO} (e : H a = some u) : Plain u := by
  cases c with
  | lst ms => obtain ⟨vs, h1, _⟩ := h; rw [e] at h1; cases h1; exact plain_lst
  | dK ms => obtain ⟨vs, h1, _⟩ := h; rw [e] at h1; cases h1; exact plain_dK
  | dF ms => obtain ⟨_, vs, h1, _⟩ := h; rw [e] at h1; cases h1; exact plain_frz
  | ins c ms => obtain ⟨_, _, vs, _, h1, _⟩ := h; rw [e] at h1; cases h1; exact plain_ins
  | dead => exact o.elim
structure Rel (T : Tab) (e : En) (g : Gh) (s : MS) (σ : L2.St) (H : Hp) : Prop where
  h : RelH T e g s.hp H
  len : s.env.length = σ.length
  sl : ∀ (i : Nat) (m : M) (v : Option V), s.env[i]? = some (some m) → σ[i]? = some v → ∃ x, v = some x ∧ RV T g H m x
section
variable {T : Tab} {e : En} {g g1 : Gh} {H H1 : Hp} {s : MS} {σ : L2.St} {hp : List Cell}
theorem CellR.monoB (q : MonoB g H g1 H1) {c : Cell} {a : Addr} (h : H1 a = H a) (r : CellR T g H c a) : CellR T g1 H1 c a := by
  cases c with
  | lst ms => obtain ⟨vs, h1, h2⟩ := r; exact ⟨vs, h.trans h1, h2.monoB q⟩
  | dK kms => obtain ⟨vs, h1, h2⟩ := r; exact ⟨vs, h.trans h1, h2.monoB q⟩
  | dF kms => obtain ⟨o, vs, h1, h2⟩ := r; exact ⟨o, vs, h.trans h1, h2.monoB q⟩
  | ins c fms => obtain ⟨C, dx, vs, l, h1, h2⟩ := r; exact ⟨C, dx, vs, l, h.trans h1, h2.monoB q⟩
  | dead => trivial
theorem CellR.mono (q : Mono g H g1 H1) {c : Cell} {a : Addr} (h : H1 a = H a) (r : CellR T g H c a) : CellR T g1 H1 c a := r.monoB q.toMonoB h
theorem Rel.get (r : Rel T e g s σ H) {i : Nat} {m : M} (h : s.env[i]? = some (some m)) : ∃ x, σ[i]? = some (some x) ∧ RV T g H m x := by
  have hi : i < σ.length := by
    rw [← r.len]
    exact (List.getElem?_eq_some_iff.mp h).1
  obtain ⟨x, e, q⟩ := r.sl i m σ[i] h (List.getElem?_eq_getElem hi)
  exact ⟨x, by rw [List.getElem?_eq_getElem hi, e], q⟩
/-- the slots stand while the values do -/
theorem Rel.envB (r : Rel T e g s σ H) (q : MonoB g H g1 H1) (h : RelH T e g1 hp H1) : Rel T e g1 ⟨s.env, hp⟩ σ H1 :=
  ⟨h, r.len, fun i m v h1 h2 => by
    obtain ⟨x, e, z⟩ := r.sl i m v h1 h2
    exact ⟨x, e, z.monoB q⟩⟩
theorem Rel.env (r : Rel T e g s σ H) (q : Mono g H g1 H1) (h : RelH T e g1 hp H1) : Rel T e g1 ⟨s.env, hp⟩ σ H1 := r.envB q.toMonoB h
theorem Rel.put (r : Rel T e g s σ H) {i : Nat} {m : M} {v : V} (h : RV T g H m v) : Rel T e g ⟨s.env.set i (some m), s.hp⟩ (σ.set i (some v)) H := by
  refine ⟨r.h, by simp [r.len], fun j m' v' h1 h2 => ?_⟩
  have h1 : (s.env.set i (some m))[j]? = some (some m') := h1
  rw [List.getElem?_set] at h1 h2
  by_cases hij : i = j
  · rw [if_pos hij] at h1 h2
    split at h1
    · split at h2
      · cases h1; cases h2; exact ⟨v, rfl, h⟩
      · cases h2
    · cases h1
  · rw [if_neg hij] at h1 h2
    exact r.sl j m' v' h1 h2
end
end Ma
/-! Ma3: the machine's code as readings; expressions, tests, statements. -/
namespace Ma
open L2 PySem
/-- where a piece of code stands -/
structure MC where
  X : Cx
  T : Tab
  e : En
  W : WX
  hK : X.K = T.K
/-- an exception in the machine and in the layer -/
def XR (T : Tab) (g : Gh) (H : Hp) (x : Exc) (cls : Value) (d : Option Addr) : Prop :=
  ∃ C, T.ad x.c = some C ∧ cls = .ref C ∧ match d with
    | none => x.ns = [] ∧ x.ms = []
    | some dx => ∃ vs, x.ns.length = vs.length ∧ H dx = some (.xd (x.ns.zip vs)) ∧ RVs T g H x.ms vs
abbrev MC.rel (C : MC) (g : Gh) (s : MS) (σ : L2.St) (H : Hp) : Prop := Rel C.T C.e g s σ H
/-- what a piece's end has to give -/
def Go {α β : Type} (C : MC) (R : Gh → Hp → α → β → Prop) (σ : L2.St) (r : Res α) (g : Gh) (H : Hp) (Q : β → Hp → Prop) : Prop :=
  match r with
  | .ok m s => ∀ (g' : Gh) (H' : Hp) (v : β), Mono g H g' H' → C.rel g' s σ H' → R g' H' m v → Q v H'
  | .err x s => ∀ (g' : Gh) (H' : Hp) (cls : Value) (d : Option Addr), Mono g H g' H' → C.rel g' s σ H' → XR C.T g' H' x cls d → C.W cls d σ H'
  | .stuck => False
abbrev MC.V1 (C : MC) : Gh → Hp → M → V → Prop := fun g H m v => RV C.T g H m v
abbrev MC.Vn (C : MC) : Gh → Hp → List M → List V → Prop := fun g H m v => RVs C.T g H m v
def REq {α : Type} : Gh → Hp → α → α → Prop := fun _ _ a b => a = b
section
variable {C : MC} {α β γ δ : Type} {R : Gh → Hp → α → β → Prop} {S : Gh → Hp → γ → δ → Prop} {σ : L2.St} {g g1 : Gh} {H H1 : Hp}
theorem Go.later {r : Res α} {Q : β → Hp → Prop} (m : Mono g H g1 H1) (h : Go C R σ r g H Q) : Go C R σ r g1 H1 Q := by
  cases r with
  | ok a s => exact fun g' H' v q => h g' H' v (m.trans q)
  | err x s => exact fun g' H' cls d q => h g' H' cls d (m.trans q)
  | stuck => exact h
theorem Go.imp {r : Res α} {Q Q' : β → Hp → Prop} (h : Go C R σ r g H Q) (hq : ∀ v H', Q v H' → Q' v H') : Go C R σ r g H Q' := by
  cases r with
  | ok a s => exact fun g' H' v q r x => hq _ _ (h g' H' v q r x)
  | err x s => exact h
  | stuck => exact h
/-- one piece, then another -/
theorem Go.bind {r : Res α} {f : α → MS → Res γ} {Q : δ → Hp → Prop} (h : Go C S σ (r.bind f) g H Q) :
    Go C R σ r g H fun x H1 => ∃ m s1 g1, Mono g H g1 H1 ∧ C.rel g1 s1 σ H1 ∧ R g1 H1 m x ∧ Go C S σ (f m s1) g1 H1 Q := by
  cases r with
  | ok a s => exact fun g' H' v q r x => ⟨a, s, g', q, r, x, h.later q⟩
  | err x s => exact h
  | stuck => exact h
theorem Go.ret {a : α} {s : MS} {v : β} {Q : β → Hp → Prop} (h : Go C R σ (.ok a s) g H Q) (hr : C.rel g s σ H) (hv : R g H a v) : Q v H :=
  h g H v (Mono.refl _ _) hr hv
end
/-- readings -/
def rdE (C : MC) (m : ME) : TE := fun σ H Q => ∃ g s, C.rel g s σ H ∧ Go C C.V1 σ (m s) g H Q
def rdA (C : MC) (m : MA) : TA := fun σ H Q => ∃ g s, C.rel g s σ H ∧ Go C C.Vn σ (m s) g H Q
def rdT (C : MC) (m : MT) : TT := fun σ H Q => ∃ g s, C.rel g s σ H ∧ Go C REq σ (m s) g H Q
/-- of a statement: the slots may change -/
def GoS (C : MC) (r : Res Fl) (g : Gh) (H : Hp) (D : Ends) : Prop :=
  match r with
  | .ok .nx s => ∀ (g' : Gh) (H' : Hp) (σ : L2.St), Mono g H g' H' → C.rel g' s σ H' → D.nx σ H'
  | .ok .bk s => ∀ (g' : Gh) (H' : Hp) (σ : L2.St), Mono g H g' H' → C.rel g' s σ H' → D.bk σ H'
  | .ok .ct s => ∀ (g' : Gh) (H' : Hp) (σ : L2.St), Mono g H g' H' → C.rel g' s σ H' → D.ct σ H'
  | .ok (.rt m) s => ∀ (g' : Gh) (H' : Hp) (σ : L2.St) (v : V), Mono g H g' H' → C.rel g' s σ H' → RV C.T g' H' m v → D.rt v H'
  | .err x s => ∀ (g' : Gh) (H' : Hp) (σ : L2.St) (cls : Value) (d : Option Addr), Mono g H g' H' → C.rel g' s σ H' → XR C.T g' H' x cls d → C.W cls d σ H'
  | .stuck => False
def rdS (C : MC) (m : MStm) : TS := fun D σ H => ∃ g s, C.rel g s σ H ∧ GoS C (m s) g H D
abbrev PMe (C : MC) (e : Expr) (m : ME) : Prop := PE C.X e (rdE C m)
abbrev PMa (C : MC) (e : List Expr) (m : MA) : Prop := PA C.X e (rdA C m)
abbrev PMt (C : MC) (e : Expr) (m : MT) : Prop := PT C.X e (rdT C m)
abbrev PMw (C : MC) (e : Expr) (m : MT) : Prop := PW C.X e (rdT C m)
abbrev PMs (C : MC) (e : Stmt) (m : MStm) : Prop := PS C.X e (rdS C m)
abbrev PMb (C : MC) (e : List Stmt) (m : MStm) : Prop := PSs C.X e (rdS C m)
theorem wkE {X : Cx} {e : Expr} {t t' : TE} (h : PE X e t) (k : ∀ σ H Q, t' σ H Q → t σ H Q) : PE X e t' := ⟨fun pins s σ H Q I q => h.run pins s σ H Q I (k _ _ _ q)⟩
theorem wkA {X : Cx} {e : List Expr} {t t' : TA} (h : PA X e t) (k : ∀ σ H Q, t' σ H Q → t σ H Q) : PA X e t' := ⟨fun pos pins s σ H Q I q => h.run pos pins s σ H Q I (k _ _ _ q)⟩
theorem wkT {X : Cx} {e : Expr} {t t' : TT} (h : PT X e t) (k : ∀ σ H Q, t' σ H Q → t σ H Q) : PT X e t' := ⟨fun pins s σ H Q I q => h.run pins s σ H Q I (k _ _ _ q)⟩
theorem wkW {X : Cx} {e : Expr} {t t' : TT} (h : PW X e t) (k : ∀ σ H Q, t' σ H Q → t σ H Q) : PW X e t' := ⟨fun w pins s σ H Q I q => h.run w pins s σ H Q I (k _ _ _ q)⟩
theorem wkS {X : Cx} {e : Stmt} {t t' : TS} (h : PS X e t) (k : ∀ D σ H, t' D σ H → t D σ H) : PS X e t' := ⟨fun pins s σ H D I q => h.run pins s σ H D I (k _ _ _ q)⟩
theorem wkB {X : Cx} {e : List Stmt} {t t' : TS} (h : PSs X e t) (k : ∀ D σ H, t' D σ H → t D σ H) : PSs X e t' := ⟨fun pins s σ H D I q => h.run pins s σ H D I (k _ _ _ q)⟩
/-! ### names and constants -/
def mv (i : Nat) : ME := fun s => match s.env[i]? with
  | some (some m) => .ok m s
  | _ => .stuck
def mc (m : M) : ME := fun s => .ok m s
section
variable {C : MC} {x : Str} {pos : Pos}
theorem em_v (i : Nat) (hN : C.X.N[i]? = some x := by rfl) (hv : Vis C.X.env.scope x := by first | exact Or.inl rfl | exact Or.inr (Or.inl rfl) | exact Or.inr (Or.inr rfl)) (hd : (x == ("__debug__" : Str)) = false := by decide)
    (hcd : (x == ("__classdict__" : Str)) = false := by decide) : PMe C (.Name x pos) (mv i) := by
  refine wkE (pe_var (i := i) hN hv hd hcd) fun σ H Q ⟨g, s, r, q⟩ => ?_
  unfold mv at q
  split at q
  · rename_i m hm
    obtain ⟨v, e, rv⟩ := r.get hm
    exact ⟨v, e, q.ret r rv⟩
  · exact q.elim
theorem em_c {e : Expr} {v : V} {m : M} (h : PE C.X e (tC v)) (hv : ∀ g H, RV C.T g H m v) : PMe C e (mc m) :=
  wkE h fun _ _ _ ⟨_, _, r, q⟩ => q.ret r (hv _ _)
theorem em_int {i j} : PMe C (.Constant (.int i) j pos) (mc (.int i)) := em_c pe_int fun _ _ => .int i
theorem em_bl {i j} : PMe C (.Constant (.bool i) j pos) (mc (.bl i)) := em_c pe_bl fun _ _ => .bl i
theorem em_non {j} : PMe C (.Constant .none j pos) (mc .non) := em_c pe_non fun _ _ => .non
theorem em_str {i j} : PMe C (.Constant (.str i) j pos) (mc (.str i)) := em_c pe_str fun _ _ => .str i
end
/-! ### two expressions and an operator -/
def Op2Ok (C : MC) (f : Value → Value → Sem Value) (o : M → M → MS → Res M) : Prop :=
  ∀ (pins : List (Addr × Obj)) (s : Shared) (σ : L2.St) (H : Hp) (g : Gh) (ms : MS) (m1 m2 : M) (x y : V) (v u : Value) (Q : VK), Inv C.X pins σ H s → C.rel g ms σ H → RV C.T g H m1 x → RV C.T g H m2 y → RelV x v → RelV y u →
    Go C C.V1 σ (o m1 m2 ms) g H Q → wpAny (model C.X.prog C.X.w) C.X.A (f v u) (EP C.X pins σ Q) C.X.xe s
theorem Op2Ok.of {C : MC} {f : Value → Value → Sem Value} {r : R2} {o : M → M → MS → Res M} (h : OpR C.X f r)
    (k : ∀ (σ : L2.St) (H : Hp) (g : Gh) (ms : MS) (m1 m2 : M) (x y : V) (Q : VK), C.rel g ms σ H → RV C.T g H m1 x → RV C.T g H m2 y → Go C C.V1 σ (o m1 m2 ms) g H Q → r x y H Q) : Op2Ok C f o :=
  fun pins s σ H g ms m1 m2 x y v u Q I r r1 r2 l1 l2 q => h pins s σ H x y v u Q I l1 l2 (k σ H g ms m1 m2 x y Q r r1 r2 q)
def m2 (o : M → M → MS → Res M) (a b : ME) : ME := fun s => (a s).bind fun x s1 => (b s1).bind fun y s2 => o x y s2
/-- evaluate both, then the operator's own ground -/
theorem both {C : MC} {ea eb : Expr} {a b : ME} (ha : PMe C ea a) (hb : PMe C eb b) {o : M → M → MS → Res M} {pins : List (Addr × Obj)} {s : Shared} {σ : L2.St} {H : Hp} {Q : VK} (I : Inv C.X pins σ H s) (h : rdE C (m2 o a b) σ H Q)
    {β : Type} {P : β → Shared → Prop} {f : Value → Value → Sem β}
    (hf : ∀ v u s2 x y H2 g2 ms m1 m2, Inv C.X pins σ H2 s2 → C.rel g2 ms σ H2 → RV C.T g2 H2 m1 x → RV C.T g2 H2 m2 y → RelV x v → RelV y u → Go C C.V1 σ (o m1 m2 ms) g2 H2 Q → wpAny (model C.X.prog C.X.w) C.X.A (f v u) P C.X.xe s2) :
    wpAny (model C.X.prog C.X.w) C.X.A (eval ea C.X.env) (fun v s₁ => wpAny (model C.X.prog C.X.w) C.X.A (eval eb C.X.env) (fun u s₂ => wpAny (model C.X.prog C.X.w) C.X.A (f v u) P C.X.xe s₂) C.X.xe s₁) C.X.xe s := by
  obtain ⟨g, ms, r, q⟩ := h
  refine thn (ha.run pins s σ H _ I ⟨g, ms, r, Go.bind q⟩) fun v s1 ⟨x, H1, I1, l1, m1, ms1, g1, mo1, r1, rv1, q1⟩ => ?_
  refine thn (hb.run pins s1 σ H1 _ I1 ⟨g1, ms1, r1, Go.bind q1⟩) fun u s2 ⟨y, H2, I2, l2, m2, ms2, g2, mo2, r2, rv2, q2⟩ => ?_
  exact hf v u s2 x y H2 g2 ms2 m1 m2 I2 r2 (rv1.mono mo2) rv2 l1 l2 q2
theorem em_bin {C : MC} {ea eb : Expr} {a b : ME} {op : Operator} {pos : Pos} {o : M → M → MS → Res M} (ho : Op2Ok C (binaryOp op) o) (ha : PMe C ea a) (hb : PMe C eb b) : PMe C (.BinOp ea op eb pos) (m2 o a b) := by
  refine ⟨fun pins s σ H Q I h => wpAny_BinOp ?_⟩
  exact both ha hb I h fun v u s2 x y H2 g2 ms m1 m2 I2 r2 rv1 rv2 l1 l2 q => ho pins s2 σ H2 g2 ms m1 m2 x y v u Q I2 r2 rv1 rv2 l1 l2 q
end Ma
/-! Ma4: comparisons, tests, and, or, not, conditional expressions; statements without loops, while. -/
namespace Ma
open L2 PySem
section
variable {C : MC} {ea eb ec : Expr} {a b c : ME} {pos : Pos}
theorem em_cmp {op : CmpOp} {o : M → M → MS → Res M} (ho : Op2Ok C (compareOp op) o) (ha : PMe C ea a) (hb : PMe C eb b) (hm : behindInMarks op eb = false) : PMe C (.Compare ea [op] [eb] pos) (m2 o a b) := by
  refine ⟨fun pins s σ H Q I h => wpAny_Compare1 ?_ hm⟩
  exact both ha hb I h fun v u s2 x y H2 g2 ms m1 m2 I2 r2 rv1 rv2 l1 l2 q => ho pins s2 σ H2 g2 ms m1 m2 x y v u Q I2 r2 rv1 rv2 l1 l2 q
/-- a value that is a bool -/
def isB (m : M) : MS → Res Bool := fun s => match m with
  | .bl k => .ok k s
  | _ => .stuck
def mB (a : ME) : MT := fun s => (a s).bind isB
theorem Go.isB {σ : L2.St} {g : Gh} {H : Hp} {m : M} {ms : MS} {x : V} {Q : Bool → Hp → Prop} (h : Go C REq σ (isB m ms) g H Q) (r : C.rel g ms σ H) (rv : RV C.T g H m x) : ∃ k, x = .bl k ∧ Q k H := by
  cases rv with
  | bl k => exact ⟨k, rfl, h g H k (Mono.refl _ _) r rfl⟩
  | _ => exact h.elim
theorem tB_of {t : TE} {σ : L2.St} {H : Hp} {Q : Bool → Hp → Prop} (he : ∀ σ H Q, rdE C a σ H Q → t σ H Q) (h : rdT C (mB a) σ H Q) : tB t σ H Q := by
  obtain ⟨g, s, r, q⟩ := h
  refine he _ _ _ ⟨g, s, r, (Go.bind (R := C.V1) q).imp ?_⟩
  rintro x H1 ⟨m, s1, g1, mo, r1, rv, q1⟩
  exact q1.isB r1 rv
/-- a bool's expression as a test -/
theorem tm_val (h : PMe C ea a) (he : ∀ whole, isTrue ea C.X.env whole = (do let v ← whole; standAt ea.pos; PySem.holding [v] (truthy v)) := by intro _; rfl) : PMt C ea (mB a) :=
  wkT (pt_val h he) fun σ H Q q => tB_of (fun _ _ _ z => z) q
/-- a comparison as a test -/
theorem tm_cmp {op : CmpOp} {o : M → M → MS → Res M} (ho : Op2Ok C (compareOp op) o) (ha : PMe C ea a) (hb : PMe C eb b) (hm : behindInMarks op eb = false) : PMt C (.Compare ea [op] [eb] pos) (mB (m2 o a b)) := by
  refine ⟨fun pins s σ H Q I h => wpAny_isTrue_Compare1 ?_ hm⟩
  have h2 : rdE C (m2 o a b) σ H fun x H1 => ∃ k, x = .bl k ∧ Q k H1 := by
    obtain ⟨g, s, r, q⟩ := h
    refine ⟨g, s, r, (Go.bind (R := C.V1) q).imp ?_⟩
    rintro x H1 ⟨m, s1, g1, mo, r1, rv, q1⟩
    exact q1.isB r1 rv
  exact both ha hb I h2 fun v u s2 x y H2 g2 ms m1 m2 I2 r2 rv1 rv2 l1 l2 q =>
    thn (ho pins s2 σ H2 g2 ms m1 m2 x y v u _ I2 r2 rv1 rv2 l1 l2 q) fun c s3 ⟨z, H3, I3, r3, k, e, q3⟩ => by
      subst e
      cases r3
      exact wpAny_truthy_bool ⟨H3, I3, q3⟩
def mNot (t : MT) : MT := fun s => (t s).bind fun k s1 => .ok (!k) s1
def mAnd (t u : MT) : MT := fun s => (t s).bind fun k s1 => if k = true then u s1 else .ok false s1
def mOr (t u : MT) : MT := fun s => (t s).bind fun k s1 => if k = true then .ok true s1 else u s1
variable {t u : MT} {rest : List Expr}
theorem rdT_bind {γ δ : Type} {S : Gh → Hp → γ → δ → Prop} {σ : L2.St} {H : Hp} {f : Bool → MS → Res γ} {Q : δ → Hp → Prop} (h : ∃ g s, C.rel g s σ H ∧ Go C S σ ((t s).bind f) g H Q) :
    rdT C t σ H fun k H1 => ∃ s1 g1, C.rel g1 s1 σ H1 ∧ Go C S σ (f k s1) g1 H1 Q := by
  obtain ⟨g, s, r, q⟩ := h
  refine ⟨g, s, r, (Go.bind (R := REq) q).imp ?_⟩
  rintro k H1 ⟨k', s1, g1, mo, r1, rv, q1⟩
  cases rv
  exact ⟨s1, g1, r1, q1⟩
theorem tm_not (ha : PMt C ea t) : PMt C (.UnaryOp .Not ea pos) (mNot t) :=
  wkT (pt_not ha) fun σ H Q h => by
    obtain ⟨g, s, r, q⟩ := rdT_bind h
    refine ⟨g, s, r, q.imp ?_⟩
    rintro k H1 ⟨s1, g1, r1, q1⟩
    exact q1.ret r1 rfl
theorem wm_and1 (ha : PMt C ea t) : PMw C (.BoolOp .And [ea] pos) t := pw_and1 ha
theorem wm_or1 (ha : PMt C ea t) : PMw C (.BoolOp .Or [ea] pos) t := pw_or1 ha
theorem wm_and (ha : PMt C ea t) (hb : PMw C (.BoolOp .And (eb :: rest) pos) u) : PMw C (.BoolOp .And (ea :: eb :: rest) pos) (mAnd t u) :=
  wkW (pw_and ha hb) fun σ H Q h => by
    obtain ⟨g, s, r, q⟩ := rdT_bind h
    refine ⟨g, s, r, q.imp ?_⟩
    rintro k H1 ⟨s1, g1, r1, q1⟩
    cases k with
    | true => exact ⟨g1, s1, r1, q1⟩
    | false => exact q1.ret r1 rfl
theorem wm_or (ha : PMt C ea t) (hb : PMw C (.BoolOp .Or (eb :: rest) pos) u) : PMw C (.BoolOp .Or (ea :: eb :: rest) pos) (mOr t u) :=
  wkW (pw_or ha hb) fun σ H Q h => by
    obtain ⟨g, s, r, q⟩ := rdT_bind h
    refine ⟨g, s, r, q.imp ?_⟩
    rintro k H1 ⟨s1, g1, r1, q1⟩
    cases k with
    | true => exact q1.ret r1 rfl
    | false => exact ⟨g1, s1, r1, q1⟩
theorem tm_w (h : PMw C ea t) : PMt C ea t := h.pt
/-- and, or, not as values: of bools -/
def mAndV (a b : ME) : ME := fun s => (a s).bind fun x s1 => match x with
  | .bl k => if k = true then b s1 else .ok (.bl false) s1
  | _ => .stuck
def mOrV (a b : ME) : ME := fun s => (a s).bind fun x s1 => match x with
  | .bl k => if k = true then .ok (.bl true) s1 else b s1
  | _ => .stuck
def mNotV (a : ME) : ME := fun s => (a s).bind fun x s1 => match x with
  | .bl k => .ok (.bl (!k)) s1
  | _ => .stuck
theorem rdE_bind {γ δ : Type} {S : Gh → Hp → γ → δ → Prop} {σ : L2.St} {H : Hp} {f : M → MS → Res γ} {Q : δ → Hp → Prop} (h : ∃ g s, C.rel g s σ H ∧ Go C S σ ((a s).bind f) g H Q) :
    rdE C a σ H fun x H1 => ∃ m s1 g1, C.rel g1 s1 σ H1 ∧ RV C.T g1 H1 m x ∧ Go C S σ (f m s1) g1 H1 Q := by
  obtain ⟨g, s, r, q⟩ := h
  refine ⟨g, s, r, (Go.bind (R := C.V1) q).imp ?_⟩
  rintro x H1 ⟨m, s1, g1, mo, r1, rv, q1⟩
  exact ⟨m, s1, g1, r1, rv, q1⟩
theorem em_one {op} (h : PMe C ea a) : PMe C (.BoolOp op [ea] pos) a := pe_one h
theorem em_and (ha : PMe C ea a) (hb : PMe C (.BoolOp .And (eb :: rest) pos) b) : PMe C (.BoolOp .And (ea :: eb :: rest) pos) (mAndV a b) :=
  wkE (pe_and ha hb) fun σ H Q h => by
    obtain ⟨g, s, r, q⟩ := rdE_bind h
    refine ⟨g, s, r, q.imp ?_⟩
    rintro k H1 ⟨m, s1, g1, r1, rv, q1⟩
    cases rv with
    | bl k =>
      refine ⟨k, rfl, ?_⟩
      cases k with
      | true => exact ⟨g1, s1, r1, q1⟩
      | false => exact q1.ret r1 (.bl _)
    | _ => exact q1.elim
theorem em_or (ha : PMe C ea a) (hb : PMe C (.BoolOp .Or (eb :: rest) pos) b) : PMe C (.BoolOp .Or (ea :: eb :: rest) pos) (mOrV a b) :=
  wkE (pe_or ha hb) fun σ H Q h => by
    obtain ⟨g, s, r, q⟩ := rdE_bind h
    refine ⟨g, s, r, q.imp ?_⟩
    rintro k H1 ⟨m, s1, g1, r1, rv, q1⟩
    cases rv with
    | bl k =>
      refine ⟨k, rfl, ?_⟩
      cases k with
      | true => exact q1.ret r1 (.bl _)
      | false => exact ⟨g1, s1, r1, q1⟩
    | _ => exact q1.elim
theorem em_not (ha : PMe C ea a) : PMe C (.UnaryOp .Not ea pos) (mNotV a) :=
  wkE (pe_not ha) fun σ H Q h => by
    obtain ⟨g, s, r, q⟩ := rdE_bind h
    refine ⟨g, s, r, q.imp ?_⟩
    rintro k H1 ⟨m, s1, g1, r1, rv, q1⟩
    cases rv with
    | bl k => exact ⟨k, rfl, q1.ret r1 (.bl _)⟩
    | _ => exact q1.elim
def mIf (t : MT) (a b : ME) : ME := fun s => (t s).bind fun k s1 => if k = true then a s1 else b s1
theorem em_if (hc : PMt C ec t) (ha : PMe C ea a) (hb : PMe C eb b) : PMe C (.IfExp ec ea eb pos) (mIf t a b) :=
  wkE (pe_ifExp hc ha hb) fun σ H Q h => by
    obtain ⟨g, s, r, q⟩ := rdT_bind h
    refine ⟨g, s, r, q.imp ?_⟩
    rintro k H1 ⟨s1, g1, r1, q1⟩
    cases k with
    | true => exact ⟨g1, s1, r1, q1⟩
    | false => exact ⟨g1, s1, r1, q1⟩
/-! ### argument lists -/
def mNil : MA := fun s => .ok [] s
def mCons (a : ME) (b : MA) : MA := fun s => (a s).bind fun x s1 => (b s1).bind fun xs s2 => .ok (x :: xs) s2
theorem am_nil : PMa C [] mNil := wkA pa_nil fun σ H Q ⟨g, s, r, q⟩ => q.ret r .nil
theorem am_cons {es : List Expr} {m : MA} (ha : PMe C ea a) (hb : PMa C es m) (he : starEach (ea :: es) C.X.env = (false, eval ea C.X.env) :: starEach es C.X.env := by rfl) : PMa C (ea :: es) (mCons a m) :=
  wkA (pa_cons ha hb he) fun σ H Q h => by
    obtain ⟨g, s, r, q⟩ := rdE_bind h
    refine ⟨g, s, r, q.imp ?_⟩
    rintro x H1 ⟨m, s1, g1, r1, rv, q1⟩
    refine ⟨g1, s1, r1, (Go.bind (R := C.Vn) q1).imp ?_⟩
    rintro xs H2 ⟨ms, s2, g2, mo2, r2, rvs, q2⟩
    exact q2.ret r2 (.cons (rv.mono mo2) rvs)
end
end Ma
/-! Ma5: statements: blocks, assignments, if, while, for. -/
namespace Ma
open L2 PySem
section
variable {C : MC} {g g1 : Gh} {H H1 : Hp} {D D' : Ends}
theorem GoS.later {r : Res Fl} (m : Mono g H g1 H1) (h : GoS C r g H D) : GoS C r g1 H1 D := by
  cases r with
  | ok f s => cases f with
    | nx => exact fun g' H' σ q => h g' H' σ (m.trans q)
    | bk => exact fun g' H' σ q => h g' H' σ (m.trans q)
    | ct => exact fun g' H' σ q => h g' H' σ (m.trans q)
    | rt v => exact fun g' H' σ v q => h g' H' σ v (m.trans q)
  | err x s => exact fun g' H' σ cls d q => h g' H' σ cls d (m.trans q)
  | stuck => exact h
/-- an expression, then a statement's rest -/
theorem Go.bindS {α β : Type} {R : Gh → Hp → α → β → Prop} {σ : L2.St} {r : Res α} {f : α → MS → Res Fl} (h : GoS C (r.bind f) g H D) :
    Go C R σ r g H fun x H1 => ∃ m s1 g1, Mono g H g1 H1 ∧ C.rel g1 s1 σ H1 ∧ R g1 H1 m x ∧ GoS C (f m s1) g1 H1 D := by
  cases r with
  | ok a s => exact fun g' H' v q r x => ⟨a, s, g', q, r, x, h.later q⟩
  | err x s => exact fun g' H' cls d q r x => h g' H' σ cls d q r x
  | stuck => exact h
theorem GoS.nx {s : MS} {σ : L2.St} (h : GoS C (.ok .nx s) g H D) (r : C.rel g s σ H) : D.nx σ H := h g H σ (Mono.refl _ _) r
def sNx : MStm := fun s => .ok .nx s
def sSeq (a b : MStm) : MStm := fun s => (a s).bind fun f s1 => match f with
  | .nx => b s1
  | f => .ok f s1
theorem rdS_seq {a b : MStm} {σ : L2.St} (h : rdS C (sSeq a b) D σ H) : rdS C a { D with nx := rdS C b D } σ H := by
  obtain ⟨g, s, r, q⟩ := h
  refine ⟨g, s, r, ?_⟩
  unfold sSeq at q
  cases ha : a s with
  | ok f s1 =>
    rw [ha] at q
    cases f with
    | nx => exact fun g' H' σ m r => ⟨g', s1, r, GoS.later m q⟩
    | bk => exact q
    | ct => exact q
    | rt v => exact q
  | err x s1 => rw [ha] at q; exact q
  | stuck => rw [ha] at q; exact q
variable {st : Stmt} {rest : List Stmt} {a b : MStm} {pos : Pos} {ex : Expr} {m : ME} {i : Nat} {x : Str}
theorem bm_nil : PMb C [] sNx := wkB pss_nil fun D σ H ⟨g, s, r, q⟩ => q.nx r
theorem bm_cons (h1 : PMs C st a) (h2 : PMb C rest b) : PMb C (st :: rest) (sSeq a b) := wkB (pss_cons h1 h2) fun D σ H h => rdS_seq h
theorem bm_one (h1 : PMs C st a) : PMb C [st] a := pss_one h1
def sExpr (m : ME) : MStm := fun s => (m s).bind fun _ s1 => .ok .nx s1
def sRet (m : ME) : MStm := fun s => (m s).bind fun v s1 => .ok (.rt v) s1
def sSet (i : Nat) (m : ME) : MStm := fun s => (m s).bind fun v s1 => .ok .nx ⟨s1.env.set i (some v), s1.hp⟩
theorem rdE_bindS {f : M → MS → Res Fl} {σ : L2.St} (h : ∃ g s, C.rel g s σ H ∧ GoS C ((m s).bind f) g H D) :
    rdE C m σ H fun x H1 => ∃ v s1 g1, C.rel g1 s1 σ H1 ∧ RV C.T g1 H1 v x ∧ GoS C (f v s1) g1 H1 D := by
  obtain ⟨g, s, r, q⟩ := h
  refine ⟨g, s, r, (Go.bindS (R := C.V1) (σ := σ) q).imp ?_⟩
  rintro x H1 ⟨m, s1, g1, mo, r1, rv, q1⟩
  exact ⟨m, s1, g1, r1, rv, q1⟩
theorem rdT_bindS {t : MT} {f : Bool → MS → Res Fl} {σ : L2.St} (h : ∃ g s, C.rel g s σ H ∧ GoS C ((t s).bind f) g H D) :
    rdT C t σ H fun k H1 => ∃ s1 g1, C.rel g1 s1 σ H1 ∧ GoS C (f k s1) g1 H1 D := by
  obtain ⟨g, s, r, q⟩ := h
  refine ⟨g, s, r, (Go.bindS (R := REq) (σ := σ) q).imp ?_⟩
  rintro x H1 ⟨m, s1, g1, mo, r1, rv, q1⟩
  cases rv
  exact ⟨s1, g1, r1, q1⟩
theorem rdA_bindS {t : MA} {f : List M → MS → Res Fl} {σ : L2.St} (h : ∃ g s, C.rel g s σ H ∧ GoS C ((t s).bind f) g H D) :
    rdA C t σ H fun xs H1 => ∃ v s1 g1, C.rel g1 s1 σ H1 ∧ RVs C.T g1 H1 v xs ∧ GoS C (f v s1) g1 H1 D := by
  obtain ⟨g, s, r, q⟩ := h
  refine ⟨g, s, r, (Go.bindS (R := C.Vn) (σ := σ) q).imp ?_⟩
  rintro x H1 ⟨m, s1, g1, mo, r1, rv, q1⟩
  exact ⟨m, s1, g1, r1, rv, q1⟩
theorem sm_expr (he : PMe C ex m) (hs : swapsWith ex none pos.line C.X.env = pure false := by rfl) : PMs C (.Expr ex pos) (sExpr m) :=
  wkS (ps_expr he hs) fun D σ H h => by
    obtain ⟨g, s, r, q⟩ := rdE_bindS h
    exact ⟨g, s, r, q.imp fun x H1 ⟨v, s1, g1, r1, rv, q1⟩ => q1.nx r1⟩
theorem sm_ret (he : PMe C ex m) : PMs C (.Return (some ex) pos) (sRet m) :=
  wkS (ps_ret he) fun D σ H h => by
    obtain ⟨g, s, r, q⟩ := rdE_bindS h
    exact ⟨g, s, r, q.imp fun x H1 ⟨v, s1, g1, r1, rv, q1⟩ => q1 g1 H1 σ x (Mono.refl _ _) r1 rv⟩
theorem sm_set (i : Nat) {pos' : Pos} (hN : C.X.N.Nodup) (hi : C.X.N[i]? = some x) (hx : Loc C.X.env.scope x) (he : PMe C ex m) (hs : swapsWith ex (some (.Name x pos')) pos.line C.X.env = pure false := by rfl)
    (hf : C.X.fn x = true ∨ C.X.env.scope.names.lookup x = some .local := by first | exact .inl rfl | exact .inr rfl | assumption) : PMs C (.Assign [.Name x pos'] ex pos) (sSet i m) :=
  wkS (ps_set hN hi hx he hs hf) fun D σ H h => by
    obtain ⟨g, s, r, q⟩ := rdE_bindS h
    exact ⟨g, s, r, q.imp fun x H1 ⟨v, s1, g1, r1, rv, q1⟩ => q1.nx (r1.put rv)⟩
def sPar2 (i j : Nat) (m : MA) : MStm := fun s => (m s).bind fun vs s1 => match vs with
  | [v, w] => .ok .nx ⟨(s1.env.set i (some v)).set j (some w), s1.hp⟩
  | _ => .stuck
def sPar3 (i j l : Nat) (m : MA) : MStm := fun s => (m s).bind fun vs s1 => match vs with
  | [u, v, w] => .ok .nx ⟨((s1.env.set i (some u)).set j (some v)).set l (some w), s1.hp⟩
  | _ => .stuck
theorem sm_par2 (i j : Nat) {x y : Str} {ea eb : Expr} {ma : MA} {px py pt : Pos} {kt k2 pt2} (hc : C.X.calm = true) (hN : C.X.N.Nodup) (ha : PMa C [ea, eb] ma) (hi : C.X.N[i]? = some x := by rfl) (hj : C.X.N[j]? = some y := by rfl) (hij : i ≠ j := by decide)
    (hx : C.X.env.scope.names.lookup x = some .local := by rfl) (hy : C.X.env.scope.names.lookup y = some .local := by rfl)
    (hw : swappedStores [.Tuple [.Name x px, .Name y py] kt pt] (.Tuple [ea, eb] k2 pt2) C.X.env = pure (some [x, y]) := by rfl)
    (hs : swapsWithSole [.Tuple [.Name x px, .Name y py] kt pt] (.Tuple [ea, eb] k2 pt2) pos.line C.X.env = pure false := by rfl) :
    PMs C (.Assign [.Tuple [.Name x px, .Name y py] kt pt] (.Tuple [ea, eb] k2 pt2) pos) (sPar2 i j ma) :=
  wkS (ps_par hc hN hi hj hij hx hy ha hw hs) fun D σ H h => by
    obtain ⟨g, s, r, q⟩ := rdA_bindS h
    refine ⟨g, s, r, q.imp ?_⟩
    rintro xs H1 ⟨vs, s1, g1, r1, rv, q1⟩
    cases rv with
    | nil => exact q1.elim
    | cons rv1 rv => cases rv with
      | nil => exact q1.elim
      | cons rv2 rv => cases rv with
        | cons _ _ => exact q1.elim
        | nil => exact ⟨_, _, rfl, q1.nx ((r1.put rv1).put rv2)⟩
theorem sm_par3 (i j l : Nat) {x y z : Str} {ea eb ec : Expr} {ma : MA} {px py pz pt : Pos} {kt k2 pt2} (hc : C.X.calm = true) (hN : C.X.N.Nodup) (ha : PMa C [ea, eb, ec] ma) (hi : C.X.N[i]? = some x := by rfl) (hj : C.X.N[j]? = some y := by rfl) (hl : C.X.N[l]? = some z := by rfl)
    (hij : i ≠ j := by decide) (hil : i ≠ l := by decide) (hjl : j ≠ l := by decide)
    (hx : C.X.env.scope.names.lookup x = some .local := by rfl) (hy : C.X.env.scope.names.lookup y = some .local := by rfl) (hz : C.X.env.scope.names.lookup z = some .local := by rfl)
    (hw : swappedStores [.Tuple [.Name x px, .Name y py, .Name z pz] kt pt] (.Tuple [ea, eb, ec] k2 pt2) C.X.env = pure (some [x, y, z]) := by rfl)
    (hs : swapsWithSole [.Tuple [.Name x px, .Name y py, .Name z pz] kt pt] (.Tuple [ea, eb, ec] k2 pt2) pos.line C.X.env = pure false := by rfl) :
    PMs C (.Assign [.Tuple [.Name x px, .Name y py, .Name z pz] kt pt] (.Tuple [ea, eb, ec] k2 pt2) pos) (sPar3 i j l ma) :=
  wkS (ps_par3 hc hN hi hj hl hij hil hjl hx hy hz ha hw hs) fun D σ H h => by
    obtain ⟨g, s, r, q⟩ := rdA_bindS h
    refine ⟨g, s, r, q.imp ?_⟩
    rintro xs H1 ⟨vs, s1, g1, r1, rv, q1⟩
    cases rv with
    | nil => exact q1.elim
    | cons rv1 rv => cases rv with
      | nil => exact q1.elim
      | cons rv2 rv => cases rv with
        | nil => exact q1.elim
        | cons rv3 rv => cases rv with
          | cons _ _ => exact q1.elim
          | nil => exact ⟨_, _, _, rfl, q1.nx (((r1.put rv1).put rv2).put rv3)⟩
def sIf (t : MT) (a b : MStm) : MStm := fun s => (t s).bind fun k s1 => if k = true then a s1 else b s1
theorem sm_if {t : MT} {ss us : List Stmt} (hc : PMt C ex t) (ha : PMb C ss a) (hb : PMb C us b) : PMs C (.If ex ss us pos) (sIf t a b) :=
  wkS (ps_if hc ha hb) fun D σ H h => by
    obtain ⟨g, s, r, q⟩ := rdT_bindS h
    refine ⟨g, s, r, q.imp ?_⟩
    rintro k H1 ⟨s1, g1, r1, q1⟩
    cases k with
    | true => exact ⟨g1, s1, r1, q1⟩
    | false => exact ⟨g1, s1, r1, q1⟩
/-! ### while -/
def sWh (t : MT) (b : MStm) : Nat → MStm
  | 0 => fun _ => .stuck
  | n + 1 => fun s => (t s).bind fun k s1 => if k = true then (b s1).bind fun f s2 => (match f with
      | .nx => sWh t b n s2
      | .ct => sWh t b n s2
      | .bk => .ok .nx s2
      | .rt v => .ok (.rt v) s2) else .ok .nx s1
/-- a loop's turn: the body, then on, or out -/
theorem turn_of {b : MStm} {k : MStm} {s : MS} {σ : L2.St} (r : C.rel g s σ H) (q : GoS C ((b s).bind fun f s2 => (match f with
      | .nx => k s2
      | .ct => k s2
      | .bk => .ok .nx s2
      | .rt v => .ok (.rt v) s2)) g H D) :
    rdS C b { D with nx := fun σ' H' => ∃ g' s', Mono g H g' H' ∧ C.rel g' s' σ' H' ∧ GoS C (k s') g' H' D, ct := fun σ' H' => ∃ g' s', Mono g H g' H' ∧ C.rel g' s' σ' H' ∧ GoS C (k s') g' H' D, bk := D.nx } σ H := by
  refine ⟨g, s, r, ?_⟩
  cases hb : b s with
  | ok f s2 =>
    rw [hb] at q
    cases f with
    | nx => exact fun g' H' σ m r => ⟨g', s2, m, r, GoS.later m q⟩
    | ct => exact fun g' H' σ m r => ⟨g', s2, m, r, GoS.later m q⟩
    | bk => exact q
    | rt v => exact q
  | err x s2 => rw [hb] at q; exact q
  | stuck => rw [hb] at q; exact q
theorem sm_while (n : Nat) {t : MT} {ss : List Stmt} (hp : PassesOwn (model C.X.prog C.X.w) C.X.A C.X.env C.X.xe) (hc : PMt C ex t) (hb : PMb C ss b) : PMs C (.While ex ss [] pos) (sWh t b n) :=
  wkS (ps_while hp hc hb) fun D σ H h => by
    obtain ⟨g, s, r, q⟩ := h
    refine ⟨fun n σ H => ∃ g s, C.rel g s σ H ∧ GoS C (sWh t b n s) g H D, ⟨n, g, s, r, q⟩, ?_⟩
    rintro m σ H h
    cases m with
    | zero =>
      obtain ⟨g, s, r, q⟩ := h
      exact q.elim
    | succ m =>
      obtain ⟨g, s, r, q⟩ := rdT_bindS (f := fun k s1 => if k = true then (b s1).bind fun f s2 => (match f with
        | .nx => sWh t b m s2
        | .ct => sWh t b m s2
        | .bk => .ok .nx s2
        | .rt v => .ok (.rt v) s2) else .ok .nx s1) h
      refine ⟨g, s, r, q.imp ?_⟩
      rintro k H1 ⟨s1, g1, r1, q1⟩
      cases k with
      | false =>
        rw [if_neg Bool.false_ne_true] at q1
        exact q1.nx r1
      | true =>
        rw [if_pos rfl] at q1
        rw [if_pos rfl]
        refine ⟨fun σ' H' => ∃ g' s', Mono g1 H1 g' H' ∧ C.rel g' s' σ' H' ∧ GoS C (sWh t b m s') g' H' D, fun σ' H' ⟨g', s', _, r', q'⟩ => ⟨m, Nat.lt_succ_self m, g', s', r', q'⟩, turn_of r1 q1⟩
end
end Ma
/-! Ma6: what a loop walks, its targets, for. -/
namespace Ma
open L2 PySem
section
variable {C : MC} {g g1 : Gh} {H H1 : Hp} {D : Ends}
/-- a new object at an untracked place -/
theorem RelH.laid {T : Tab} {e : En} {hp : List Cell} {p : Addr} {o : HO} (r : RelH T e g hp H) (hn : H p = none) (ho : NoTbl o := by first | exact Plain.tbl (by assumption) | assumption | exact fun _ z => by cases z | exact fun _ z => by unfold XO at z; cases z) : RelH T e g hp (upd H p o) := by
  have ne : ∀ {a u}, H a = some u → a ≠ p := fun h => ne_of_none h hn
  have mo : Mono g H g (upd H p o) := ⟨⟨List.prefix_refl _, fun _ h => h, fun a h => by obtain ⟨u, q⟩ := r.fzt a h; rw [upd_ne (ne q)], fun a vs h => by rw [upd_ne (ne h)]; exact h⟩, fun a o u h => by rw [upd_ne (ne h)]; exact h⟩
  refine ⟨r.len, r.nd, fun n c a h1 h2 => ?_, r.thaw, fun a h => ?_, fun a h => ?_, fun a u h1 h2 => ?_, r.nfz, r.nro, r.m0.trans mo, r.tb.upd (fun u z => by rw [hn] at z; cases z) ho (fun hp => by obtain ⟨u, q⟩ := r.rot p hp; rw [hn] at q; cases q), r.tbe⟩
  · obtain ⟨u, q⟩ := r.rot a (List.mem_of_getElem? h2)
    exact (r.cell n c a h1 h2).mono mo (by rw [upd_ne (ne q)])
  · obtain ⟨u, q⟩ := r.fzt a h
    exact ⟨u, by rw [upd_ne (ne q)]; exact q⟩
  · obtain ⟨u, q⟩ := r.rot a h
    exact ⟨u, by rw [upd_ne (ne q)]; exact q⟩
  · have q := r.frm a u h1 h2
    rw [upd_ne (ne q)]
    exact q
theorem mono_laid {T : Tab} {e : En} {hp : List Cell} {p : Addr} {o : HO} (r : RelH T e g hp H) (hn : H p = none) : Mono g H g (upd H p o) := by
  have ne : ∀ {a u}, H a = some u → a ≠ p := fun h => ne_of_none h hn
  exact ⟨⟨List.prefix_refl _, fun _ h => h, fun a h => by obtain ⟨u, q⟩ := r.fzt a h; rw [upd_ne (ne q)], fun a vs h => by rw [upd_ne (ne h)]; exact h⟩, fun a o u h => by rw [upd_ne (ne h)]; exact h⟩
theorem Rel.laid {s : MS} {σ : L2.St} {p : Addr} {o : HO} (r : C.rel g s σ H) (hn : H p = none) (ho : NoTbl o := by first | exact Plain.tbl (by assumption) | assumption | exact fun _ z => by cases z | exact fun _ z => by unfold XO at z; cases z) : C.rel g s σ (upd H p o) :=
  r.env (mono_laid r.h hn) (r.h.laid hn ho)
/-- items to be walked -/
def Wk (C : MC) (g : Gh) (H : Hp) (items : List M) (J : It) : Prop := ∃ (G : Hp → Prop) (Y : Nat → Hp → V → Hp → Prop), Walk J items.length G Y ∧ (∀ g1 H1, Mono g H g1 H1 → G H1) ∧
  ∀ i g1 H1 s σ x H2, i < items.length → Mono g H g1 H1 → C.rel g1 s σ H1 → Y i H1 x H2 → ∃ m, items[i]? = some m ∧ Mono g1 H1 g1 H2 ∧ C.rel g1 s σ H2 ∧ RV C.T g1 H2 m x ∧ Same H1 H2
/-- a walk's source -/
abbrev MI := MS → Res (List M)
def GoI (C : MC) (σ : L2.St) (r : Res (List M)) (g : Gh) (H : Hp) (R : It → Hp → Prop) : Prop := match r with
  | .ok items s1 => ∀ (g' : Gh) (H' : Hp) (J : It), Mono g H g' H' → C.rel g' s1 σ H' → Wk C g' H' items J → R J H'
  | .err x s1 => ∀ (g' : Gh) (H' : Hp) (cls : Value) (d : Option Addr), Mono g H g' H' → C.rel g' s1 σ H' → XR C.T g' H' x cls d → C.W cls d σ H'
  | .stuck => False
def rdI (C : MC) (m : MI) : TI := fun σ H R => ∃ g s, C.rel g s σ H ∧ GoI C σ (m s) g H R
theorem GoI.later {σ : L2.St} {r : Res (List M)} {R : It → Hp → Prop} (m : Mono g H g1 H1) (h : GoI C σ r g H R) : GoI C σ r g1 H1 R := by
  cases r with
  | ok a s => exact fun g' H' J q => h g' H' J (m.trans q)
  | err x s => exact fun g' H' cls d q => h g' H' cls d (m.trans q)
  | stuck => exact h
theorem Go.bindI {α β : Type} {Rl : Gh → Hp → α → β → Prop} {σ : L2.St} {r : Res α} {f : α → MS → Res (List M)} {R : It → Hp → Prop} (h : GoI C σ (r.bind f) g H R) :
    Go C Rl σ r g H fun x H1 => ∃ m s1 g1, Mono g H g1 H1 ∧ C.rel g1 s1 σ H1 ∧ Rl g1 H1 m x ∧ GoI C σ (f m s1) g1 H1 R := by
  cases r with
  | ok a s => exact fun g' H' v q r x => ⟨a, s, g', q, r, x, h.later q⟩
  | err x s => exact h
  | stuck => exact h
theorem rdA_bindI {t : MA} {f : List M → MS → Res (List M)} {σ : L2.St} {R : It → Hp → Prop} (h : rdI C (fun s => (t s).bind f) σ H R) :
    rdA C t σ H fun xs H1 => ∃ v s1 g1, C.rel g1 s1 σ H1 ∧ RVs C.T g1 H1 v xs ∧ GoI C σ (f v s1) g1 H1 R := by
  obtain ⟨g, s, r, q⟩ := h
  refine ⟨g, s, r, (Go.bindI (Rl := C.Vn) q).imp ?_⟩
  rintro x H1 ⟨m, s1, g1, mo, r1, rv, q1⟩
  exact ⟨m, s1, g1, r1, rv, q1⟩
theorem rdE_bindI {t : ME} {f : M → MS → Res (List M)} {σ : L2.St} {R : It → Hp → Prop} (h : rdI C (fun s => (t s).bind f) σ H R) :
    rdE C t σ H fun x H1 => ∃ v s1 g1, C.rel g1 s1 σ H1 ∧ RV C.T g1 H1 v x ∧ GoI C σ (f v s1) g1 H1 R := by
  obtain ⟨g, s, r, q⟩ := h
  refine ⟨g, s, r, (Go.bindI (Rl := C.V1) q).imp ?_⟩
  rintro x H1 ⟨m, s1, g1, mo, r1, rv, q1⟩
  exact ⟨m, s1, g1, r1, rv, q1⟩
abbrev PMi (C : MC) (tg it : Expr) (m : MI) : Prop := PI C.X tg it (rdI C m)
/-- a target -/
abbrev MG := M → MS → Res Unit
def rdG (C : MC) (m : MG) : TG := fun v σ H Q => ∃ g s w, C.rel g s σ H ∧ RV C.T g H w v ∧ match m w s with
  | .ok _ s1 => ∀ (g' : Gh) (H' : Hp) (σ' : L2.St), Mono g H g' H' → C.rel g' s1 σ' H' → Q σ' H'
  | .err x s1 => ∀ (g' : Gh) (H' : Hp) (cls : Value) (d : Option Addr), Mono g H g' H' → C.rel g' s1 σ H' → XR C.T g' H' x cls d → C.W cls d σ H'
  | .stuck => False
abbrev PMg (C : MC) (tg : Expr) (m : MG) : Prop := PG C.X tg (rdG C m)
def gSet (i : Nat) : MG := fun w s => .ok () ⟨s.env.set i (some w), s.hp⟩
theorem wkG {X : Cx} {tg : Expr} {t t' : TG} (h : PG X tg t) (k : ∀ v σ H Q, t' v σ H Q → t v σ H Q) : PG X tg t' := ⟨fun pins s σ H v u Q I r q => h.run pins s σ H v u Q I r (k _ _ _ _ q)⟩
theorem gm_name (i : Nat) {x : Str} {pos : Pos} (hN : C.X.N.Nodup) (hi : C.X.N[i]? = some x) (hx : Loc C.X.env.scope x) (hf : C.X.fn x = true ∨ C.X.env.scope.names.lookup x = some .local := by first | exact .inl rfl | exact .inr rfl | assumption) : PMg C (.Name x pos) (gSet i) :=
  wkG (pg_name hN hi hx hf) fun v σ H Q ⟨g, s, w, r, rv, q⟩ => q g H _ (Mono.refl _ _) (r.put rv)
def sFor (tg : MG) (b : MStm) : List M → MStm
  | [] => fun s => .ok .nx s
  | x :: xs => fun s => (tg x s).bind fun _ s1 => (b s1).bind fun f s2 => (match f with
      | .nx => sFor tg b xs s2
      | .ct => sFor tg b xs s2
      | .bk => .ok .nx s2
      | .rt v => .ok (.rt v) s2)
def sForI (it : MI) (tg : MG) (b : MStm) : MStm := fun s => (it s).bind fun xs s1 => sFor tg b xs s1
theorem drop_of {α : Type} {xs : List α} {i : Nat} {m : α} (h : xs[i]? = some m) : xs.drop i = m :: xs.drop (i + 1) := by
  obtain ⟨hi, e⟩ := List.getElem?_eq_some_iff.mp h
  rw [← e]
  exact List.drop_eq_getElem_cons hi
theorem sm_for {tg it : Expr} {body : List Stmt} {mi : MI} {mg : MG} {b : MStm} {pos : Pos} (hp : PassesOwn (model C.X.prog C.X.w) C.X.A C.X.env C.X.xe) (hc : C.X.calm = true) (hi : PMi C tg it mi) (hg : PMg C tg mg) (hb : PMb C body b)
    (hs : ∀ x, foldedSetIterable it C.X.env x = pure x := by intro _; rfl) : PMs C (.For tg it body [] pos) (sForI mi mg b) :=
  wkS (ps_for hp hc hi hg hb hs) fun D σ H h => by
    obtain ⟨g, s, r, q⟩ := h
    refine ⟨g, s, r, ?_⟩
    unfold sForI at q
    unfold GoI
    cases hm : mi s with
    | stuck => rw [hm] at q; exact q.elim
    | err x s1 => rw [hm] at q; exact fun g' H' cls d mo r1 xr => q g' H' σ cls d mo r1 xr
    | ok items s1 =>
      rw [hm] at q
      intro g0 H0 J mo0 r0 wk
      obtain ⟨G, Y, w, hG, hY⟩ := wk
      have q0 : GoS C (sFor mg b items s1) g0 H0 D := GoS.later mo0 q
      refine for_it w (fun i σ H => ∃ g s, Mono g0 H0 g H ∧ C.rel g s σ H ∧ GoS C (sFor mg b (items.drop i) s) g H D) ⟨g0, s1, Mono.refl _ _, r0, q0⟩ (fun i σ H _ ⟨g, s, mo, _, _⟩ => hG g H mo) ?_ ?_
      · rintro i x σ1 H1 H2 hi ⟨g1, s1, mo1, r1, q1⟩ y
        obtain ⟨m, hm, mo2, r2, rv, _⟩ := hY i g1 H1 s1 σ1 x H2 hi mo1 r1 y
        rw [drop_of hm] at q1
        have q1 := GoS.later mo2 q1
        refine ⟨g1, s1, m, r2, rv, ?_⟩
        unfold sFor at q1
        cases ht : mg m s1 with
        | stuck => rw [ht] at q1; exact q1.elim
        | err x s3 => rw [ht] at q1; exact fun g' H' cls d mo r1 xr => q1 g' H' σ1 cls d mo r1 xr
        | ok u s3 =>
          rw [ht] at q1
          intro g3 H3 σ3 mo3 r3
          have q3 := GoS.later mo3 q1
          have tn := turn_of (C := C) (b := b) (k := sFor mg b (items.drop (i + 1))) r3 q3
          obtain ⟨g4, s4, r4, q4⟩ := tn
          refine ⟨g4, s4, r4, ?_⟩
          have lift : ∀ σ' H', (∃ g' s', Mono g3 H3 g' H' ∧ C.rel g' s' σ' H' ∧ GoS C (sFor mg b (items.drop (i + 1)) s') g' H' D) → ∃ g s, Mono g0 H0 g H' ∧ C.rel g s σ' H' ∧ GoS C (sFor mg b (items.drop (i + 1)) s) g H' D :=
            fun σ' H' ⟨g', s', mo', r', q'⟩ => ⟨g', s', ((mo1.trans mo2).trans mo3).trans mo', r', q'⟩
          cases hb4 : b s4 with
          | stuck => rw [hb4] at q4; exact q4.elim
          | err x s5 => rw [hb4] at q4; exact q4
          | ok f s5 =>
            rw [hb4] at q4
            cases f with
            | nx => exact fun g' H' σ' mo r' => lift σ' H' (q4 g' H' σ' mo r')
            | ct => exact fun g' H' σ' mo r' => lift σ' H' (q4 g' H' σ' mo r')
            | bk => exact q4
            | rt v => exact q4
      · rintro σ1 H1 ⟨g1, s1, mo1, r1, q1⟩
        rw [List.drop_length] at q1
        exact q1.nx r1
end
end Ma
/-! Ma7: walks over lists, tuples, the script, ranges, enumerate, the keys of a dict; targets in parentheses. -/
namespace Ma
open L2 PySem
section
variable {C : MC} {g g1 : Gh} {H H1 : Hp} {tg ex : Expr} {a : ME} {pos p : Pos}
def itemsOf : M → Option (List M)
  | .lst ms => some ms
  | .tup ms => some ms
  | .scr ns => some (ns.map M.int)
  | .dct ks _ => some (ks.map fun | .inl i => M.int i | .inr x => M.str x)
  | _ => none
def iSeq (a : ME) : MI := fun s => (a s).bind fun m s1 => match itemsOf m with
  | some ms => .ok ms s1
  | none => .stuck
theorem wk_of {items : List M} {vs : List V} {J : It} {G : Hp → Prop} (w : Walk J items.length G (YAt vs)) (hG : ∀ g1 H1, Mono g H g1 H1 → G H1) (r : RVs C.T g H items vs) : Wk C g H items J := by
  refine ⟨G, YAt vs, w, hG, fun i g1 H1 s σ x H2 hlt mo rel y => ?_⟩
  obtain ⟨rfl, hx⟩ := y
  have hl : i < items.length := by rw [r.length]; exact (List.getElem?_eq_some_iff.mp hx).1
  obtain ⟨v, hv, rv⟩ := r.get (List.getElem?_eq_getElem hl)
  rw [hx] at hv
  cases hv
  exact ⟨_, List.getElem?_eq_getElem hl, Mono.refl _ _, rel, rv.mono mo, Same.refl _⟩
theorem rv_keys {T : Tab} : ∀ ks : List Key, RVs T g H (ks.map fun | .inl i => M.int i | .inr x => M.str x) (ks.map kV)
  | [] => .nil
  | .inl i :: ks => .cons (.int i) (rv_keys ks)
  | .inr x :: ks => .cons (.str x) (rv_keys ks)
theorem zip_get {ks : List Key} {vs : List V} (hl : ks.length = vs.length) {i : Nat} {k : Key} {v : V} (h : (ks.zip vs)[i]? = some (k, v)) : ks[i]? = some k := by
  rw [List.getElem?_zip_eq_some] at h
  exact h.1
theorem im_seq (ha : PMe C ex a) : PMi C tg ex (iSeq a) := by
  refine ⟨fun pins s σ H R I h => ?_⟩
  refine thn (ha.run pins s σ H _ I (rdE_bindI h)) fun u s1 ⟨x, H1, I1, rx, m, ms1, g1, r1, rv, q⟩ => ?_
  obtain ⟨items, hm, k⟩ : ∃ items, itemsOf m = some items ∧ ∀ (J : It), Wk C g1 H1 items J → R J H1 := by
    cases hm : itemsOf m with
    | none => rw [hm] at q; exact q.elim
    | some items => rw [hm] at q; exact ⟨items, rfl, fun J wk => q g1 H1 J (Mono.refl _ _) r1 wk⟩
  have fp1 : ∀ b ∈ [s1.heap.objs.size], FpOk C.X pins H1 b := fun b hb => by
    have e : b = s1.heap.objs.size := by simpa using hb
    subst e
    exact I1.fpOk (Nat.le_refl _) (I1.hok.fresh (Nat.le_refl _))
  cases rv with
  | @lst a _ vs f e rs =>
    cases hm
    cases rx
    have hq : SqL C.X.K H1 a vs := .inl (.inl e)
    obtain ⟨its, rv, pl, hz⟩ := I1.list hq
    refine wpAny_pyIter_list pl.isList ?_
    exact ⟨s1.heap.objs.size, [s1.heap.objs.size], _, _, H1, rfl, I1.kept (t' := s1.toks) fun b o e => Heap.get?_push_of_some _ e, turn_list a _, ⟨_, Heap.get?_push_size _ rfl, rfl, rfl⟩, fp1,
      k _ (wk_of (rs.length ▸ walk_list (K := C.X.K) (a := a) (xs := vs)) (fun g2 H2 mo2 => .inl (.inl ((mo2.fh _ f).trans e))) rs)⟩
  | @tup a _ vs e rs =>
    cases hm
    cases rx
    have hq : SqT C.X.K H1 a vs := .inl (.inl e)
    obtain ⟨its, rv, pl, hz⟩ := I1.tuple hq
    refine wpAny_pyIter_tuple (show s1.heap.IsTuple a its.toArray from pl) ?_
    exact ⟨s1.heap.objs.size, [s1.heap.objs.size], _, _, H1, rfl, I1.kept (t' := s1.toks) fun b o e => Heap.get?_push_of_some _ e, turn_tuple a _, ⟨_, Heap.get?_push_size _ rfl, rfl, rfl⟩, fp1,
      k _ (wk_of (rs.length ▸ walk_tup (K := C.X.K) (a := a) (xs := vs)) (fun g2 H2 mo2 => .inl (.inl (mo2.tup _ _ e))) rs)⟩
  | @scr a o ns f e =>
    cases hm
    cases rx
    have hq : SqL C.X.K H1 a (ns.map V.int) := .inl (.inr ⟨_, e⟩)
    obtain ⟨its, rv, pl, hz⟩ := I1.list hq
    refine wpAny_pyIter_list pl.isList ?_
    exact ⟨s1.heap.objs.size, [s1.heap.objs.size], _, _, H1, rfl, I1.kept (t' := s1.toks) fun b o e => Heap.get?_push_of_some _ e, turn_list a _, ⟨_, Heap.get?_push_size _ rfl, rfl, rfl⟩, fp1,
      k _ (wk_of ((RVs.ints (T := C.T) (g := g1) (H := H1) ns).length ▸ walk_list (K := C.X.K) (a := a) (xs := ns.map V.int)) (fun g2 H2 mo2 => .inl (.inr ⟨_, (mo2.fh _ f).trans e⟩)) (RVs.ints ns))⟩
  | @scrK a ns e =>
    cases hm
    cases rx
    have hq : ∀ H, SqL C.X.K H a (ns.map V.int) := fun H => by rw [C.hK]; exact e H
    obtain ⟨its, rv, pl, hz⟩ := I1.list (hq H1)
    refine wpAny_pyIter_list pl.isList ?_
    exact ⟨s1.heap.objs.size, [s1.heap.objs.size], _, _, H1, rfl, I1.kept (t' := s1.toks) fun b o e => Heap.get?_push_of_some _ e, turn_list a _, ⟨_, Heap.get?_push_size _ rfl, rfl, rfl⟩, fp1,
      k _ (wk_of ((RVs.ints (T := C.T) (g := g1) (H := H1) ns).length ▸ walk_list (K := C.X.K) (a := a) (xs := ns.map V.int)) (fun g2 H2 mo2 => hq H2) (RVs.ints ns))⟩
  | @dct a o ks ms vs f l e rs =>
    cases hm
    obtain rfl : u = Value.ref a := rx
    obtain ⟨hs, hgd, hx, es, ep, vs', hdt, hsz, kv, hm⟩ := I1.frzK e
    have hl : (ks.map fun | .inl i => M.int i | .inr x => M.str x : List M).length = (ks.zip vs).length := by simp [l]
    refine iter_keys hs hgd hx hdt (pi_one (tk := s1.toks) I1 _ (turn_keys (d := a) (kvs := ks.zip vs) _ hdt) ⟨_, Heap.get?_push_size _ rfl, rfl, ?_⟩ (k _ ?_))
    · rw [hsz] <;> rfl
    · refine wk_of (vs := ks.map kV) (G := fun H => H a = some (.frz o (.dK (ks.zip vs)))) ?_ (fun g2 H2 mo2 => (mo2.fh _ f).trans e) (rv_keys ks)
      rw [hl]
      refine walk_keys.mono (fun _ h => h) fun i H x H' hi hg ⟨e1, k, v, e2, e3⟩ => ⟨e1, ?_⟩
      rw [List.getElem?_map, zip_get l e2, e3]
      rfl
  | _ => cases hm
/-- range(n) -/
def upTo (lo : Int) (n : Nat) : List M := (List.range n).map fun i => M.int (lo + (i : Nat))
def iRange1 (a : MA) : MI := fun s => (a s).bind fun ms s1 => match ms with
  | [.int j] => if -(2 ^ 62) ≤ j ∧ j < 2 ^ 62 then .ok (upTo 0 j.toNat) s1 else .stuck
  | _ => .stuck
theorem upTo_get {lo : Int} {n i : Nat} (h : i < n) : (upTo lo n)[i]? = some (M.int (lo + (i : Nat))) := by
  unfold upTo
  rw [List.getElem?_map, List.getElem?_range h]
  rfl
theorem wk_range {lo : Int} {n : Nat} : Wk C g H (upTo lo n) (Itr lo n) := by
  have hl : (upTo lo n).length = n := by simp [upTo]
  refine ⟨fun _ => True, YFn fun i => .int (lo + i), by rw [hl]; exact walk_range, fun _ _ _ => trivial, fun i g1 H1 s σ x H2 hlt mo rel y => ?_⟩
  obtain ⟨rfl, rfl⟩ := y
  exact ⟨_, upTo_get (hl ▸ hlt), Mono.refl _ _, rel, .int _, Same.refl _⟩
theorem wkI {X : Cx} {tg e : Expr} {t t' : TI} (h : PI X tg e t) (k : ∀ σ H Q, t' σ H Q → t σ H Q) : PI X tg e t' := ⟨fun pins s σ H Q I q => h.run pins s σ H Q I (k _ _ _ q)⟩
theorem im_range1 {ma : MA} (ha : PMa C [ex] ma) (hm : C.X.mg "range" = none) (hg : Gl C.X "range" := by rfl) (hs : starEach [ex] C.X.env = [(false, eval ex C.X.env)] := by rfl) : PMi C tg (.Call (.Name "range" p) [ex] [] pos) (iRange1 ma) :=
  wkI (pi_range1 hg hm ha hs) fun σ H R h => by
    obtain ⟨g, s, r, q⟩ := rdA_bindI h
    refine ⟨g, s, r, q.imp ?_⟩
    rintro xs H1 ⟨vs, s1, g1, r1, rv, q2⟩
    cases rv with
    | nil => exact q2.elim
    | cons rv1 rv => cases rv with
      | cons _ _ => cases rv1 <;> exact q2.elim
      | nil => cases rv1 with
        | int j =>
          have q2 : GoI C σ (if -(2 ^ 62) ≤ j ∧ j < 2 ^ 62 then .ok (upTo 0 j.toNat) s1 else .stuck) g1 H1 R := q2
          by_cases hj : -(2 ^ 62) ≤ j ∧ j < 2 ^ 62
          · rw [if_pos hj] at q2
            exact ⟨j, rfl, hj.1, hj.2, q2 g1 H1 _ (Mono.refl _ _) r1 wk_range⟩
          · rw [if_neg hj] at q2
            exact q2.elim
        | _ => exact q2.elim
end
end Ma
/-! Ma8: operators: numbers, texts, lists, tuples; == over data. -/
namespace Ma
open L2 PySem
abbrev big : Nat := 16777216
theorem big_le {n : Nat} (h : n ≤ big) : n ≤ sizeLine := by rw [sizeLine_eq]; exact h
def lstOf (hp : List Cell) : M → Option (List M)
  | .lst ms => some ms
  | .box n => match hp[n]? with
    | some (.lst ms) => some ms
    | _ => none
  | _ => none
/-- a list that can be read as one -/
def seqL (hp : List Cell) : M → Option (List M)
  | .scr ns => some (ns.map M.int)
  | m => lstOf hp m
section
variable {C : MC} {g g1 : Gh} {H H1 : Hp} {s : MS} {σ : L2.St}
theorem Rel.cellAt (r : C.rel g s σ H) {n : Nat} {c : Cell} {x : V} (h : s.hp[n]? = some c) (rv : RV C.T g H (.box n) x) : ∃ a, x = .ref a ∧ g.ro[n]? = some a ∧ CellR C.T g H c a := by
  cases rv with
  | box e => exact ⟨_, rfl, e, r.h.cell n c _ h e⟩
theorem lstOf_at (r : C.rel g s σ H) {m : M} {ms : List M} {x : V} (h : lstOf s.hp m = some ms) (rv : RV C.T g H m x) : ∃ a vs, x = .ref a ∧ H a = some (.lst vs) ∧ RVs C.T g H ms vs := by
  cases rv with
  | lst f e rs => cases h; exact ⟨_, _, rfl, e, rs⟩
  | @box n a e =>
    unfold lstOf at h
    dsimp only at h
    cases hc : s.hp[n]? with
    | none => rw [hc] at h; cases h
    | some c =>
      rw [hc] at h
      cases c with
      | lst ms' =>
        cases h
        obtain ⟨vs, h1, h2⟩ := r.h.cell n _ a hc e
        exact ⟨a, vs, rfl, h1, h2⟩
      | _ => cases h
  | _ => cases h
theorem seqL_at (r : C.rel g s σ H) {m : M} {ms : List M} {x : V} (h : seqL s.hp m = some ms) (rv : RV C.T g H m x) : ∃ a vs, x = .ref a ∧ SqL C.X.K H a vs ∧ RVs C.T g H ms vs := by
  by_cases hs : ∃ ns, m = .scr ns
  · obtain ⟨ns, rfl⟩ := hs
    cases h
    cases rv with
    | scr f e => exact ⟨_, _, rfl, .inl (.inr ⟨_, e⟩), RVs.ints ns⟩
    | scrK e => exact ⟨_, _, rfl, by rw [C.hK]; exact e H, RVs.ints ns⟩
  · have h' : lstOf s.hp m = some ms := by
      cases m <;> first | exact h | exact absurd ⟨_, rfl⟩ hs
    obtain ⟨a, vs, e, h1, h2⟩ := lstOf_at r h' rv
    exact ⟨a, vs, e, .inl (.inl h1), h2⟩
/-- a new list, frozen -/
def Gh.add (g : Gh) (p : Addr) : Gh := ⟨g.ro, fun a => g.fz a ∨ a = p⟩
def Gh.box (g : Gh) (p : Addr) : Gh := ⟨g.ro ++ [p], g.fz⟩
theorem Rel.frz (r : C.rel g s σ H) {p : Addr} {o : HO} (hn : H p = none) (ho : NoTbl o := by first | exact Plain.tbl (by assumption) | assumption | exact fun _ z => by cases z | exact fun _ z => by unfold XO at z; cases z) : C.rel (g.add p) s σ (upd H p o) ∧ Mono g H (g.add p) (upd H p o) := by
  have hm := mono_laid (o := o) r.h hn
  have r1 := r.laid (o := o) hn ho
  have mo : Mono g (upd H p o) (g.add p) (upd H p o) := ⟨⟨List.prefix_refl _, fun _ h => .inl h, fun _ _ => rfl, fun _ _ h => h⟩, fun _ _ _ h => h⟩
  refine ⟨r1.env mo ⟨r1.h.len, r1.h.nd, fun n c a h1 h2 => (r1.h.cell n c a h1 h2).mono mo rfl, fun n c a h1 h2 lv f => ?_, fun a f => ?_, r1.h.rot, r1.h.frm, fun a f => ?_, r1.h.nro, r1.h.m0.trans mo, r1.h.tb.more (fun a f => f.imp id fun z => ⟨o, by rw [z]; exact upd_same, ho⟩), r1.h.tbe⟩, hm.trans mo⟩
  · rcases f with f | rfl
    · exact r1.h.thaw n c a h1 h2 lv f
    · obtain ⟨u, q⟩ := r.h.rot a (List.mem_of_getElem? h2)
      rw [hn] at q; cases q
  · rcases f with f | rfl
    · exact r1.h.fzt a f
    · exact ⟨_, upd_same⟩
  · rcases f with f | rfl
    · exact r1.h.nfz a f
    · right
      cases q : C.e.H a with
      | none => exact .inl rfl
      | some u =>
        by_cases hr : a ∈ C.e.g.ro
        · exact .inr hr
        · have := r.h.frm a u q hr
          rw [hn] at this; cases this
theorem Go.newL {ms : List M} {vs : List V} {Q : VK} {p : Addr} (h : Go C C.V1 σ (.ok (.lst ms) s) g H Q) (r : C.rel g s σ H) (rs : RVs C.T g H ms vs) (hn : H p = none) : Q (.ref p) (upd H p (.lst vs)) := by
  obtain ⟨r2, mo⟩ := r.frz (o := .lst vs) hn
  exact h (g.add p) _ _ mo r2 (.lst (.inr rfl) upd_same (rs.mono mo))
theorem Go.newT {ms : List M} {vs : List V} {Q : VK} {p : Addr} (h : Go C C.V1 σ (.ok (.tup ms) s) g H Q) (r : C.rel g s σ H) (rs : RVs C.T g H ms vs) (hn : H p = none) : Q (.ref p) (upd H p (.tup vs)) := by
  have mo := mono_laid (o := .tup vs) r.h hn
  exact h g _ _ mo (r.laid hn) (.tup upd_same (rs.mono mo))
theorem Go.same {m : M} {Q : VK} {x : V} (h : Go C C.V1 σ (.ok m s) g H Q) (r : C.rel g s σ H) (rv : RV C.T g H m x) : Q x H := h.ret r rv
def oAdd (x y : M) (s : MS) : Res M := match x, y with
  | .int i, .int j => .ok (.int (i + j)) s
  | .str a, .str b => if a.length + b.length ≤ big then .ok (.str (a ++ b)) s else .stuck
  | .tup a, .tup b => if a.length + b.length ≤ big then .ok (.tup (a ++ b)) s else .stuck
  | x, y => match lstOf s.hp x, lstOf s.hp y with
    | some a, some b => if a.length + b.length ≤ big then .ok (.lst (a ++ b)) s else .stuck
    | _, _ => .stuck
theorem OpR.alt {X : Cx} {f : Value → Value → Sem Value} {r r' : R2} (h : OpR X f r) (h' : OpR X f r') : OpR X f (fun x y H Q => r x y H Q ∨ r' x y H Q) := by
  intro pins s σ H x y v u Q I rx ry q
  rcases q with q | q
  · exact h pins s σ H x y v u Q I rx ry q
  · exact h' pins s σ H x y v u Q I rx ry q
theorem oAdd_lst {x y : M} {Q : VK} {vx vy : V} (h : Go C C.V1 σ (match lstOf s.hp x, lstOf s.hp y with
    | some a, some b => if a.length + b.length ≤ big then .ok (.lst (a ++ b)) s else .stuck
    | _, _ => .stuck) g H Q) (r : C.rel g s σ H) (r1 : RV C.T g H x vx) (r2 : RV C.T g H y vy) : rCat vx vy H Q := by
  cases hx : lstOf s.hp x with
  | none => rw [hx] at h; exact h.elim
  | some a =>
    cases hy : lstOf s.hp y with
    | none => rw [hx, hy] at h; exact h.elim
    | some b =>
      rw [hx, hy] at h
      dsimp only at h
      by_cases hb : a.length + b.length ≤ big
      · rw [if_pos hb] at h
        obtain ⟨l, vs, rfl, e1, q1⟩ := lstOf_at r hx r1
        obtain ⟨l2, ws, rfl, e2, q2⟩ := lstOf_at r hy r2
        exact ⟨l, l2, vs, ws, rfl, rfl, e1, e2, by rw [← q1.length, ← q2.length]; exact big_le hb, fun p hp => h.newL r (q1.app q2) hp⟩
      · rw [if_neg hb] at h; exact h.elim
theorem ok_add : Op2Ok C (binaryOp .Add) oAdd := by
  refine Op2Ok.of (OpR.alt op_add (OpR.alt op_add_str (OpR.alt op_catA op_cat))) fun σ H g s m1 m2 x y Q r r1 r2 h => ?_
  unfold oAdd at h
  split at h
  · cases r1; cases r2
    exact .inl ⟨_, _, rfl, rfl, h.same r (.int _)⟩
  · rename_i a b
    cases r1; cases r2
    by_cases hb : a.length + b.length ≤ big
    · rw [if_pos hb] at h
      exact .inr (.inl ⟨_, _, rfl, rfl, big_le hb, h.same r (.str _)⟩)
    · rw [if_neg hb] at h; exact h.elim
  · rename_i a b
    by_cases hb : a.length + b.length ≤ big
    · rw [if_pos hb] at h
      cases r1 with
      | @tup pa _ vs e1 q1 => cases r2 with
        | @tup pb _ ws e2 q2 =>
          refine .inr (.inr (.inl ⟨pa, pb, vs, ws, rfl, rfl, .inl (.inl e1), .inl (.inl e2), by rw [← q1.length, ← q2.length]; exact big_le hb, fun z => ?_, fun _ z => ?_, fun _ _ p hp => h.newT r (q1.app q2) hp⟩))
          · subst z; cases q1
            exact h.same r (.tup e2 q2)
          · subst z; cases q2
            rw [List.append_nil] at h
            exact h.same r (.tup e1 q1)
    · rw [if_neg hb] at h; exact h.elim
  · exact .inr (.inr (.inr (oAdd_lst h r r1 r2)))
/-- int, int -/
def oInt (ok : Int → Int → Bool) (f : Int → Int → M) (x y : M) (s : MS) : Res M := match x, y with
  | .int i, .int j => if ok i j = true then .ok (f i j) s else .stuck
  | _, _ => .stuck
theorem oInt_at {ok : Int → Int → Bool} {f : Int → Int → M} {m1 m2 : M} {x y : V} {Q : VK} (h : Go C C.V1 σ (oInt ok f m1 m2 s) g H Q) (r1 : RV C.T g H m1 x) (r2 : RV C.T g H m2 y) :
    ∃ i j, x = .int i ∧ y = .int j ∧ ok i j = true ∧ Go C C.V1 σ (.ok (f i j) s) g H Q := by
  unfold oInt at h
  split at h
  · rename_i i j
    cases r1; cases r2
    by_cases hk : ok i j = true
    · rw [if_pos hk] at h; exact ⟨i, j, rfl, rfl, hk, h⟩
    · rw [if_neg hk] at h; exact h.elim
  · exact h.elim
abbrev yes : Int → Int → Bool := fun _ _ => true
def oSub := oInt yes fun i j => .int (i - j)
theorem ok_sub : Op2Ok C (binaryOp .Sub) oSub := Op2Ok.of op_sub fun σ H g s m1 m2 x y Q r r1 r2 h => by
  obtain ⟨i, j, rfl, rfl, _, q⟩ := oInt_at h r1 r2
  exact ⟨i, j, rfl, rfl, q.same r (.int _)⟩
def mulOk (i j : Int) : Bool := decide ((-(2 ^ 64) < i ∧ i < 2 ^ 64) ∨ (-(2 ^ 64) < j ∧ j < 2 ^ 64))
def repL (k : Int) (ms : List M) : List M := (List.replicate k.toNat ms).flatten
def oMul (x y : M) (s : MS) : Res M := oInt mulOk (fun i j => .int (i * j)) x y s
theorem ok_mul : Op2Ok C (binaryOp .Mult) oMul := Op2Ok.of op_mul fun σ H g s m1 m2 x y Q r r1 r2 h => by
  obtain ⟨i, j, rfl, rfl, k, q⟩ := oInt_at h r1 r2
  exact ⟨i, j, rfl, rfl, (by simpa [mulOk, CMul, CDiv, CPow] using k), q.same r (.int _)⟩
def oMod := oInt (fun _ j => decide (0 < j)) fun i j => .int (i % j)
theorem ok_mod : Op2Ok C (binaryOp .Mod) oMod := Op2Ok.of op_mod fun σ H g s m1 m2 x y Q r r1 r2 h => by
  obtain ⟨i, j, rfl, rfl, k, q⟩ := oInt_at h r1 r2
  exact ⟨i, j, rfl, rfl, (by simpa [mulOk, CMul, CDiv, CPow] using k), q.same r (.int _)⟩
def oPow := oInt (fun i j => decide (0 ≤ j ∧ j ≤ 1000000 ∧ i.natAbs < 2 ^ 64)) fun i j => .int (i ^ j.toNat)
theorem ok_pow : Op2Ok C (binaryOp .Pow) oPow := Op2Ok.of op_pow fun σ H g s m1 m2 x y Q r r1 r2 h => by
  obtain ⟨i, j, rfl, rfl, k, q⟩ := oInt_at h r1 r2
  exact ⟨i, j, rfl, rfl, (by simpa [mulOk, CMul, CDiv, CPow] using k), q.same r (.int _)⟩
def oLt := oInt yes fun i j => .bl (decide (i < j))
theorem ok_lt : Op2Ok C (compareOp .Lt) oLt := Op2Ok.of op_lt fun σ H g s m1 m2 x y Q r r1 r2 h => by
  obtain ⟨i, j, rfl, rfl, k, q⟩ := oInt_at h r1 r2
  exact ⟨i, j, rfl, rfl, q.same r (.bl _)⟩
def oLe := oInt yes fun i j => .bl (decide (i ≤ j))
theorem ok_le : Op2Ok C (compareOp .LtE) oLe := Op2Ok.of op_le fun σ H g s m1 m2 x y Q r r1 r2 h => by
  obtain ⟨i, j, rfl, rfl, k, q⟩ := oInt_at h r1 r2
  exact ⟨i, j, rfl, rfl, q.same r (.bl _)⟩
def oGt := oInt yes fun i j => .bl (decide (j < i))
theorem ok_gt : Op2Ok C (compareOp .Gt) oGt := Op2Ok.of op_gt fun σ H g s m1 m2 x y Q r r1 r2 h => by
  obtain ⟨i, j, rfl, rfl, k, q⟩ := oInt_at h r1 r2
  exact ⟨i, j, rfl, rfl, q.same r (.bl _)⟩
def oGe := oInt yes fun i j => .bl (decide (j ≤ i))
theorem ok_ge : Op2Ok C (compareOp .GtE) oGe := Op2Ok.of op_ge fun σ H g s m1 m2 x y Q r r1 r2 h => by
  obtain ⟨i, j, rfl, rfl, k, q⟩ := oInt_at h r1 r2
  exact ⟨i, j, rfl, rfl, q.same r (.bl _)⟩
/-! ### data -/
mutual
def dat : M → Option PyData
  | .non => some .none
  | .bl b => some (.bool b)
  | .int i => some (.int i)
  | .str x => some (.str x)
  | .tup ms => (datL ms).map .tuple
  | .lst ms => (datL ms).map .list
  | .scr ns => some (.list (ns.map .int))
  | _ => none
def datL : List M → Option (List PyData)
  | [] => some []
  | m :: ms => match dat m, datL ms with
    | some d, some ds => some (d :: ds)
    | _, _ => none
end
theorem dp_ints {K : PySem.W.Frag} : ∀ ns : List Int, DpAll K H (ns.map V.int) (ns.map PyData.int)
  | [] => .nil
  | n :: ns => .cons (.int n) (dp_ints ns)
mutual
theorem dat_dp {T : Tab} : ∀ {m : M} {x : V} {d : PyData}, RV T g H m x → dat m = some d → Dp T.K H x d
  | _, _, _, .non, h => by cases h; exact .non
  | _, _, _, .bl b, h => by cases h; exact .bl b
  | _, _, _, .int i, h => by cases h; exact .int i
  | _, _, _, .str z, h => by cases h; exact .str z
  | _, _, _, .byt b, h => by cases h
  | _, _, _, @RV.tup _ _ _ a ms vs e rs, h => by
    unfold dat at h
    cases hd : datL ms with
    | none => rw [hd] at h; cases h
    | some ds => rw [hd] at h; cases h; exact .tup (.inl (.inl e)) (datL_dp rs hd)
  | _, _, _, @RV.lst _ _ _ a ms vs f e rs, h => by
    unfold dat at h
    cases hd : datL ms with
    | none => rw [hd] at h; cases h
    | some ds => rw [hd] at h; cases h; exact .lst (.inl (.inl e)) (datL_dp rs hd)
  | _, _, _, .dct _ _ _ _, h => by cases h
  | _, _, _, @RV.scr _ _ _ a o ns f e, h => by cases h; exact .lst (.inl (.inr ⟨_, e⟩)) (dp_ints ns)
  | _, _, _, @RV.scrK _ _ _ a ns e, h => by cases h; exact .lst (e H) (dp_ints ns)
  | _, _, _, .box _, h => by cases h
  | _, _, _, .exn _ _ _, h => by cases h
  | _, _, _, .cls _, h => by cases h
  | _, _, _, .ty _, h => by cases h
theorem datL_dp {T : Tab} : ∀ {ms : List M} {xs : List V} {ds : List PyData}, RVs T g H ms xs → datL ms = some ds → DpAll T.K H xs ds
  | _, _, _, .nil, h => by cases h; exact .nil
  | _, _, _, @RVs.cons _ _ _ m v ms vs r rs, h => by
    unfold datL at h
    cases hd : dat m with
    | none => rw [hd] at h; cases h
    | some d =>
      cases hds : datL ms with
      | none => rw [hd, hds] at h; cases h
      | some ds => rw [hd, hds] at h; cases h; exact .cons (dat_dp r hd) (datL_dp rs hds)
end
/-- data, a list in a box too -/
def datT (hp : List Cell) (m : M) : Option PyData := match m with
  | .box _ => match lstOf hp m with
    | some ms => (datL ms).map .list
    | none => none
  | m => dat m
theorem datT_dp (r : C.rel g s σ H) {m : M} {x : V} {d : PyData} (rv : RV C.T g H m x) (h : datT s.hp m = some d) : Dp C.X.K H x d := by
  rw [C.hK]
  cases m with
  | box n =>
    unfold datT at h
    dsimp only at h
    cases hl : lstOf s.hp (.box n) with
    | none => rw [hl] at h; cases h
    | some ms =>
      rw [hl] at h
      dsimp only at h
      obtain ⟨a, vs, rfl, e, rs⟩ := lstOf_at r hl rv
      cases hd : datL ms with
      | none => rw [hd] at h; cases h
      | some ds => rw [hd] at h; cases h; exact .lst (.inl (.inl e)) (datL_dp rs hd)
  | _ => exact dat_dp rv h
def oEqD (neg : Bool) (x y : M) (s : MS) : Res M := match datT s.hp x, datT s.hp y with
  | some d, some e => if (SeqAt.shaped d && SeqAt.shaped e) = true then .ok (.bl (if neg then !PyData.eqv d e else PyData.eqv d e)) s else .stuck
  | _, _ => .stuck
theorem oEqD_at {neg : Bool} {m1 m2 : M} {x y : V} {Q : VK} (h : Go C C.V1 σ (oEqD neg m1 m2 s) g H Q) (r : C.rel g s σ H) (r1 : RV C.T g H m1 x) (r2 : RV C.T g H m2 y) :
    ∃ d e, Dp C.X.K H x d ∧ Dp C.X.K H y e ∧ SeqAt.shaped d = true ∧ SeqAt.shaped e = true ∧ Q (.bl (if neg then !PyData.eqv d e else PyData.eqv d e)) H := by
  unfold oEqD at h
  split at h
  · rename_i d e h1 h2
    by_cases hs : (SeqAt.shaped d && SeqAt.shaped e) = true
    · rw [if_pos hs] at h
      obtain ⟨s1, s2⟩ := Bool.and_eq_true_iff.mp hs
      exact ⟨d, e, datT_dp r r1 h1, datT_dp r r2 h2, s1, s2, h.same r (.bl _)⟩
    · rw [if_neg hs] at h; exact h.elim
  · exact h.elim
theorem ok_eqD (hu : C.X.A.units + 64 < cLine) : Op2Ok C (compareOp .Eq) (oEqD false) := Op2Ok.of (op_eqD hu) fun σ H g s m1 m2 x y Q r r1 r2 h => oEqD_at h r r1 r2
theorem ok_neD (hu : C.X.A.units + 64 < cLine) : Op2Ok C (compareOp .NotEq) (oEqD true) := Op2Ok.of (op_neD hu) fun σ H g s m1 m2 x y Q r r1 r2 h => oEqD_at h r r1 r2
end
end Ma
/-! Ma9: displays, subscripts, slices, built-in functions, methods of lists, stores. -/
namespace Ma
open L2 PySem
section
variable {C : MC} {g g1 : Gh} {H H1 : Hp} {s : MS} {σ : L2.St} {ex : Expr} {es : List Expr} {a b : ME} {ma : MA} {pos p p2 : Pos} {x : Str}
theorem rdA_bind {γ δ : Type} {S : Gh → Hp → γ → δ → Prop} {σ : L2.St} {H : Hp} {f : List M → MS → Res γ} {Q : δ → Hp → Prop} (h : ∃ g s, C.rel g s σ H ∧ Go C S σ ((ma s).bind f) g H Q) :
    rdA C ma σ H fun xs H1 => ∃ m s1 g1, C.rel g1 s1 σ H1 ∧ RVs C.T g1 H1 m xs ∧ Go C S σ (f m s1) g1 H1 Q := by
  obtain ⟨g, s, r, q⟩ := h
  refine ⟨g, s, r, (Go.bind (R := C.Vn) q).imp ?_⟩
  rintro x H1 ⟨m, s1, g1, mo, r1, rv, q1⟩
  exact ⟨m, s1, g1, r1, rv, q1⟩
/-! ### displays -/
def mLst (a : MA) : ME := fun s => (a s).bind fun ms s1 => if ms.length ≤ big then .ok (.lst ms) s1 else .stuck
def mTup (a : MA) : ME := fun s => (a s).bind fun ms s1 => if ms.length ≤ big then .ok (.tup ms) s1 else .stuck
theorem em_lst (h : PMa C es ma) : PMe C (.List es pos) (mLst ma) := wkE (pe_lst h) fun σ H Q q => by
  obtain ⟨g, s, r, q⟩ := rdA_bind q
  refine ⟨g, s, r, q.imp ?_⟩
  rintro xs H1 ⟨ms, s1, g1, r1, rs, q1⟩
  by_cases hb : ms.length ≤ big
  · rw [if_pos hb] at q1
    exact ⟨by rw [← rs.length]; exact big_le hb, fun p hp => q1.newL r1 rs hp⟩
  · rw [if_neg hb] at q1; exact q1.elim
theorem em_tup {x1} (h : PMa C es ma) : PMe C (.Tuple es x1 pos) (mTup ma) := wkE (pe_tup h) fun σ H Q q => by
  obtain ⟨g, s, r, q⟩ := rdA_bind q
  refine ⟨g, s, r, q.imp ?_⟩
  rintro xs H1 ⟨ms, s1, g1, r1, rs, q1⟩
  by_cases hb : ms.length ≤ big
  · rw [if_pos hb] at q1
    exact ⟨by rw [← rs.length]; exact big_le hb, fun p hp => q1.newT r1 rs hp⟩
  · rw [if_neg hb] at q1; exact q1.elim
/-- a new box -/
theorem Rel.box (r : C.rel g s σ H) {p : Addr} {o : HO} {c : Cell} (hn : H p = none) (hc : ∀ g', Mono g H g' (upd H p o) → CellR C.T g' (upd H p o) c p) (ho : Plain o := by exact ⟨⟨fun _ _ z => (by unfold LamX.CodeO at z; cases z), fun _ z => (by cases z)⟩, fun _ z => (by cases z)⟩) : C.rel (g.box p) ⟨s.env, s.hp ++ [c]⟩ σ (upd H p o) ∧ Mono g H (g.box p) (upd H p o) := by
  have hm := mono_laid (o := o) r.h hn
  have r1 := r.laid (o := o) hn ho.tbl
  have mo : Mono g (upd H p o) (g.box p) (upd H p o) := ⟨⟨List.prefix_append _ _, fun _ h => h, fun _ _ => rfl, fun _ _ h => h⟩, fun _ _ _ h => h⟩
  have pn : p ∉ g.ro := fun hp => by obtain ⟨u, q⟩ := r.h.rot p hp; rw [hn] at q; cases q
  refine ⟨r1.env mo ⟨by simp [Gh.box, r.h.len], ?_, fun n c' a h1 h2 => ?_, fun n c' a h1 h2 lv f => ?_, r1.h.fzt, fun a h => ?_, r1.h.frm, r1.h.nfz, fun a h => ?_, r1.h.m0.trans mo, r1.h.tb.box (fun u z => by rw [upd_same] at z; cases z; exact ho), r1.h.tbe⟩, hm.trans mo⟩
  · show (g.ro ++ [p]).Nodup
    rw [List.nodup_append]
    refine ⟨r.h.nd, by simp, fun x hx y hy => ?_⟩
    simp at hy
    subst hy
    rintro rfl
    exact pn hx
  · have h2 : (g.ro ++ [p])[n]? = some a := h2
    by_cases hl : n < s.hp.length
    · rw [List.getElem?_append_left hl] at h1
      rw [List.getElem?_append_left (by rw [r.h.len]; exact hl)] at h2
      exact (r1.h.cell n c' a h1 h2).mono mo rfl
    · rw [List.getElem?_append_right (Nat.le_of_not_lt hl)] at h1
      rw [List.getElem?_append_right (by rw [r.h.len]; exact Nat.le_of_not_lt hl), r.h.len] at h2
      cases hk : n - s.hp.length with
      | zero => rw [hk] at h1 h2; cases h1; cases h2; exact hc _ (hm.trans mo)
      | succ k => rw [hk] at h1; cases h1
  · have h2 : (g.ro ++ [p])[n]? = some a := h2
    by_cases hl : n < s.hp.length
    · rw [List.getElem?_append_left hl] at h1
      rw [List.getElem?_append_left (by rw [r.h.len]; exact hl)] at h2
      exact r.h.thaw n c' a h1 h2 lv f
    · rw [List.getElem?_append_right (by rw [r.h.len]; exact Nat.le_of_not_lt hl), r.h.len] at h2
      cases hk : n - s.hp.length with
      | zero =>
        rw [hk] at h2
        cases h2
        obtain ⟨u, q⟩ := r.h.fzt p f
        rw [hn] at q; cases q
      | succ k => rw [hk] at h2; cases h2
  · have h : a ∈ g.ro ++ [p] := h
    rcases List.mem_append.mp h with h | h
    · exact r1.h.rot a h
    · simp at h; subst h; exact ⟨_, upd_same⟩
  · have h : a ∈ g.ro ++ [p] := h
    rcases List.mem_append.mp h with h | h
    · exact r.h.nro a h
    · simp at h
      subst h
      cases q : C.e.H a with
      | none => exact .inr rfl
      | some u =>
        by_cases hr : a ∈ C.e.g.ro
        · exact .inl hr
        · have := r.h.frm a u q hr
          rw [hn] at this; cases this
theorem Rel.boxL (r : C.rel g s σ H) {ms : List M} {vs : List V} {Q : VK} {p : Addr} (h : Go C C.V1 σ (.ok (.box s.hp.length) ⟨s.env, s.hp ++ [.lst ms]⟩) g H Q) (rs : RVs C.T g H ms vs) (hn : H p = none) : Q (.ref p) (upd H p (.lst vs)) := by
  obtain ⟨r2, mo⟩ := r.box (o := .lst vs) (c := .lst ms) hn fun g' mo => ⟨vs, upd_same, rs.mono mo⟩
  exact h (g.box p) _ _ mo r2 (.box (by show (g.ro ++ [p])[s.hp.length]? = some p; rw [← r.h.len, List.getElem?_concat_length]))
def mLstB (a : MA) : ME := fun s => (a s).bind fun ms s1 => if ms.length ≤ big then .ok (.box s1.hp.length) ⟨s1.env, s1.hp ++ [.lst ms]⟩ else .stuck
theorem em_lstB (h : PMa C es ma) : PMe C (.List es pos) (mLstB ma) := wkE (pe_lst h) fun σ H Q q => by
  obtain ⟨g, s, r, q⟩ := rdA_bind q
  refine ⟨g, s, r, q.imp ?_⟩
  rintro xs H1 ⟨ms, s1, g1, r1, rs, q1⟩
  by_cases hb : ms.length ≤ big
  · rw [if_pos hb] at q1
    exact ⟨by rw [← rs.length]; exact big_le hb, fun p hp => Rel.boxL r1 q1 rs hp⟩
  · rw [if_neg hb] at q1; exact q1.elim
/-! ### subscripts, slices -/
def oIx (x y : M) (s : MS) : Res M := match y with
  | .int i => match x with
    | .tup ms => match atI ms i with
      | some m => .ok m s
      | none => .stuck
    | .str z => match atI z.cps.toList i with
      | some c => if z.length ≤ big then .ok (.str ⟨#[c]⟩) s else .stuck
      | none => .stuck
    | x => match seqL s.hp x with
      | some ms => match atI ms i with
        | some m => .ok m s
        | none => .stuck
      | none => .stuck
  | _ => .stuck
theorem atI_rv {ms : List M} {vs : List V} {i : Int} {m : M} {T : Tab} (rs : RVs T g H ms vs) (h : atI ms i = some m) : ∃ v, atI vs i = some v ∧ RV T g H m v := by
  unfold atI at h ⊢
  rw [← rs.length]
  cases hj : ixN ms.length i with
  | none => rw [hj] at h; cases h
  | some j => rw [hj] at h; exact rs.get h
theorem oIx_at {m1 m2 : M} {x y : V} {Q : VK} (h : Go C C.V1 σ (oIx m1 m2 s) g H Q) (r : C.rel g s σ H) (r1 : RV C.T g H m1 x) (r2 : RV C.T g H m2 y) : rIx C.X.K x y H Q := by
  unfold oIx at h
  split at h
  · rename_i i
    cases r2
    split at h
    · rename_i ms
      split at h
      · rename_i m hm
        cases r1 with
        | tup e rs =>
          obtain ⟨v, hv, rv⟩ := atI_rv rs hm
          exact .inr (.inl ⟨_, _, i, v, rfl, rfl, .inl (.inl e), hv, h.same r rv⟩)
      · exact h.elim
    · rename_i z
      split at h
      · rename_i c hc
        by_cases hb : z.length ≤ big
        · rw [if_pos hb] at h
          cases r1
          exact .inr (.inr ⟨z, i, c, rfl, rfl, big_le hb, hc, h.same r (.str _)⟩)
        · rw [if_neg hb] at h; exact h.elim
      · exact h.elim
    · split at h
      · rename_i ms hms
        split at h
        · rename_i m hm
          obtain ⟨q, vs, rfl, hq, rs⟩ := seqL_at r hms r1
          obtain ⟨v, hv, rv⟩ := atI_rv rs hm
          exact .inl ⟨q, vs, i, v, rfl, rfl, hq, hv, h.same r rv⟩
        · exact h.elim
      · exact h.elim
  · exact h.elim
/-- a part of a slice -/
abbrev MO := MS → Res (Option Int)
def rdO (C : MC) (m : MO) : TO := fun σ H Q => ∃ g s, C.rel g s σ H ∧ Go C REq σ (m s) g H Q
def oNo : MO := fun s => .ok none s
def oSome (a : ME) : MO := fun s => (a s).bind fun m s1 => match m with
  | .int i => .ok (some i) s1
  | _ => .stuck
abbrev PMo (C : MC) (e : Option Expr) (m : MO) : Prop := PO C.X e (rdO C m)
theorem wkO {X : Cx} {e : Option Expr} {t t' : TO} (h : PO X e t) (k : ∀ σ H Q, t' σ H Q → t σ H Q) : PO X e t' := ⟨fun pins s σ H Q I q => h.run pins s σ H Q I (k _ _ _ q)⟩
theorem om_none : PMo C none oNo := wkO po_none fun σ H Q ⟨g, s, r, q⟩ => q.ret r rfl
theorem om_some (h : PMe C ex a) : PMo C (some ex) (oSome a) := wkO (po_some h) fun σ H Q q => by
  obtain ⟨g, s, r, q⟩ := rdE_bind q
  refine ⟨g, s, r, q.imp ?_⟩
  rintro x H1 ⟨m, s1, g1, r1, rv, q1⟩
  cases rv with
  | int i => exact ⟨i, rfl, q1.ret r1 rfl⟩
  | _ => exact q1.elim
def cutM (xs : List M) (lo hi : Option Int) : List M := (xs.drop (HT.sIx xs.length 0 lo)).take (HT.sIx xs.length xs.length hi - HT.sIx xs.length 0 lo)
def mSl (a : ME) (l u : MO) : ME := fun s => (a s).bind fun x s1 => (l s1).bind fun lo s2 => (u s2).bind fun hi s3 => match x with
  | .tup ms => .ok (.tup (cutM ms lo hi)) s3
  | x => match seqL s3.hp x with
    | some ms => .ok (.lst (cutM ms lo hi)) s3
    | none => .stuck
theorem cut_rv {ms : List M} {vs : List V} {T : Tab} (lo hi : Option Int) (rs : RVs T g H ms vs) : RVs T g H (cutM ms lo hi) (cutV vs lo hi) := by
  unfold cutM cutV
  rw [← rs.length]
  exact (rs.drop _).take _
theorem cut_all {ms : List M} {lo hi : Option Int} (h : HT.sIx ms.length 0 lo = 0 ∧ HT.sIx ms.length ms.length hi = ms.length) : cutM ms lo hi = ms := by
  unfold cutM
  rw [h.1, h.2]
  simp
theorem em_sl {el eu : Option Expr} {l u : MO} (ha : PMe C ex a) (hl : PMo C el l) (hu : PMo C eu u) : PMe C (.Subscript ex (.Slice el eu none p2) pos) (mSl a l u) :=
  wkE (pe_slice (sl_list.or sl_tupA) ha hl hu) fun σ H Q h => by
    obtain ⟨g, s, r, q⟩ := rdE_bind h
    refine ⟨g, s, r, q.imp ?_⟩
    rintro x H1 ⟨m, s1, g1, r1, rv, q1⟩
    refine ⟨g1, s1, r1, (Go.bind (R := REq) q1).imp ?_⟩
    rintro lo H2 ⟨lo', s2, g2, mo2, r2, e2, q2⟩
    refine ⟨g2, s2, r2, (Go.bind (R := REq) q2).imp ?_⟩
    rintro hi H3 ⟨hi', s3, g3, mo3, r3, e3, q3⟩
    cases e2; cases e3
    have rv := rv.mono (mo2.trans mo3)
    split at q3
    · rename_i ms
      cases rv with
      | @tup pa _ vs e rs =>
        refine .inr ⟨pa, vs, rfl, .inl (.inl e), fun hw => ?_, fun _ p hp => q3.newT r3 (cut_rv lo hi rs) hp⟩
        rw [← rs.length] at hw
        rw [cut_all hw] at q3
        exact q3.same r3 (.tup e rs)
    · split at q3
      · rename_i ms hms
        obtain ⟨q, vs, rfl, hq, rs⟩ := seqL_at r3 hms rv
        exact .inl ⟨q, vs, rfl, hq, fun p hp => q3.newL r3 (cut_rv lo hi rs) hp⟩
      · exact q3.elim
/-! ### built-in functions -/
abbrev RC := List V → Hp → VK → Prop
def CallOk (C : MC) (r : RC) (o : List M → MS → Res M) : Prop :=
  ∀ (σ : L2.St) (H : Hp) (g : Gh) (s : MS) (ms : List M) (xs : List V) (Q : VK), C.rel g s σ H → RVs C.T g H ms xs → Go C C.V1 σ (o ms s) g H Q → r xs H Q
theorem CallR.alt {X : Cx} {f : Value} {r r' : RC} (h : CallR X f r) (h' : CallR X f r') : CallR X f (fun xs H Q => r xs H Q ∨ r' xs H Q) := by
  intro pins s σ H xs us Q I rx q
  rcases q with q | q
  · exact h pins s σ H xs us Q I rx q
  · exact h' pins s σ H xs us Q I rx q
def mCall (a : MA) (o : List M → MS → Res M) : ME := fun s => (a s).bind o
theorem tCB_of {r : RC} {o : List M → MS → Res M} {t : TA} (ho : CallOk C r o) (ht : ∀ σ H Q, rdA C ma σ H Q → t σ H Q) {Q : VK} (h : rdE C (mCall ma o) σ H Q) : tCB r t σ H Q := by
  obtain ⟨g, s, r, q⟩ := rdA_bind h
  refine ht _ _ _ ⟨g, s, r, q.imp ?_⟩
  rintro xs H1 ⟨ms, s1, g1, r1, rs, q1⟩
  exact ho σ H1 g1 s1 ms xs Q r1 rs q1
theorem em_callB {id : String} {r : RC} {o : List M → MS → Res M} (hc : CallR C.X (.builtin id) r) (ho : CallOk C r o) (hm : C.X.mg x = none) (ha : PMa C (ex :: es) ma) (hv : bootBuiltins x = some (.builtin id) := by first | rfl | decide +kernel) (hg : Gl C.X x := by rfl) (hn : x ≠ "__name__" := by decide)
    (hdb : (x == ("__debug__" : Str)) = false := by decide) (he : starEach (ex :: es) C.X.env = (false, eval ex C.X.env) :: starEach es C.X.env := by rfl) (hpl : (backTo pos (starEach es C.X.env)).any (·.1) = false := by rfl) :
    PMe C (.Call (.Name x p) (ex :: es) [] pos) (mCall ma o) := wkE (pe_callB hc hg hm hv ha hn hdb he hpl) fun σ H Q h => tCB_of ho (fun _ _ _ z => z) h
theorem em_callT {T : String} {r : RC} {o : List M → MS → Res M} (hc : CallR C.X (.type T) r) (ho : CallOk C r o) (hm : C.X.mg x = none) (ha : PMa C (ex :: es) ma) (hv : bootBuiltins x = some (.type T) := by first | rfl | decide +kernel) (hg : Gl C.X x := by rfl) (hn : x ≠ "__name__" := by decide)
    (hdb : (x == ("__debug__" : Str)) = false := by decide) (he : starEach (ex :: es) C.X.env = (false, eval ex C.X.env) :: starEach es C.X.env := by rfl) (hpl : (backTo pos (starEach es C.X.env)).any (·.1) = false := by rfl) :
    PMe C (.Call (.Name x p) (ex :: es) [] pos) (mCall ma o) := wkE (pe_callTy hc hg hm hv ha hn hdb he hpl) fun σ H Q h => tCB_of ho (fun _ _ _ z => z) h
def cLen (ms : List M) (s : MS) : Res M := match ms with
  | [.str z] => if z.length ≤ big then .ok (.int z.length) s else .stuck
  | [.tup xs] => .ok (.int xs.length) s
  | [x] => match seqL s.hp x with
    | some xs => .ok (.int xs.length) s
    | none => .stuck
  | _ => .stuck
theorem ok_len : CallOk C (fun xs H Q => ∃ x n, xs = [x] ∧ LenV C.X.K x H n ∧ Q (.int n) H) cLen := fun σ H g s ms xs Q r rs h => by
  unfold cLen at h
  split at h
  · rename_i z
    cases rs with
    | cons r1 r2 =>
      cases r2; cases r1
      by_cases hb : z.length ≤ big
      · rw [if_pos hb] at h
        exact ⟨_, z.length, rfl, ⟨big_le hb, rfl⟩, h.same r (.int _)⟩
      · rw [if_neg hb] at h; exact h.elim
  · rename_i ys
    cases rs with
    | cons r1 r2 =>
      cases r2
      cases r1 with
      | tup e rs => exact ⟨_, ys.length, rfl, .inr ⟨_, .inl (.inl e), rs.length⟩, h.same r (.int _)⟩
  · split at h
    · rename_i ys hys
      cases rs with
      | cons r1 r2 =>
        cases r2
        obtain ⟨q, vs, rfl, hq, rs⟩ := seqL_at r hys r1
        exact ⟨_, ys.length, rfl, .inl ⟨_, hq, rs.length⟩, h.same r (.int _)⟩
    · exact h.elim
  · exact h.elim
def cInt (ms : List M) (s : MS) : Res M := match ms with
  | [.int i] => .ok (.int i) s
  | [.bl k] => .ok (.int (if k = true then 1 else 0)) s
  | _ => .stuck
theorem ok_int : CallOk C (fun xs H Q => (∃ i, xs = [.int i] ∧ Q (.int i) H) ∨ ∃ k, xs = [.bl k] ∧ Q (.int (if k then 1 else 0)) H) cInt := fun σ H g s ms xs Q r rs h => by
  unfold cInt at h
  split at h
  · cases rs with
    | cons r1 r2 => cases r2; cases r1; exact .inl ⟨_, rfl, h.same r (.int _)⟩
  · cases rs with
    | cons r1 r2 => cases r2; cases r1; exact .inr ⟨_, rfl, h.same r (.int _)⟩
  · exact h.elim
def cMax (ms : List M) (s : MS) : Res M := match ms with
  | [.int i, .int j] => .ok (.int (if j > i then j else i)) s
  | _ => .stuck
theorem ok_max2 : CallOk C (fun xs H Q => ∃ i j, xs = [.int i, .int j] ∧ Q (.int (if j > i then j else i)) H) cMax := fun σ H g s ms xs Q r rs h => by
  unfold cMax at h
  split at h
  · cases rs with
    | cons r1 r2 => cases r2 with
      | cons r2 r3 => cases r3; cases r1; cases r2; exact ⟨_, _, rfl, h.same r (.int _)⟩
  · exact h.elim
def cTup (ms : List M) (s : MS) : Res M := match ms with
  | [.tup xs] => .ok (.tup xs) s
  | [x] => match seqL s.hp x with
    | some xs => .ok (.tup xs) s
    | none => .stuck
  | _ => .stuck
theorem ok_tuple : CallOk C (fun xs H Q => ∃ p ys, xs = [.ref p] ∧ ((SqL C.X.K H p ys ∧ ∀ l, H l = none → Q (.ref l) (upd H l (.tup ys))) ∨ (SqT C.X.K H p ys ∧ Q (.ref p) H))) cTup := fun σ H g s ms xs Q r rs h => by
  unfold cTup at h
  split at h
  · cases rs with
    | cons r1 r2 =>
      cases r2
      cases r1 with
      | tup e rs => exact ⟨_, _, rfl, .inr ⟨.inl (.inl e), h.same r (.tup e rs)⟩⟩
  · split at h
    · rename_i ys hys
      cases rs with
      | cons r1 r2 =>
        cases r2
        obtain ⟨q, vs, rfl, hq, rs⟩ := seqL_at r hys r1
        exact ⟨_, _, rfl, .inl ⟨hq, fun p hp => h.newT r rs hp⟩⟩
    · exact h.elim
  · exact h.elim
def seqA (s : MS) : List M → Option (List M)
  | [.tup xs] => some xs
  | [x] => seqL s.hp x
  | _ => none
theorem seqA_at {ms : List M} {xs : List V} {ys : List M} (r : C.rel g s σ H) (rs : RVs C.T g H ms xs) (h : seqA s ms = some ys) : ∃ p vs, xs = [.ref p] ∧ (SqL C.X.K H p vs ∨ SqT C.X.K H p vs) ∧ RVs C.T g H ys vs := by
  unfold seqA at h
  split at h
  · cases h
    cases rs with
    | cons r1 r2 =>
      cases r2
      cases r1 with
      | tup e rs => exact ⟨_, _, rfl, .inr (.inl (.inl e)), rs⟩
  · cases rs with
    | cons r1 r2 =>
      cases r2
      obtain ⟨q, vs, rfl, hq, rs⟩ := seqL_at r h r1
      exact ⟨_, _, rfl, .inl hq, rs⟩
  · cases h
/-- list(x), frozen, or in a box -/
def cList (ms : List M) (s : MS) : Res M := match seqA s ms with
  | some xs => .ok (.lst xs) s
  | none => .stuck
def cListB (ms : List M) (s : MS) : Res M := match seqA s ms with
  | some xs => .ok (.box s.hp.length) ⟨s.env, s.hp ++ [.lst xs]⟩
  | none => .stuck
theorem ok_list : CallOk C (fun xs H Q => ∃ p ys, xs = [.ref p] ∧ (SqL C.X.K H p ys ∨ SqT C.X.K H p ys) ∧ ∀ l, H l = none → Q (.ref l) (upd H l (.lst ys))) cList := fun σ H g s ms xs Q r rs h => by
  unfold cList at h
  split at h
  · rename_i ys hys
    obtain ⟨p, vs, e, hq, rv⟩ := seqA_at r rs hys
    exact ⟨p, vs, e, hq, fun l hl => h.newL r rv hl⟩
  · exact h.elim
theorem ok_listB : CallOk C (fun xs H Q => ∃ p ys, xs = [.ref p] ∧ (SqL C.X.K H p ys ∨ SqT C.X.K H p ys) ∧ ∀ l, H l = none → Q (.ref l) (upd H l (.lst ys))) cListB := fun σ H g s ms xs Q r rs h => by
  unfold cListB at h
  split at h
  · rename_i ys hys
    obtain ⟨p, vs, e, hq, rv⟩ := seqA_at r rs hys
    exact ⟨p, vs, e, hq, fun l hl => Rel.boxL r h rv hl⟩
  · exact h.elim
end
end Ma
/-! Ma10: lists in boxes: append, pop, a store; what a box turns into data. -/
namespace Ma
open L2 PySem
section
variable {C : MC} {g g1 : Gh} {H H1 : Hp} {s : MS} {σ : L2.St} {ex : Expr} {es : List Expr} {a b : ME} {ma : MA} {pos apos cpos p p2 : Pos} {x : Str}
theorem nd_ix {α : Type} : ∀ {l : List α} {i j : Nat} {x : α}, l.Nodup → l[i]? = some x → l[j]? = some x → i = j
  | [], _, _, _, _, h, _ => by simp at h
  | y :: l, 0, 0, _, _, _, _ => rfl
  | y :: l, 0, j + 1, x, nd, h1, h2 => by
    simp at h1 h2
    subst h1
    exact absurd (List.mem_of_getElem? h2) (List.nodup_cons.mp nd).1
  | y :: l, i + 1, 0, x, nd, h1, h2 => by
    simp at h1 h2
    subst h2
    exact absurd (List.mem_of_getElem? h1) (List.nodup_cons.mp nd).1
  | y :: l, i + 1, j + 1, x, nd, h1, h2 => by
    simp at h1 h2
    exact congrArg Nat.succ (nd_ix (List.nodup_cons.mp nd).2 h1 h2)
/-- a box's content changes -/
theorem Rel.poke (r : C.rel g s σ H) {n : Nat} {c c' : Cell} {p : Addr} {o : HO} (hc : s.hp[n]? = some c) (hp : g.ro[n]? = some p) (lv : Live c) (ht : ∀ vs, H p ≠ some (.tup vs)) (hq : ∀ g', Mono g H g' (upd H p o) → CellR C.T g' (upd H p o) c' p) (ho : Plain o := by exact ⟨⟨fun _ _ z => (by unfold LamX.CodeO at z; cases z), fun _ z => (by cases z)⟩, fun _ z => (by cases z)⟩) :
    C.rel g ⟨s.env, s.hp.set n c'⟩ σ (upd H p o) ∧ Mono g H g (upd H p o) := by
  have pf : ¬ g.fz p := r.h.thaw n c p hc hp lv.own
  have nl : ∀ o u, H p ≠ some (.frz o u) := fun o u z => by
    have y := r.h.cell n c p hc hp
    cases c with
    | lst ms => obtain ⟨vs, e, _⟩ := y; rw [e] at z; cases z
    | dK ms => obtain ⟨vs, e, _⟩ := y; rw [e] at z; cases z
    | ins c ms => obtain ⟨_, _, vs, _, e, _⟩ := y; rw [e] at z; cases z
    | dF ms => exact lv
    | dead => exact lv
  have mo : Mono g H g (upd H p o) := ⟨⟨List.prefix_refl _, fun _ h => h, fun a f => upd_ne (fun z => pf (z ▸ f)), fun a vs h => by
    have : a ≠ p := fun z => by subst z; exact ht vs h
    rw [upd_ne this]; exact h⟩, fun a o u h => by
    have : a ≠ p := fun z => by subst z; exact nl o u h
    rw [upd_ne this]; exact h⟩
  have inj : ∀ {m : Nat} {q : Addr}, g.ro[m]? = some q → q = p → m = n := fun {m q} h1 h2 => by
    subst h2
    exact nd_ix r.h.nd h1 hp
  refine ⟨r.env mo ⟨by simp [r.h.len], r.h.nd, fun m d q h1 h2 => ?_, fun m d q h1 h2 ld => ?_, fun q f => ?_, fun q hq => ?_, fun q u h1 h2 => ?_, r.h.nfz, r.h.nro, r.h.m0.trans mo, r.h.tb.upd (fun u z => (r.h.cell n c p hc hp).plain lv.own z) (ho.tbl) (fun _ => ho), r.h.tbe⟩, mo⟩
  · by_cases hmn : m = n
    · subst hmn
      have hlt := (List.getElem?_eq_some_iff.mp hc).1
      rw [List.getElem?_set_self hlt] at h1
      cases h1
      rw [hp] at h2
      cases h2
      exact hq g mo
    · rw [List.getElem?_set_ne (Ne.symm hmn)] at h1
      exact (r.h.cell m d q h1 h2).mono mo (upd_ne fun z => hmn (inj h2 z))
  · by_cases hmn : m = n
    · subst hmn
      rw [hp] at h2
      cases h2
      exact pf
    · rw [List.getElem?_set_ne (Ne.symm hmn)] at h1
      exact r.h.thaw m d q h1 h2 ld
  · obtain ⟨u, e⟩ := r.h.fzt q f
    by_cases h : q = p
    · subst h; exact ⟨_, upd_same⟩
    · exact ⟨u, by rw [upd_ne h]; exact e⟩
  · obtain ⟨u, e⟩ := r.h.rot q hq
    by_cases h : q = p
    · subst h; exact ⟨_, upd_same⟩
    · exact ⟨u, by rw [upd_ne h]; exact e⟩
  · have e := r.h.frm q u h1 h2
    by_cases h : q = p
    · subst h
      rcases r.h.nro q (List.mem_of_getElem? hp) with z | z
      · exact absurd z h2
      · rw [h1] at z; cases z
    · rw [upd_ne h]; exact e
theorem Go.pokeL {m : M} {n : Nat} {ms ms' : List M} {vs' : List V} {p : Addr} {Q : VK} {v : V} (h : Go C C.V1 σ (.ok m ⟨s.env, s.hp.set n (.lst ms')⟩) g H Q) (r : C.rel g s σ H) (hc : s.hp[n]? = some (.lst ms)) (hp : g.ro[n]? = some p)
    (rs : RVs C.T g H ms' vs') (rv : RV C.T g H m v) : Q v (upd H p (.lst vs')) := by
  obtain ⟨vs, e, _⟩ := r.h.cell n _ p hc hp
  obtain ⟨r1, mo⟩ := Rel.poke (c' := .lst ms') r hc hp trivial (fun ws z => by rw [e] at z; cases z) fun g' mo => ⟨vs', upd_same, rs.mono mo⟩
  exact h g _ v mo r1 (rv.mono mo)
def mMeth (a : ME) (ma : MA) (ok : M → MS → Bool) (o : M → List M → MS → Res M) : ME := fun s => (a s).bind fun x s1 => if ok x s1 = true then (ma s1).bind fun ms s2 => o x ms s2 else .stuck
def isBoxL (x : M) (s : MS) : Bool := match x with
  | .box n => match s.hp[n]? with
    | some (.lst _) => true
    | _ => false
  | _ => false
theorem isBoxL_at (r : C.rel g s σ H) {m : M} {v : V} (rv : RV C.T g H m v) (h : isBoxL m s = true) : ∃ n p ms vs, m = .box n ∧ v = .ref p ∧ s.hp[n]? = some (.lst ms) ∧ g.ro[n]? = some p ∧ H p = some (.lst vs) ∧ RVs C.T g H ms vs := by
  cases rv with
  | @box n p e =>
    unfold isBoxL at h
    dsimp only at h
    cases hc : s.hp[n]? with
    | none => rw [hc] at h; cases h
    | some c =>
      rw [hc] at h
      cases c with
      | lst ms =>
        obtain ⟨vs, h1, h2⟩ := r.h.cell n _ p hc e
        exact ⟨n, p, ms, vs, rfl, rfl, hc, e, h1, h2⟩
      | _ => cases h
  | _ => cases h
def MethOk (C : MC) (r : V → List V → Hp → VK → Prop) (o : M → List M → MS → Res M) : Prop :=
  ∀ (σ : L2.St) (H : Hp) (g : Gh) (s : MS) (m : M) (ms : List M) (x : V) (xs : List V) (Q : VK), C.rel g s σ H → RV C.T g H m x → RVs C.T g H ms xs → Go C C.V1 σ (o m ms s) g H Q → r x xs H Q
theorem em_bm {o : Expr} {name : Str} {T id : String} {r : V → List V → Hp → VK → Prop} {ok : M → MS → Bool} {f : M → List M → MS → Res M} (pa : PlainAttrs T) (slot : Slot T name id) (hty : typeOf (.builtin id) = pure (.type "method_descriptor")) (hm : MtR C.X id r)
    (hty2 : ∀ (σ : L2.St) (H : Hp) (g : Gh) (s : MS) (m : M) (x : V), C.rel g s σ H → RV C.T g H m x → ok m s = true → tyV C.X.K T x H) (hf : MethOk C r f) (ho : PMe C o a) (ha : PMa C (ex :: es) ma)
    (hbase : attributeBase o name C.X.env (eval o C.X.env) = eval o C.X.env := by rfl)
    (hfew : ((backTo cpos (starEach (ex :: es) C.X.env)).all (fun x => !x.1) && (backToKw cpos (keywordEach [] C.X.env)).all (fun x => x.1.isSome)
      && decide ((ex :: es).length + ([] : List Keyword).length + (if ([] : List Keyword).isEmpty then 0 else 1) < 30)) = true := by rfl)
    (hline : (apos.endLine == cpos.line) = true := by rfl) (hs : starEach (ex :: es) C.X.env = (false, eval ex C.X.env) :: starEach es C.X.env := by rfl) (hplain : (backTo cpos (starEach es C.X.env)).any (·.1) = false := by rfl) :
    PMe C (.Call (.Attribute o name apos) (ex :: es) [] cpos) (mMeth a ma ok f) :=
  wkE (pe_bm pa slot hty hm ho ha hbase hfew hline hs hplain) fun σ H Q h => by
    obtain ⟨g, s, r, q⟩ := rdE_bind h
    refine ⟨g, s, r, q.imp ?_⟩
    rintro x H1 ⟨m, s1, g1, r1, rv, q1⟩
    by_cases hk : ok m s1 = true
    · rw [if_pos hk] at q1
      refine ⟨hty2 σ H1 g1 s1 m x r1 rv hk, g1, s1, r1, (Go.bind (R := C.Vn) q1).imp ?_⟩
      rintro xs H2 ⟨ms, s2, g2, mo, r2, rs, q2⟩
      exact hf σ H2 g2 s2 m ms x xs Q r2 (rv.mono mo) rs q2
    · rw [if_neg hk] at q1; exact q1.elim
theorem tyL {K : PySem.W.Frag} : ∀ (σ : L2.St) (H : Hp) (g : Gh) (s : MS) (m : M) (x : V), C.rel g s σ H → RV C.T g H m x → isBoxL m s = true → tyV K "list" x H := fun σ H g s m x r rv h => by
  obtain ⟨n, p, ms, vs, rfl, rfl, hc, hp, e, rs⟩ := isBoxL_at r rv h
  exact .inl ⟨rfl, _, .inl (.inl e)⟩
def fAppend (x : M) (ms : List M) (s : MS) : Res M := match x, ms with
  | .box n, [y] => match s.hp[n]? with
    | some (.lst xs) => if xs.length < big then .ok .non ⟨s.env, s.hp.set n (.lst (xs ++ [y]))⟩ else .stuck
    | _ => .stuck
  | _, _ => .stuck
theorem ok_append : MethOk C rAppend fAppend := fun σ H g s m ms x xs Q r rv rs h => by
  unfold fAppend at h
  split at h
  · rename_i n y
    split at h
    · rename_i ys hc
      by_cases hb : ys.length < big
      · rw [if_pos hb] at h
        obtain ⟨p, rfl, hp, vs, e, rvs⟩ := r.cellAt hc rv
        cases rs with
        | cons r1 r2 =>
          cases r2
          exact ⟨p, vs, _, rfl, rfl, e, by rw [← rvs.length, sizeLine_eq]; exact hb, h.pokeL r hc hp (rvs.app (.cons r1 .nil)) .non⟩
      · rw [if_neg hb] at h; exact h.elim
    · exact h.elim
  · exact h.elim
def mAppend (a b : ME) : ME := mMeth a (mCons b mNil) isBoxL fAppend
theorem em_append {o : Expr} (ho : PMe C o a) (ha : PMe C ex b) (hbase : attributeBase o "append" C.X.env (eval o C.X.env) = eval o C.X.env := by rfl)
    (hfew : ((backTo cpos (starEach [ex] C.X.env)).all (fun x => !x.1) && (backToKw cpos (keywordEach [] C.X.env)).all (fun x => x.1.isSome)
      && decide ([ex].length + ([] : List Keyword).length + (if ([] : List Keyword).isEmpty then 0 else 1) < 30)) = true := by rfl)
    (hline : (apos.endLine == cpos.line) = true := by rfl) (hs : starEach [ex] C.X.env = (false, eval ex C.X.env) :: starEach [] C.X.env := by rfl) :
    PMe C (.Call (.Attribute o "append" apos) [ex] [] cpos) (mAppend a b) :=
  em_bm PySem.F.plainAttrs_list PySem.F.slot_list_append PySem.F.type_list_append mt_append tyL ok_append ho (am_cons ha am_nil hs) hbase hfew hline hs rfl
/-- xs.pop(i), i from the front -/
def fPopAt (x : M) (ms : List M) (s : MS) : Res M := match x, ms with
  | .box n, [.int i] => match s.hp[n]? with
    | some (.lst xs) => if 0 ≤ i ∧ i < 2 ^ 63 then match xs[i.toNat]? with
        | some y => .ok y ⟨s.env, s.hp.set n (.lst (xs.eraseIdx i.toNat))⟩
        | none => .stuck
      else .stuck
    | _ => .stuck
  | _, _ => .stuck
theorem ok_popAt : MethOk C rPopAt fPopAt := fun σ H g s m ms x xs Q r rv rs h => by
  unfold fPopAt at h
  split at h
  · rename_i n i
    split at h
    · rename_i ys hc
      by_cases hb : 0 ≤ i ∧ i < 2 ^ 63
      · rw [if_pos hb] at h
        split at h
        · rename_i y hy
          obtain ⟨p, rfl, hp, vs, e, rvs⟩ := r.cellAt hc rv
          cases rs with
          | cons r1 r2 =>
            cases r2
            cases r1
            obtain ⟨v, hv, rv2⟩ := rvs.get hy
            have hl : i.toNat < vs.length := (List.getElem?_eq_some_iff.mp hv).1
            exact ⟨p, vs, i, i.toNat, v, rfl, rfl, e, by omega, hb.2, seqIndex_of hb.1 (by omega), hv, h.pokeL r hc hp (rvs.erase _) rv2⟩
        · exact h.elim
      · rw [if_neg hb] at h; exact h.elim
    · exact h.elim
  · exact h.elim
def mPopAt (a b : ME) : ME := mMeth a (mCons b mNil) isBoxL fPopAt
theorem em_popAt {o : Expr} (ho : PMe C o a) (ha : PMe C ex b) (hbase : attributeBase o "pop" C.X.env (eval o C.X.env) = eval o C.X.env := by rfl)
    (hfew : ((backTo cpos (starEach [ex] C.X.env)).all (fun x => !x.1) && (backToKw cpos (keywordEach [] C.X.env)).all (fun x => x.1.isSome)
      && decide ([ex].length + ([] : List Keyword).length + (if ([] : List Keyword).isEmpty then 0 else 1) < 30)) = true := by rfl)
    (hline : (apos.endLine == cpos.line) = true := by rfl) (hs : starEach [ex] C.X.env = (false, eval ex C.X.env) :: starEach [] C.X.env := by rfl) :
    PMe C (.Call (.Attribute o "pop" apos) [ex] [] cpos) (mPopAt a b) :=
  em_bm PySem.F.plainAttrs_list PySem.F.slot_list_pop PySem.F.type_list_pop mt_popAt tyL ok_popAt ho (am_cons ha am_nil hs) hbase hfew hline hs rfl
/-! ### a store at a place -/
abbrev FSet := M → M → M → MS → Res Unit
def SetOk (C : MC) (t : TSet) (f : FSet) : Prop :=
  ∀ (σ : L2.St) (H : Hp) (g : Gh) (s : MS) (m k w : M) (x y z : V) (Q : Hp → Prop), C.rel g s σ H → RV C.T g H m x → RV C.T g H k y → RV C.T g H w z →
    (match f m k w s with
      | .ok _ s1 => ∀ (g' : Gh) (H' : Hp), Mono g H g' H' → C.rel g' s1 σ H' → Q H'
      | _ => False) → t x y z H Q
def fSetL (x k w : M) (s : MS) : Res Unit := match x, k with
  | .box n, .int i => match s.hp[n]? with
    | some (.lst xs) => match ixN xs.length i with
      | some j => .ok () ⟨s.env, s.hp.set n (.lst (xs.set j w))⟩
      | none => .stuck
    | _ => .stuck
  | _, _ => .stuck
theorem ok_setL : SetOk C rSetL fSetL := fun σ H g s m k w x y z Q r rm rk rw' h => by
  unfold fSetL at h
  split at h
  · rename_i u s1 heq
    split at heq
    · rename_i n i
      split at heq
      · rename_i xs hc
        split at heq
        · rename_i j hj
          cases heq
          obtain ⟨p, rfl, hp, vs, e, rvs⟩ := r.cellAt hc rm
          cases rk
          obtain ⟨r1, mo⟩ := Rel.poke (c' := .lst (xs.set j w)) r hc hp trivial (fun ws z => by rw [e] at z; cases z) fun g' mo => ⟨_, upd_same, (rvs.set j rw').mono mo⟩
          exact ⟨p, vs, i, j, rfl, rfl, e, by rw [← rvs.length]; exact hj, h g _ mo r1⟩
        · cases heq
      · cases heq
    · cases heq
  · exact h.elim
/-- o[i] = w -/
def gSub (a b : ME) (f : FSet) : MG := fun w s => (a s).bind fun x s1 => (b s1).bind fun k s2 => f x k w s2
theorem fSetL_ne : ∀ x k w s e s1, fSetL x k w s ≠ .err e s1 := fun x k w s e s1 h => by
  unfold fSetL at h
  split at h
  · split at h
    · split at h <;> cases h
    · cases h
  · cases h
/-- target = e -/
def sAsg (m : ME) (t : MG) : MStm := fun s => (m s).bind fun w s1 => (t w s1).bind fun _ s2 => .ok .nx s2
theorem sm_asg {tg : Expr} {m : ME} {t : MG} (he : PMe C ex m) (hg : PMg C tg t) (hs : swapsWithSole [tg] ex pos.line C.X.env = pure false := by rfl) (hw : swappedStores [tg] ex C.X.env = pure none := by rfl) (h1 : (assignEach [tg] C.X.env).map (·.2) = [assign tg C.X.env] := by rfl) : PMs C (.Assign [tg] ex pos) (sAsg m t) :=
  wkS (ps_asg he hg hs hw h1) fun D σ H h => by
    obtain ⟨g, s, r, q⟩ := rdE_bindS h
    refine ⟨g, s, r, q.imp ?_⟩
    rintro x H1 ⟨w, s1, g1, r1, rv, q1⟩
    refine ⟨g1, s1, w, r1, rv, ?_⟩
    cases h1 : t w s1 with
    | stuck => rw [h1] at q1; exact q1.elim
    | err e s2 => rw [h1] at q1; exact fun g' H' cls d mo r xr => q1 g' H' σ cls d mo r xr
    | ok u s2 => rw [h1] at q1; exact fun g' H' σ' mo r => q1 g' H' σ' mo r
end
end Ma
/-! Ma11: a def and its mirror. -/
namespace Ma
open L2 PySem.Spec PySem PyProof.Rows
structure RoomG (k : Nat) (A : Around) : Prop extends Room k A where
  gs : A.guards = some []
theorem RoomG.less {j k : Nat} {A : Around} (r : RoomG k A) (h : j ≤ k) : RoomG j A := ⟨r.toRoom.mono h, r.gs⟩
theorem RoomG.down {k : Nat} {A : Around} (r : RoomG (k + 1) A) (env : Env) : RoomG k (A.deeper env) := ⟨r.toRoom.deeper env, r.gs⟩
/-- what a def's end has to give -/
def GoF (T : Tab) (g : Gh) (H : Hp) (r : ResF) (Q : VK) (E : XK) : Prop :=
  match r with
  | .ok m hp => ∀ (g' : Gh) (H' : Hp) (v : V), RelH T ⟨g, H⟩ g' hp H' → RV T g' H' m v → Q v H'
  | .err x hp => ∀ (g' : Gh) (H' : Hp) (cls : Value) (d : Option Addr), RelH T ⟨g, H⟩ g' hp H' → XR T g' H' x cls d → E cls d H'
  | .stuck => False
def spM (T : Tab) (n : Nat) (F : Fn) : Sp := fun vs H Q E => vs.length = n ∧ ∃ g hp args, RelH T ⟨g, H⟩ g hp H ∧ RVs T g H args vs ∧ GoF T g H (F args hp) Q E
/-- the def at f keeps its mirror -/
structure FnG (P : Program) (w : World) (mg : Str → Option Value) (base : Heap) (T : Tab) (k : Nat) (f : Addr) (fd : FuncData) (ps : List Str) (F : Fn) : Prop where
  run : ∀ (A : Around) (outer : List Env) (s : Shared) (H : Hp) (args : Args) (us : List Value) (vs : List V) (Q : VK) (E : XK), RoomG k A → Env0 P w T.K mg base A outer s H → BindsTo s fd args (ps.zip us) → Vals vs us → spM T ps.length F vs H Q E →
    codeAny (model P w) A (.call (.ref f) args) (CR (L2.CX P w) outer P w H s Q E) s
/-- a body's mirror as a def's -/
def bodyF (n len : Nat) (b : MStm) : Fn := fun args hp => match b ⟨args.map some ++ List.replicate (len - n) none, hp⟩ with
  | .ok (.rt v) s => .ok v s.hp
  | .ok .nx s => .ok .non s.hp
  | .ok _ _ => .stuck
  | .err x s => .err x s.hp
  | .stuck => .stuck
section
variable {P : Program} {w : World} {mg : Str → Option Value} {base : Heap} {T : Tab}
/-- where a def's body stands -/
abbrev cAt (P : Program) (w : World) (mg : Str → Option Value) (base : Heap) (T : Tab) (N : List Str) (qual : Str) (scope : Scope) (f : Addr) (cd : Value) (A : Around) (outer : List Env) (s : Shared) (H : Hp) (E : XK) (g : Gh) : MC :=
  ⟨cxOf (L2.CX P w) P w T.K mg base N qual scope f cd A outer s H E, T, ⟨g, H⟩, fun cls d _ H' => E cls d H', rfl⟩
theorem cAt_takes {N : List Str} {qual : Str} {scope : Scope} {f : Addr} {cd : Value} {A : Around} {outer : List Env} {s : Shared} {H : Hp} {E : XK} {g : Gh} :
    Takes (cAt P w mg base T N qual scope f cd A outer s H E g).X (cAt P w mg base T N qual scope f cd A outer s H E g).W := takes_of rfl rfl rfl rfl
theorem fnG_of {x qual : Str} {st : Stmt} {f : Addr} {fd : FuncData} {N ps : List Str} {k : Nat} {b : MStm} (F : Fun T.K x qual st f fd) (S : FnScope N ps (defScope st))
    (hb : ∀ (cdv : Value) (A : Around) (outer : List Env) (s : Shared) (H : Hp) (E : XK) (g : Gh), RoomG k (A.deeper (envOfC qual (defScope st) s.heap.objs.size f cdv)) → PMb (cAt P w mg base T N qual (defScope st) f cdv A outer s H E g) (defBody st) b) :
    FnG P w mg base T (k + 1) f fd ps (bodyF ps.length N.length b) := by
  refine ⟨fun A outer s H args us vs Q E hr e0 hbd r hsp => ?_⟩
  obtain ⟨oc, od, kV, doc, pm, an, cdv, ct, osl, rfl, lk, hcd⟩ := F.ex
  obtain ⟨hl, g, hp, as, rh, rs, go⟩ := hsp
  have inK : T.K.In s.heap := e0.mod.kin.keeps (fun b o q => (e0.bs b o q).1)
  have nl : s.heap.NoLimit := e0.mod.nolimit.keeps (fun b o q => (e0.bs b o q).1)
  have kinds : ∀ y ∈ ps.zip us, (defScope st).names.lookup y.1 = some .local ∨ ((defScope st).names.lookup y.1 = some .cell ∧ ((cellsFrom (s.heap.objs.size + 1) (defScope st).names []).lookup y.1).isSome = true) := by
    rintro ⟨n, v⟩ hy
    exact (S.par n (List.of_mem_zip hy).1).imp id fun q => ⟨q, PySem.W.cellsFrom_some _ _ _ (.inl q)⟩
  refine codeAny_call_function hr.depth (inK _ _ lk) rfl S.co S.gen rfl (PySem.W.codeRec_of inK hcd) (hbd _ _ _ _ (wpAny_newFunctionEnv_cells S.kind kinds fun env he s1 ic => ?_))
  subst he
  refine ⟨nl.keeps ic.toInCall.keep, codeAny_func ?_⟩
  have J : Inv (cAt P w mg base T N qual (defScope st) f cdv A outer s H E g).X [] (L2.start N vs) H s1 := inv_start S hr.hd e0 hl r ic
  have hbody := hb cdv A outer s H E g (hr.down _)
  have hnl : ps.length ≤ N.length := by
    have := congrArg List.length S.pre
    rw [List.length_take] at this
    omega
  have fin : ∀ {σ' : L2.St} {H' : Hp} {v : V} {u : Value} {s' : Shared}, Inv (cAt P w mg base T N qual (defScope st) f cdv A outer s H E g).X [] σ' H' s' → RelV v u → Q v H' → CE outer P w H s Q u s' :=
    fun J rv q => ⟨_, _, J.os, J.bare, J.base, J.hok, rv, q⟩
  let D : Ends := { nx := fun _ H' => Q .non H', rt := Q }
  have start_rel : Rel T ⟨g, H⟩ g ⟨as.map some ++ List.replicate (N.length - ps.length) none, hp⟩ (L2.start N vs) H := by
    refine ⟨rh, ?_, fun i m v h1 h2 => ?_⟩
    · unfold L2.start
      simp [rs.length, hl]
    · have h1 : (as.map some ++ List.replicate (N.length - ps.length) none)[i]? = some (some m) := h1
      unfold L2.start at h2
      by_cases hi : i < as.length
      · rw [List.getElem?_append_left (by simpa using hi), List.getElem?_map] at h1
        rw [List.getElem?_append_left (by simpa [← rs.length] using hi), List.getElem?_map] at h2
        cases ha : as[i]? with
        | none => rw [ha] at h1; cases h1
        | some m' =>
          rw [ha] at h1
          cases h1
          obtain ⟨x, hx, rx⟩ := rs.get ha
          rw [hx] at h2
          cases h2
          exact ⟨x, rfl, rx⟩
      · rw [List.getElem?_append_right (by simpa using Nat.le_of_not_lt hi), List.getElem?_replicate] at h1
        split at h1 <;> cases h1
  have goal : rdS (cAt P w mg base T N qual (defScope st) f cdv A outer s H E g) b D (L2.start N vs) H := by
    refine ⟨g, ⟨as.map some ++ List.replicate (N.length - ps.length) none, hp⟩, start_rel, ?_⟩
    unfold bodyF at go
    cases hm : b ⟨as.map some ++ List.replicate (N.length - ps.length) none, hp⟩ with
    | stuck => rw [hm] at go; exact go.elim
    | err x s1 => rw [hm] at go; exact fun g' H' σ' cls d mo rl xr => go g' H' cls d rl.h xr
    | ok fl s1 =>
      rw [hm] at go
      cases fl with
      | nx => exact fun g' H' σ' mo rl => go g' H' .non rl.h .non
      | rt m => exact fun g' H' σ' v mo rl rv => go g' H' v rl.h rv
      | bk => exact go.elim
      | ct => exact go.elim
  refine wpAny_mono (hbody.run [] s1 (L2.start N vs) H D J goal) (fun fl s' hs => ?_) fun e s' hs => hs
  cases fl with
  | ret u =>
    obtain ⟨v, σ', H', J', rv, q⟩ := hs
    exact fin J' rv q
  | next =>
    obtain ⟨σ', H', J', q⟩ := hs
    exact fin (v := V.non) (u := Value.none) J' rfl q
  | brk => exact hs.elim fun _ z => z.elim fun _ y => y.2.elim
  | cont => exact hs.elim fun _ z => z.elim fun _ y => y.2.elim
end
end Ma
/-! Ma12: calls of the text's own defs. -/
namespace Ma
open L2 PySem.Spec PySem PyProof.Rows
section
variable {T : Tab} {e : En} {g g' : Gh} {H H' : Hp} {hp hp' : List Cell}
theorem RelH.self (r : RelH T e g hp H) : RelH T ⟨g, H⟩ g hp H :=
  ⟨r.len, r.nd, r.cell, r.thaw, r.fzt, r.rot, fun _ _ h _ => h, fun _ h => .inl h, fun _ h => .inl h, Mono.refl _ _, r.tb, fun p hp => (r.tb.tab p hp).2.1⟩
theorem RelH.lost (r : RelH T e g hp H) {a : Addr} (h : H a = none) : e.H a = none ∨ a ∈ e.g.ro := by
  cases q : e.H a with
  | none => exact .inl rfl
  | some o =>
    by_cases hr : a ∈ e.g.ro
    · exact .inr hr
    · have := r.frm a o q hr
      rw [h] at this; cases this
theorem RelH.comp (r : RelH T e g hp H) (q : RelH T ⟨g, H⟩ g' hp' H') : RelH T e g' hp' H' := by
  refine ⟨q.len, q.nd, q.cell, q.thaw, q.fzt, q.rot, fun a o h1 h2 => ?_, fun a h => ?_, fun a h => ?_, r.m0.trans q.m0, q.tb, r.tbe⟩
  · refine q.frm a o (r.frm a o h1 h2) fun z => ?_
    rcases r.nro a z with y | y
    · exact h2 y
    · rw [h1] at y; cases y
  · rcases q.nfz a h with z | z | z
    · exact r.nfz a z
    · rcases r.lost z with y | y
      · exact .inr (.inl y)
      · exact .inr (.inr y)
    · rcases r.nro a z with y | y
      · exact .inr (.inr y)
      · exact .inr (.inl y)
  · rcases q.nro a h with z | z
    · exact r.nro a z
    · rcases r.lost z with y | y
      · exact .inr y
      · exact .inl y
end
/-- a def's end as an expression's -/
def upF (env : List (Option M)) : ResF → Res M
  | .ok m hp => .ok m ⟨env, hp⟩
  | .err x hp => .err x ⟨env, hp⟩
  | .stuck => .stuck
/-- called by position -/
def spP (T : Tab) (F : Fn) : Sp := fun vs H Q E => ∃ g hp args, RelH T ⟨g, H⟩ g hp H ∧ RVs T g H args vs ∧ GoF T g H (F args hp) Q E
structure FnP (P : Program) (w : World) (mg : Str → Option Value) (base : Heap) (T : Tab) (k : Nat) (f : Addr) (F : Fn) : Prop where
  run : ∀ (A : Around) (outer : List Env) (s : Shared) (H : Hp) (us : List Value) (vs : List V) (Q : VK) (E : XK), RoomG k A → Env0 P w T.K mg base A outer s H → Vals vs us → spP T F vs H Q E →
    codeAny (model P w) A (.call (.ref f) ⟨us, []⟩) (CR (L2.CX P w) outer P w H s Q E) s
/-- with the defaults of what is left out behind -/
def posF (n : Nat) (dms : List M) (F : Fn) : Fn := fun args hp => if args.length + dms.length = n then F (args ++ dms) hp else .stuck
theorem FnP.of {P : Program} {w : World} {mg : Str → Option Value} {base : Heap} {T : Tab} {k : Nat} {f : Addr} {fd : FuncData} {ps : List Str} {F : Fn} {ds : List Value} {dvs : List V} {dms : List M} (G : FnG P w mg base T k f fd ps F) (hb : L2.Binds T.K fd ps ds) (hd : Vals dvs ds)
    (hdm : ∀ g H, RVs T g H dms dvs) : FnP P w mg base T k f (posF ps.length dms F) := by
  refine ⟨fun A outer s H us vs Q E hr e0 rv ⟨g, hp, args, rh, rs, go⟩ => ?_⟩
  unfold posF at go
  by_cases hl : args.length + dms.length = ps.length
  · rw [if_pos hl] at go
    have rs2 := rs.app (hdm g H)
    have hvl : (vs ++ dvs).length = ps.length := by rw [← rs2.length, List.length_append]; exact hl
    have r2 : Vals (vs ++ dvs) (us ++ ds) := rv.append hd
    exact G.run A outer s H ⟨us, []⟩ (us ++ ds) (vs ++ dvs) Q E hr e0 (hb s us (e0.mod.kin.keeps fun b o q => (e0.bs b o q).1) (by rw [← r2.length]; exact hvl)) r2 ⟨hvl, g, hp, args ++ dms, rh, rs2, go⟩
  · rw [if_neg hl] at go; exact go.elim
section
variable {C : MC} {g : Gh} {H : Hp} {s : MS} {σ : L2.St} {k : Nat} {f : Addr} {F : Fn}
theorem sp_up {Q : VK} {args : List M} {vs : List V} (r : C.rel g s σ H) (rs : RVs C.T g H args vs) (h : Go C C.V1 σ (upF s.env (F args s.hp)) g H Q) : spP C.T F vs H Q fun cls d H' => C.W cls d σ H' := by
  refine ⟨g, s.hp, args, r.h.self, rs, ?_⟩
  cases hf : F args s.hp with
  | stuck => rw [hf] at h; exact h.elim
  | ok m hp => rw [hf] at h; exact fun g' H' v rl rv => h g' H' v rl.m0 (r.env rl.m0 (r.h.comp rl)) rv
  | err x hp => rw [hf] at h; exact fun g' H' cls d rl xr => h g' H' cls d rl.m0 (r.env rl.m0 (r.h.comp rl)) xr
/-- the callee runs -/
theorem run_p {pins : List (Addr × Obj)} {sh : Shared} {Q : VK} {us : List Value} {args : List M} {vs : List V} (G : FnP C.X.prog C.X.w C.X.mg C.X.base C.T k f F) (hr : RoomG k C.X.A) (tk : Takes C.X C.W)
    (I : Inv C.X pins σ H sh) (r : C.rel g s σ H) (rs : RVs C.T g H args vs) (rv : Vals vs us) (h : Go C C.V1 σ (upF s.env (F args s.hp)) g H Q) :
    wpAny (model C.X.prog C.X.w) C.X.A (call (.ref f) us) (EP C.X pins σ Q) C.X.xe sh := by
  have e0 : Env0 C.X.prog C.X.w C.T.K C.X.mg C.X.base C.X.A C.X.stack sh H := C.hK ▸ I.env0
  refine wpAny_call (codeAny_mono (G.run C.X.A C.X.stack sh H us vs Q _ hr e0 rv (sp_up r rs h)) fun res s' hq => ?_)
  cases res with
  | error x => exact tk x s' (XE.of_call I (fun _ _ _ z => z) hq)
  | ok fl =>
    cases fl with
    | ret u => exact I.after hq
    | next => exact hq.elim
    | brk => exact hq.elim
    | cont => exact hq.elim
/-- f(e, ..) -/
def mFn (ma : MA) (F : Fn) : ME := fun s => (ma s).bind fun ms s1 => upF s1.env (F ms s1.hp)
theorem em_fn {x : Str} {p pos : Pos} {ex : Expr} {es : List Expr} {ma : MA} (G : FnP C.X.prog C.X.w C.X.mg C.X.base C.T k f F) (hr : RoomG k C.X.A) (tk : Takes C.X C.W)
    (hm : C.X.mg x = some (.ref f)) (hk : PySem.W.keepIn C.T.K (.ref f) = true) (ha : PMa C (ex :: es) ma)
    (hg : Gl C.X x := by rfl) (hdb : (x == ("__debug__" : Str)) = false := by decide) (he : starEach (ex :: es) C.X.env = (false, eval ex C.X.env) :: starEach es C.X.env := by rfl) (hpl : (backTo pos (starEach es C.X.env)).any (·.1) = false := by rfl) :
    PMe C (.Call (.Name x p) (ex :: es) [] pos) (mFn ma F) := by
  refine ⟨fun pins sh σ H Q I h => wpAny_Call_Name_kw (ld_glob I hg hm ?_ hdb)⟩
  refine PySem.W.callWith_K (h₀ := C.X.base) I.ok.mod.kin (C.hK ▸ hk) (thn (ha.run pos pins sh σ H _ I (rdA_bind h)) fun us s1 hh => ?_) he hpl
  obtain ⟨vs, H1, I1, rv, ms, s2, g1, r1, rs, q1⟩ := hh
  exact ⟨I1.kIn, run_p G hr tk I1 r1 rs rv q1⟩
end
end Ma
/-! Ma13: a box becomes data; defs known by name; chains of comparisons. -/
namespace Ma
open L2 PySem.Spec PySem PyProof.Rows
section
variable {C : MC} {g g1 : Gh} {H H1 : Hp} {s : MS} {σ : L2.St} {ex ea eb ec : Expr} {es : List Expr} {a b c : ME} {ma : MA} {pos p : Pos} {x : Str}
/-- nobody changes the list in box n any more -/
theorem Rel.still (r : C.rel g s σ H) {n : Nat} {ms : List M} {q : Addr} (hc : s.hp[n]? = some (.lst ms)) (hq : g.ro[n]? = some q) : C.rel (g.add q) ⟨s.env, s.hp.set n .dead⟩ σ H ∧ Mono g H (g.add q) H := by
  have mo : Mono g H (g.add q) H := ⟨⟨List.prefix_refl _, fun _ h => .inl h, fun _ _ => rfl, fun _ _ h => h⟩, fun _ _ _ h => h⟩
  refine ⟨r.env mo ⟨by simp [Gh.add, r.h.len], r.h.nd, fun m d u h1 h2 => ?_, fun m d u h1 h2 lv f => ?_, fun u f => ?_, r.h.rot, r.h.frm, fun u f => ?_, r.h.nro, r.h.m0.trans mo, r.h.tb.more (fun a f => f.imp id fun z => by obtain ⟨u, e⟩ := r.h.rot q (List.mem_of_getElem? hq); exact ⟨u, by rw [z]; exact e, ((r.h.cell n _ q hc hq).plain trivial e).tbl⟩), r.h.tbe⟩, mo⟩
  · by_cases hmn : m = n
    · subst hmn
      rw [List.getElem?_set_self (List.getElem?_eq_some_iff.mp hc).1] at h1
      cases h1
      trivial
    · rw [List.getElem?_set_ne (Ne.symm hmn)] at h1
      exact (r.h.cell m d u h1 h2).mono mo rfl
  · by_cases hmn : m = n
    · subst hmn
      rw [List.getElem?_set_self (List.getElem?_eq_some_iff.mp hc).1] at h1
      cases h1
      exact lv
    · rw [List.getElem?_set_ne (Ne.symm hmn)] at h1
      rcases f with f | rfl
      · exact r.h.thaw m d u h1 h2 lv f
      · exact hmn (nd_ix r.h.nd h2 hq)
  · rcases f with f | rfl
    · exact r.h.fzt u f
    · exact r.h.rot u (List.mem_of_getElem? hq)
  · rcases f with f | rfl
    · exact r.h.nfz u f
    · rcases r.h.nro u (List.mem_of_getElem? hq) with z | z
      · exact .inr (.inr z)
      · exact .inr (.inl z)
def frz (x : M) (s : MS) : Res M := match x with
  | .box n => match s.hp[n]? with
    | some (.lst ms) => .ok (.lst ms) ⟨s.env, s.hp.set n .dead⟩
    | _ => .stuck
  | m => .ok m s
def mFrz (a : ME) : ME := fun s => (a s).bind frz
theorem em_frz (h : PMe C ex a) : PMe C ex (mFrz a) := wkE h fun σ H Q q => by
  obtain ⟨g, s, r, q⟩ := q
  refine ⟨g, s, r, ?_⟩
  unfold mFrz at q
  cases ha : a s with
  | stuck => rw [ha] at q; exact q.elim
  | err e s1 => rw [ha] at q; exact q
  | ok m s1 =>
    rw [ha] at q
    intro g1 H1 v mo r1 rv
    have q := Go.later mo q
    unfold frz at q
    cases m with
    | box n =>
      dsimp only [Res.bind] at q
      cases hc : s1.hp[n]? with
      | none => rw [hc] at q; exact q.elim
      | some cl =>
        rw [hc] at q
        cases cl with
        | lst ms =>
          cases rv with
          | @box _ p e =>
            obtain ⟨r2, mo2⟩ := r1.still hc e
            obtain ⟨vs, e2, rs⟩ := r1.h.cell n _ p hc e
            exact q (g1.add p) H1 _ mo2 r2 (.lst (.inr rfl) e2 (rs.mono mo2))
        | _ => exact q.elim
    | _ => exact q.ret r1 rv
/-! ### defs by their names -/
/-- what the text's name x holds: a def that keeps its mirror -/
structure Kn (P : Program) (w : World) (mg : Str → Option Value) (base : Heap) (T : Tab) (x : Str) (k : Nat) (F : Fn) : Prop where
  ex : ∃ f : Addr, FnP P w mg base T k f F ∧ mg x = some (.ref f) ∧ PySem.W.keepIn T.K (.ref f) = true
theorem em_kn {k : Nat} {F : Fn} (G : Kn C.X.prog C.X.w C.X.mg C.X.base C.T x k F) (hr : RoomG k C.X.A) (tk : Takes C.X C.W) (ha : PMa C (ex :: es) ma)
    (hg : Gl C.X x := by rfl) (hdb : (x == ("__debug__" : Str)) = false := by decide) (he : starEach (ex :: es) C.X.env = (false, eval ex C.X.env) :: starEach es C.X.env := by rfl) (hpl : (backTo pos (starEach es C.X.env)).any (·.1) = false := by rfl) :
    PMe C (.Call (.Name x p) (ex :: es) [] pos) (mFn ma F) := by
  obtain ⟨f, h, hm, hk⟩ := G.ex
  exact em_fn h hr tk hm hk ha hg hdb he hpl
/-! ### a < b < c -/
def mChain (o o' : M → M → MS → Res M) (a b c : ME) : ME := fun s => (a s).bind fun x s1 => (b s1).bind fun y s2 => (o x y s2).bind fun z s3 => match z with
  | .bl k => if k = true then (c s3).bind fun w s4 => o' y w s4 else .ok (.bl false) s3
  | _ => .stuck
theorem em_chain {op op' : CmpOp} {o o' : M → M → MS → Res M} (ho : Op2Ok C (compareOp op) o) (ho' : Op2Ok C (compareOp op') o') (ha : PMe C ea a) (hb : PMe C eb b) (hc : PMe C ec c)
    (hm : lastMarks [op, op'] [eb, ec] = false := by with_unfolding_all rfl) : PMe C (.Compare ea [op, op'] [eb, ec] pos) (mChain o o' a b c) := by
  refine ⟨fun pins sh σ H Q I h => ?_⟩
  obtain ⟨g, s, r, q⟩ := h
  refine Compare_chain (thn (ha.run pins sh σ H _ I ⟨g, s, r, Go.bind (R := C.V1) q⟩) fun v s1 ⟨x, H1, I1, l1, m1, ms1, g1, mo1, r1, rv1, q1⟩ => chain_link ?_) hm
  refine thn (hb.run pins s1 σ H1 _ I1 ⟨g1, ms1, r1, Go.bind (R := C.V1) q1⟩) fun u s2 ⟨y, H2, I2, l2, m2, ms2, g2, mo2, r2, rv2, q2⟩ => ?_
  refine thn (ho pins s2 σ H2 g2 ms2 m1 m2 x y v u _ I2 r2 (rv1.mono mo2) rv2 l1 l2 (Go.bind (R := C.V1) q2)) fun d s3 ⟨z, H3, I3, l3, m3, ms3, g3, mo3, r3, rv3, q3⟩ => ?_
  cases rv3 with
  | bl k =>
    cases l3
    refine wpAny_truthy_bool ?_
    cases k with
    | false => exact ite_ff ⟨.bl false, H3, I3, rfl, q3.ret r3 (.bl _)⟩
    | true =>
      refine ite_tt (chain_last (thn (hc.run pins s3 σ H3 _ I3 ⟨g3, ms3, r3, Go.bind (R := C.V1) q3⟩) fun w' s4 ⟨z', H4, I4, l4, m4, ms4, g4, mo4, r4, rv4, q4⟩ => ?_))
      exact ho' pins s4 σ H4 g4 ms4 m2 m4 y z' u w' Q I4 r4 (rv2.mono (mo3.trans mo4)) rv4 l2 l4 q4
  | _ => exact q3.elim
/-- -e -/
def mNeg (a : ME) : ME := fun s => (a s).bind fun x s1 => match x with
  | .int i => .ok (.int (-i)) s1
  | _ => .stuck
theorem em_neg (ha : PMe C ea a) : PMe C (.UnaryOp .USub ea pos) (mNeg a) := wkE (pe_un un_neg ha) fun σ H Q h => by
  obtain ⟨g, s, r, q⟩ := rdE_bind h
  refine ⟨g, s, r, q.imp ?_⟩
  rintro k H1 ⟨m, s1, g1, r1, rv, q1⟩
  cases rv with
  | int i => exact ⟨i, rfl, q1.ret r1 (.int _)⟩
  | _ => exact q1.elim
end
end Ma
/-! Ma14: targets in parentheses; list comprehensions. -/
namespace Ma
open L2 PySem.Spec PySem PyProof.Rows
section
variable {C : MC} {g g1 : Gh} {H H1 : Hp} {s : MS} {σ : L2.St} {ex ea eb ec : Expr} {es : List Expr} {a b c : ME} {ma : MA} {pos p : Pos} {x : Str}
def gNs : List Nat → TGs
  | [] => gNil
  | i :: is => gCons (gName i) (gNs is)
def setM : List Nat → List M → List (Option M) → Option (List (Option M))
  | [], [], env => some env
  | i :: is, m :: ms, env => setM is ms (env.set i (some m))
  | _, _, _ => none
def gTupN (is : List Nat) : MG := fun w s => match w with
  | .tup ms => match setM is ms s.env with
    | some e => .ok () ⟨e, s.hp⟩
    | none => .stuck
  | _ => .stuck
theorem wipe_put {i : Nat} {v : V} : ∀ {vs : List Nat} {σ : L2.St}, i ∈ vs → wipe (σ.set i (some v)) vs = wipe σ vs
  | [], _, h => by simp at h
  | j :: vs, σ, h => by
    unfold wipe
    by_cases hm : i ∈ vs
    · rw [wipe_put hm]
    · have e : i = j := by simpa [hm] using h
      subst e
      have key : ∀ {us : List Nat} {τ : L2.St}, i ∉ us → wipe (τ.set i (some v)) us = (wipe τ us).set i (some v) := by
        intro us
        induction us with
        | nil => intro τ _; rfl
        | cons k us ih =>
          intro τ hk
          have h1 : i ≠ k := fun z => hk (by simp [z])
          have h2 : i ∉ us := fun z => hk (by simp [z])
          unfold wipe
          rw [ih h2, List.set_comm _ _ h1]
      rw [key hm, List.set_set]
theorem ns_of {Q : L2.St → Hp → Prop} : ∀ {is : List Nat} {ms : List M} {vs : List V} {env env' : List (Option M)} {hp : List Cell} {σ : L2.St}, C.rel g ⟨env, hp⟩ σ H → RVs C.T g H ms vs → setM is ms env = some env' →
    (∀ σ', C.rel g ⟨env', hp⟩ σ' H → (∀ ws : List Nat, (∀ i ∈ is, i ∈ ws) → wipe σ' ws = wipe σ ws) → Q σ' H) → gNs is vs σ H Q
  | [], [], _, env, env', hp, σ, r, .nil, h, k => by
    cases h
    exact ⟨rfl, k σ r fun _ _ => rfl⟩
  | i :: is, m :: ms, _, env, env', hp, σ, r, .cons rv rs, h, k => by
    refine ⟨_, _, rfl, ?_⟩
    refine ns_of (is := is) (r.put (i := i) rv) rs h fun σ' r' hw => k σ' r' fun ws hs => ?_
    rw [hw ws fun j hj => hs j (by simp [hj])]
    exact wipe_put (hs i (by simp))
  | [], _ :: _, _, _, _, _, _, _, _, h, _ => by cases h
  | _ :: _, [], _, _, _, _, _, _, _, h, _ => by cases h
theorem gm_tupN {es : List Expr} {k : Nat} {is : List Nat} {n : Nat} (hc : C.X.calm = true) (h : PGs C.X es (gNs is)) (hl : is.length = n := by rfl)
    (hn : (assignEach es C.X.env).length = n := by rfl) (hst : (assignEach es C.X.env).findIdx? (·.1) = none := by rfl) : PMg C (.Tuple es k pos) (gTupN is) :=
  wkG (pg_tup hc h hn hst) fun v σ H Q ⟨g, s, w, r, rv, q⟩ => by
    unfold gTupN at q
    cases rv with
    | @tup pa ms vs e rs =>
      dsimp only at q
      cases he : setM is ms s.env with
      | none => rw [he] at q; exact q.elim
      | some env' =>
        rw [he] at q
        have hlen : ∀ {is : List Nat} {ms : List M} {env env' : List (Option M)}, setM is ms env = some env' → ms.length = is.length := by
          intro is
          induction is with
          | nil => intro ms env env' z; cases ms with
            | nil => rfl
            | cons _ _ => cases z
          | cons i is ih => intro ms env env' z; cases ms with
            | nil => cases z
            | cons _ _ => exact congrArg Nat.succ (ih z)
        exact ⟨pa, vs, rfl, .inl (.inl e), by rw [← rs.length, hlen he, hl], ns_of (env := s.env) (hp := s.hp) r rs he fun σ' r' _ => q g H σ' (Mono.refl _ _) r'⟩
    | _ => exact q.elim
/-! ### the targets of a comprehension -/
def rdGc (C : MC) (ws : List Nat) (m : MG) : TG := fun v σ H Q => ∃ g s w, C.rel g s σ H ∧ RV C.T g H w v ∧ match m w s with
  | .ok _ s1 => ∀ (σ' : L2.St), C.rel g s1 σ' H → wipe σ' ws = wipe σ ws → Q σ' H
  | _ => False
abbrev PMc (C : MC) (ws : List Nat) (tg : Expr) (m : MG) : Prop := PG C.X tg (rdGc C ws m)
theorem gc_name (i : Nat) {ws : List Nat} (hN : C.X.N.Nodup) (hi : C.X.N[i]? = some x) (hx : Loc C.X.env.scope x) (hw : i ∈ ws) (hf : C.X.fn x = true ∨ C.X.env.scope.names.lookup x = some .local := by first | exact .inl rfl | exact .inr rfl | assumption) : PMc C ws (.Name x pos) (gSet i) :=
  wkG (pg_name hN hi hx hf) fun v σ H Q ⟨g, s, w, r, rv, q⟩ => q _ (r.put rv) (wipe_put hw)
theorem gc_tup {es : List Expr} {k : Nat} {is ws : List Nat} {n : Nat} (hc : C.X.calm = true) (h : PGs C.X es (gNs is)) (hw : ∀ i ∈ is, i ∈ ws) (hl : is.length = n := by rfl)
    (hn : (assignEach es C.X.env).length = n := by rfl) (hst : (assignEach es C.X.env).findIdx? (·.1) = none := by rfl) : PMc C ws (.Tuple es k pos) (gTupN is) :=
  wkG (pg_tup hc h hn hst) fun v σ H Q ⟨g, s, w, r, rv, q⟩ => by
    unfold gTupN at q
    cases rv with
    | @tup pa ms vs e rs =>
      dsimp only at q
      cases he : setM is ms s.env with
      | none => rw [he] at q; exact q.elim
      | some env' =>
        rw [he] at q
        have hlen : ∀ {is : List Nat} {ms : List M} {env env' : List (Option M)}, setM is ms env = some env' → ms.length = is.length := by
          intro is
          induction is with
          | nil => intro ms env env' z; cases ms with
            | nil => rfl
            | cons _ _ => cases z
          | cons i is ih => intro ms env env' z; cases ms with
            | nil => cases z
            | cons _ _ => exact congrArg Nat.succ (ih z)
        exact ⟨pa, vs, rfl, .inl (.inl e), by rw [← rs.length, hlen he, hl], ns_of (env := s.env) (hp := s.hp) r rs he fun σ' r' z => q σ' r' (z ws hw)⟩
    | _ => exact q.elim
/-! ### [elt for target in iter if ..] -/
def wipeM (env : List (Option M)) : List Nat → List (Option M)
  | [] => env
  | v :: vs => (wipeM env vs).set v none
theorem Rel.wipe {T : Tab} {e : En} : ∀ {vs : List Nat} {s : MS}, Rel T e g s σ H → Rel T e g ⟨wipeM s.env vs, s.hp⟩ (wipe σ vs) H
  | [], s, r => r
  | v :: vs, s, r => by
    have q := Rel.wipe (vs := vs) r
    refine ⟨q.h, by simp [wipeM, L2.wipe, q.len], fun i m x h1 h2 => ?_⟩
    have h1 : ((wipeM s.env vs).set v none)[i]? = some (some m) := h1
    have h2 : ((L2.wipe σ vs).set v none)[i]? = some x := h2
    rw [List.getElem?_set] at h1 h2
    by_cases hv : v = i
    · rw [if_pos hv] at h1
      split at h1 <;> cases h1
    · rw [if_neg hv] at h1 h2
      exact q.sl i m x h1 h2
def lcLoop (vs : List Nat) (tg : MG) (tt : MT) (el : ME) : List M → List M → MS → Res (List M)
  | [], acc, s => .ok acc s
  | x :: xs, acc, s => match tg x ⟨wipeM s.env vs, s.hp⟩ with
    | .ok _ s1 => match tt s1 with
      | .ok true s2 => match el s2 with
        | .ok y s3 => if acc.length < big then lcLoop vs tg tt el xs (acc ++ [y]) ⟨s.env, s3.hp⟩ else .stuck
        | _ => .stuck
      | .ok false s2 => lcLoop vs tg tt el xs acc ⟨s.env, s2.hp⟩
      | _ => .stuck
    | _ => .stuck
def mLc (vs : List Nat) (it : MI) (tg : MG) (tt : MT) (el : ME) : ME := fun s => (it s).bind fun xs s1 => (lcLoop vs tg tt el xs [] s1).bind fun ms s2 => .ok (.lst ms) s2
/-- the new list, beside all that the machine knows -/
structure Side (e : En) (g : Gh) (H : Hp) (D : Addr) (vs : List V) : Prop where
  at_ : H D = some (.lst vs)
  nf : ¬ g.fz D
  nr : D ∉ g.ro
  ne : e.H D = none
theorem RelH.side {T : Tab} {e : En} {hp : List Cell} {D : Addr} {vs ws : List V} (r : RelH T e g hp H) (d : Side e g H D vs) : RelH T e g hp (upd H D (.lst ws)) ∧ Mono g H g (upd H D (.lst ws)) ∧ Side e g (upd H D (.lst ws)) D ws := by
  have mo : Mono g H g (upd H D (.lst ws)) := ⟨⟨List.prefix_refl _, fun _ h => h, fun a f => upd_ne fun z => d.nf (z ▸ f), fun a us h => by
    have : a ≠ D := fun z => by subst z; rw [d.at_] at h; cases h
    rw [upd_ne this]; exact h⟩, fun a o u h => by
    have : a ≠ D := fun z => by subst z; rw [d.at_] at h; cases h
    rw [upd_ne this]; exact h⟩
  have nr : ∀ {n : Nat} {a : Addr}, g.ro[n]? = some a → a ≠ D := fun h z => d.nr (z ▸ List.mem_of_getElem? h)
  refine ⟨⟨r.len, r.nd, fun n c a h1 h2 => (r.cell n c a h1 h2).mono mo (upd_ne (nr h2)), r.thaw, fun a f => ?_, fun a h => ?_, fun a o h1 h2 => ?_, r.nfz, r.nro, r.m0.trans mo, r.tb.upd (fun u z => by rw [d.at_] at z; cases z; exact plain_lst) plain_lst.tbl (fun _ => plain_lst), r.tbe⟩, mo, ⟨upd_same, d.nf, d.nr, d.ne⟩⟩
  · obtain ⟨o, q⟩ := r.fzt a f
    exact ⟨o, by rw [upd_ne fun (z : a = D) => d.nf (z ▸ f)]; exact q⟩
  · obtain ⟨o, q⟩ := r.rot a h
    exact ⟨o, by rw [upd_ne fun (z : a = D) => d.nr (z ▸ h)]; exact q⟩
  · have q := r.frm a o h1 h2
    rw [upd_ne fun z => by subst z; rw [d.ne] at h1; cases h1]
    exact q
theorem Side.later {T : Tab} {e : En} {hp hp' : List Cell} {D : Addr} {vs : List V} (d : Side e g H D vs) (q : RelH T ⟨g, H⟩ g1 hp' H1) : Side e g1 H1 D vs := by
  refine ⟨q.frm D _ d.at_ d.nr, fun f => ?_, fun h => ?_, d.ne⟩
  · rcases q.nfz D f with z | z | z
    · exact d.nf z
    · have z : H D = none := z
      rw [d.at_] at z; cases z
    · exact d.nr z
  · rcases q.nro D h with z | z
    · exact d.nr z
    · have z : H D = none := z
      rw [d.at_] at z; cases z
/-- what the loop's end has to give -/
def GoL (C : MC) (σ : L2.St) (D : Addr) (r : Res (List M)) (g : Gh) (H : Hp) (Q : Hp → Prop) : Prop := match r with
  | .ok ms s => ∀ (g' : Gh) (H' : Hp) (vs : List V), Mono g H g' H' → C.rel g' s σ H' → Side C.e g' H' D vs → RVs C.T g' H' ms vs → Q H'
  | _ => False
theorem GoL.later {D : Addr} {r : Res (List M)} {Q : Hp → Prop} (m : Mono g H g1 H1) (h : GoL C σ D r g H Q) : GoL C σ D r g1 H1 Q := by
  cases r with
  | ok a s => exact fun g' H' v q => h g' H' v (m.trans q)
  | err x s => exact h
  | stuck => exact h
abbrev MC.inBlk (C : MC) (s : Shared) (H : Hp) (scope : Scope) (D : Addr) (cl : List (Str × Addr)) (fp : List Addr) (e : En) : MC := ⟨C.X.blk s H scope (compEnvC scope cl D C.X.env) fp, C.T, e, fun _ _ _ _ => False, C.hK⟩
theorem lc_rd {mi : MI} {mg : MG} {mt : MT} {me : ME} {vs : List Nat} {g' : TG} {tt : TT} {te : TE} (hg : ∀ e v σ H Q, rdGc ⟨C.X, C.T, e, fun _ _ _ _ => False, C.hK⟩ vs mg v σ H Q → g' v σ H Q)
    (ht : ∀ e σ H Q, rdT ⟨C.X, C.T, e, fun _ _ _ _ => False, C.hK⟩ mt σ H Q → tt σ H Q) (he : ∀ e σ H Q, rdE ⟨C.X, C.T, e, fun _ _ _ _ => False, C.hK⟩ me σ H Q → te σ H Q) {σ : L2.St} {H : Hp} {Q : VK}
    (h : rdE C (mLc vs mi mg mt me) σ H Q) : tLc (rdI C mi) g' tt te vs σ H Q := by
  obtain ⟨g, s, r, q⟩ := h
  refine ⟨g, s, r, ?_⟩
  unfold mLc at q
  unfold GoI
  cases hm : mi s with
  | stuck => rw [hm] at q; exact q.elim
  | err x s1 => rw [hm] at q; exact q
  | ok items s1 =>
    rw [hm] at q
    dsimp only [Res.bind] at q
    intro g0 H0 J mo0 r0 wk D hD
    have q := Go.later mo0 q
    -- the loop's end
    have fin0 : GoL C σ D (lcLoop vs mg mt me items [] s1) g0 H0 (fun H' => Q (.ref D) H') := by
      unfold GoL
      cases hl : lcLoop vs mg mt me items [] s1 with
      | stuck => rw [hl] at q; exact q.elim
      | err x s2 => exact absurd hl (by
          have : ∀ (xs acc : List M) (s : MS), lcLoop vs mg mt me xs acc s ≠ .err x s2 := by
            intro xs
            induction xs with
            | nil => intro acc s z; cases z
            | cons y ys ih =>
              intro acc s z
              unfold lcLoop at z
              split at z
              · split at z
                · split at z
                  · split at z
                    · exact ih _ _ z
                    · cases z
                  · cases z
                · exact ih _ _ z
                · cases z
              · cases z
          exact this _ _ _)
      | ok ms s2 =>
        rw [hl] at q
        intro g' H' ws mo r' d rs
        have mo2 : Mono g' H' (g'.add D) H' := ⟨⟨List.prefix_refl _, fun _ h => .inl h, fun _ _ => rfl, fun _ _ h => h⟩, fun _ _ _ h => h⟩
        have r2 : C.rel (g'.add D) s2 σ H' := r'.env mo2 ⟨r'.h.len, r'.h.nd, fun n c a h1 h2 => (r'.h.cell n c a h1 h2).mono mo2 rfl, fun n c a h1 h2 lv f => by
          rcases f with f | rfl
          · exact r'.h.thaw n c a h1 h2 lv f
          · exact d.nr (List.mem_of_getElem? h2), fun a f => by
          rcases f with f | rfl
          · exact r'.h.fzt a f
          · exact ⟨_, d.at_⟩, r'.h.rot, r'.h.frm, fun a f => by
          rcases f with f | rfl
          · exact r'.h.nfz a f
          · exact .inr (.inl d.ne), r'.h.nro, r'.h.m0.trans mo2, r'.h.tb.more (fun a f => f.imp id fun z => ⟨_, (congrArg H' z).trans d.at_, plain_lst.tbl⟩), r'.h.tbe⟩
        exact q (g'.add D) H' (.ref D) (mo.trans mo2) r2 (.lst (.inr rfl) d.at_ (rs.mono mo2))
    have hDr : D ∉ g0.ro := fun z => by obtain ⟨o, e⟩ := r0.h.rot D z; rw [hD] at e; cases e
    have hDf : ¬ g0.fz D := fun z => by obtain ⟨o, e⟩ := r0.h.fzt D z; rw [hD] at e; cases e
    have hDe : C.e.H D = none := by
      rcases r0.h.lost hD with z | z
      · exact z
      · exact absurd (r0.h.m0.ro.subset z) hDr
    have mo1 := mono_laid (o := .lst []) r0.h hD
    have r1 := r0.laid (o := .lst []) hD
    obtain ⟨G, Y, w, hG, hY⟩ := wk
    refine lc_it w (fun i H => ∃ g hp acc ws, Mono g0 H0 g H ∧ C.rel g ⟨s1.env, hp⟩ σ H ∧ Side C.e g H D ws ∧ RVs C.T g H acc ws ∧ GoL C σ D (lcLoop vs mg mt me (items.drop i) acc ⟨s1.env, hp⟩) g H (fun H' => Q (.ref D) H'))
      ⟨g0, s1.hp, [], [], mo1, r1, ⟨upd_same, hDf, hDr, hDe⟩, .nil, fin0.later mo1⟩ (fun i H _ ⟨g, _, _, _, mo, _⟩ => hG g H mo) ?_ ?_
    · rintro i x H1 H2 hi ⟨g1, hp1, acc, ws, mo1, r1, d1, rs1, q1⟩ y
      obtain ⟨m, hm, mo2, r2, rv, same⟩ := hY i g1 H1 ⟨s1.env, hp1⟩ σ x H2 hi mo1 r1 y
      have d2 : Side C.e g1 H2 D ws := ⟨same _ _ d1.at_, d1.nf, d1.nr, d1.ne⟩
      have q1 := q1.later mo2
      have rs2 := rs1.mono mo2
      rw [drop_of hm] at q1
      unfold lcLoop at q1
      -- the turn starts from here
      have rt : Rel C.T ⟨g1, H2⟩ g1 ⟨wipeM s1.env vs, hp1⟩ (wipe σ vs) H2 := by
        have := Rel.wipe (vs := vs) r2
        exact ⟨this.h.self, this.len, this.sl⟩
      refine hg ⟨g1, H2⟩ _ _ _ _ ⟨g1, ⟨wipeM s1.env vs, hp1⟩, m, rt, rv, ?_⟩
      dsimp only at q1
      cases ht1 : mg m ⟨wipeM s1.env vs, hp1⟩ with
      | stuck => rw [ht1] at q1; exact q1.elim
      | err e s2 => rw [ht1] at q1; exact q1.elim
      | ok u s2 =>
        rw [ht1] at q1
        intro σ2 r3 hw
        refine ⟨by rw [hw]; exact (by
          have : ∀ (us : List Nat) (τ : L2.St), wipe (wipe τ us) us = wipe τ us := by
            intro us τ
            apply List.ext_getElem?
            intro j
            have key : ∀ (us : List Nat) (τ : L2.St) (j : Nat), (wipe τ us)[j]? = if j ∈ us then (if j < τ.length then some none else none) else τ[j]? := by
              intro us
              induction us with
              | nil => intro τ j; simp [wipe]
              | cons k us ih =>
                intro τ j
                unfold wipe
                rw [List.getElem?_set, ih, wipe_length]
                by_cases hk : k = j
                · subst hk; simp
                · simp [hk, Ne.symm hk]
            rw [key, key, wipe_length]
            split <;> rfl
          exact this vs σ), ?_⟩
        refine ht ⟨g1, H2⟩ _ _ _ ⟨g1, s2, r3, ?_⟩
        dsimp only at q1
        cases ht2 : mt s2 with
        | stuck => rw [ht2] at q1; exact q1.elim
        | err e s3 => rw [ht2] at q1; exact q1.elim
        | ok k s3 =>
          rw [ht2] at q1
          intro g3 H3 b mo3 r3' eb
          cases eb
          cases k with
          | false =>
            rw [if_neg Bool.false_ne_true]
            have rc : RelH C.T C.e g3 s3.hp H3 := r2.h.comp r3'.h
            have mo3' := r3'.h.m0
            exact ⟨g3, s3.hp, acc, ws, (mo1.trans mo2).trans mo3', r2.env mo3' rc, d2.later (hp := hp1) r3'.h, rs2.mono mo3', q1.later mo3'⟩
          | true =>
            rw [if_pos rfl]
            refine he ⟨g1, H2⟩ _ _ _ ⟨g3, s3, r3', ?_⟩
            dsimp only at q1
            cases ht3 : me s3 with
            | stuck => rw [ht3] at q1; exact q1.elim
            | err e s4 => rw [ht3] at q1; exact q1.elim
            | ok y s4 =>
              rw [ht3] at q1
              intro g4 H4 yv mo4 r4 ry
              dsimp only at q1
              by_cases hb : acc.length < big
              · rw [if_pos hb] at q1
                have mo4' := r4.h.m0
                have rc : RelH C.T C.e g4 s4.hp H4 := r2.h.comp r4.h
                have d4 := d2.later (hp := hp1) r4.h
                have rs4 := rs2.mono mo4'
                obtain ⟨rh5, mo5, d5⟩ := rc.side (ws := ws ++ [yv]) d4
                exact ⟨ws, d4.at_, by rw [← rs4.length, sizeLine_eq]; exact hb, g4, s4.hp, acc ++ [y], ws ++ [yv], ((mo1.trans mo2).trans mo4').trans mo5, (r2.env mo4' rc).env mo5 rh5, d5, (rs4.mono mo5).app (.cons (ry.mono mo5) .nil), q1.later (mo4'.trans mo5)⟩
              · rw [if_neg hb] at q1; exact q1.elim
    · rintro H1 ⟨g1, hp1, acc, ws, mo1, r1, d1, rs1, q1⟩
      rw [List.drop_length] at q1
      exact q1 g1 H1 ws (Mono.refl _ _) r1 d1 rs1
end
end Ma
/-! Ma15: list comprehensions as expressions and as statements. -/
namespace Ma
open L2 PySem.Spec PySem PyProof.Rows
section
variable {C : MC} {tg iter elt : Expr} {ifs : List Expr} {scope : Scope} {own : List (Str × Nat)} {pos spos : Pos} {mi : MI} {mg : MG} {mt : MT} {me : ME}
def mYes : MT := fun s => .ok true s
abbrev PMts (C : MC) (ifs : List Expr) (mt : MT) : Prop := PTs C.X ifs (rdT C mt)
theorem tsm_nil : PMts C [] mYes := ⟨fun pins s σ H Q I ⟨g, ms, r, q⟩ => pts_nil.run pins s σ H Q I (q.ret r rfl)⟩
theorem tsm_one {c : Expr} (h : PMt C c mt) : PMts C [c] mt := pts_one h
theorem em_lc (hc : C.X.calm = true) (hN : C.X.N.Nodup) (hi : PMi C tg iter mi) (ok : BlkOk C.X.N C.X.env.scope scope own)
    (hg : ∀ (s : Shared) (H : Hp) (D : Addr) (cl : List (Str × Addr)) (fp : List Addr) (e : En), PMc (C.inBlk s H scope D cl fp e) (own.map (·.2)) tg mg)
    (ht : ∀ (s : Shared) (H : Hp) (D : Addr) (cl : List (Str × Addr)) (fp : List Addr) (e : En), PMts (C.inBlk s H scope D cl fp e) ifs mt)
    (he : ∀ (s : Shared) (H : Hp) (D : Addr) (cl : List (Str × Addr)) (fp : List Addr) (e : En), PMe (C.inBlk s H scope D cl fp e) elt me)
    (hs : ∀ x, foldedSetIterable iter C.X.env x = pure x := by intro _; rfl) : PMe C (.ListComp elt [⟨tg, iter, ifs, 0⟩] scope pos) (mLc (own.map (·.2)) mi mg mt me) :=
  wkE (pe_lc (g := fun v σ H Q => ∃ e, rdGc ⟨C.X, C.T, e, fun _ _ _ _ => False, C.hK⟩ (own.map fun (p : Str × Nat) => p.2) mg v σ H Q) (tt := fun σ H Q => ∃ e, rdT ⟨C.X, C.T, e, fun _ _ _ _ => False, C.hK⟩ mt σ H Q) (te := fun σ H Q => ∃ e, rdE ⟨C.X, C.T, e, fun _ _ _ _ => False, C.hK⟩ me σ H Q) hc hN hi ok
    (fun s H D cl fp => ⟨fun pins s1 σ H1 v u Q I r ⟨e, q⟩ => (hg s H D cl fp e).run pins s1 σ H1 v u Q I r q⟩)
    (fun s H D cl fp => ⟨fun pins s1 σ H1 Q I ⟨e, q⟩ => (ht s H D cl fp e).run pins s1 σ H1 Q I q⟩)
    (fun s H D cl fp => ⟨fun pins s1 σ H1 Q I ⟨e, q⟩ => (he s H D cl fp e).run pins s1 σ H1 Q I q⟩) hs)
    fun σ H Q h => lc_rd (fun e v σ H Q z => ⟨e, z⟩) (fun e σ H Q z => ⟨e, z⟩) (fun e σ H Q z => ⟨e, z⟩) h
theorem sm_setLc (i : Nat) {y : Str} {py : Pos} (hc : C.X.calm = true) (hN : C.X.N.Nodup) (hi : PMi C tg iter mi) (ok : BlkOk C.X.N C.X.env.scope scope own)
    (hg : ∀ (s : Shared) (H : Hp) (D : Addr) (cl : List (Str × Addr)) (fp : List Addr) (e : En), PMc (C.inBlk s H scope D cl fp e) (own.map (·.2)) tg mg)
    (ht : ∀ (s : Shared) (H : Hp) (D : Addr) (cl : List (Str × Addr)) (fp : List Addr) (e : En), PMts (C.inBlk s H scope D cl fp e) ifs mt)
    (he : ∀ (s : Shared) (H : Hp) (D : Addr) (cl : List (Str × Addr)) (fp : List Addr) (e : En), PMe (C.inBlk s H scope D cl fp e) elt me)
    (hy : C.X.N[i]? = some y := by rfl) (hyl : C.X.env.scope.names.lookup y = some .local := by rfl)
    (hsw : swapsWith (.ListComp elt [⟨tg, iter, ifs, 0⟩] scope pos) (some (.Name y py)) spos.line C.X.env = pure true := by exact sw_true rfl rfl rfl (by decide +kernel))
    (hs : ∀ x, foldedSetIterable iter C.X.env x = pure x := by intro _; rfl) : PMs C (.Assign [.Name y py] (.ListComp elt [⟨tg, iter, ifs, 0⟩] scope pos) spos) (sSet i (mLc (own.map (·.2)) mi mg mt me)) :=
  wkS (ps_setLc (g := fun v σ H Q => ∃ e, rdGc ⟨C.X, C.T, e, fun _ _ _ _ => False, C.hK⟩ (own.map fun (p : Str × Nat) => p.2) mg v σ H Q) (tt := fun σ H Q => ∃ e, rdT ⟨C.X, C.T, e, fun _ _ _ _ => False, C.hK⟩ mt σ H Q) (te := fun σ H Q => ∃ e, rdE ⟨C.X, C.T, e, fun _ _ _ _ => False, C.hK⟩ me σ H Q) hc hN hy hyl hsw hi ok
    (fun s H D cl fp => ⟨fun pins s1 σ H1 v u Q I r ⟨e, q⟩ => (hg s H D cl fp e).run pins s1 σ H1 v u Q I r q⟩)
    (fun s H D cl fp => ⟨fun pins s1 σ H1 Q I ⟨e, q⟩ => (ht s H D cl fp e).run pins s1 σ H1 Q I q⟩)
    (fun s H D cl fp => ⟨fun pins s1 σ H1 Q I ⟨e, q⟩ => (he s H D cl fp e).run pins s1 σ H1 Q I q⟩) hs)
    fun D σ H h => by
      obtain ⟨g, s, r, q⟩ := h
      refine lc_rd (C := C) (mi := mi) (fun e v σ H Q z => ⟨e, z⟩) (fun e σ H Q z => ⟨e, z⟩) (fun e σ H Q z => ⟨e, z⟩) ⟨g, s, r, (Go.bindS (R := C.V1) (σ := σ) q).imp ?_⟩
      rintro x H1 ⟨m, s1, g1, mo, r1, rv, q1⟩
      exact q1.nx (r1.put rv)
end
end Ma
/-! Ma16: a law's end: its mirror gives True. -/
namespace Ma
open L2 PySem.Spec PySem PyProof.Rows
/-- the law's def, called at the heap behind the top, with the script and the empty tables known as T tells -/
theorem lawG {P : Program} {w : World} {T : Tab} {mg mb : Str → Option Value} {k : Nat} {fa a : Addr} {F : Fn} {s₁ : Shared} {vs : List Value} {ns : List Int} {hp : List Cell} {cs : List (Addr × Addr)}
    (KX : T.K.In s₁.heap) (hns : s₁.heap.Ns mainGlobals mg) (hb : s₁.heap.Ns builtinsNs mb) (hbb : ∀ x : Str, x ≠ "__name__" → mb x = bootBuiltins x) (hlim : s₁.heap.NoLimit) (hg : s₁.gens = #[])
    (hT : ∀ p ∈ cs, s₁.heap.get? p.2 = some (PySem.W.tabObj #[])) (nT : ∀ p ∈ cs, T.K.lookup p.2 = none) (hC : ∀ p ∈ cs, PySem.W.CodeHd s₁.heap p.1 p.2) (eT : T.tb.map (·.1) = cs.map (·.2)) (dT : (cs.map (·.2)).Nodup)
    (hbm : ∃ (bm : Addr) (ob : Obj), mg "__builtins__" = some (.ref bm) ∧ bm ≠ builtinsNs ∧ s₁.heap.get? bm = some ob ∧ ob.cls = .type "module" ∧ ob.dict = some builtinsNs ∧ ob.data = .plain)
    (ha : s₁.heap.get? a = some { cls := .type "list", data := .seq vs.toArray }) (hi : IntsAre vs ns) (hl : ns.length ≤ sizeLine) (hr : Room k callerA)
    (G : ∀ base : Heap, T.K.In base → base.Ns mainGlobals mg → (∀ p ∈ cs, LamX.TabB base mg p.1 p.2) → FnP P w mg base T k fa F) (hF : F [.scr ns] (cs.map fun _ => Cell.dead) = .ok (.bl true) hp) :
    codeAny (model P w) callerA (.call (.ref fa) ⟨[.ref a], []⟩) (fun r s' => r = .ok (.ret (.bool true)) ∧ OldK s₁.heap s'.heap ∧ s'.os = s₁.os ∧ AllBare s'.gens) s₁ := by
  have vints := vals_ints hi
  let scrO : Obj := { cls := .type "list", data := .seq vs.toArray }
  have isT : ∀ b ∈ cs.map (·.2), s₁.heap.get? b = some (PySem.W.tabObj #[]) := fun b hb => by
    obtain ⟨p, hp, rfl⟩ := List.mem_map.mp hb
    exact hT p hp
  have aT : a ∉ cs.map (·.2) := fun z => by
    have q := isT a z
    rw [ha] at q
    have q2 : Data.seq vs.toArray _ = Data.fields #[] := congrArg Obj.data (Option.some.inj q)
    cases q2
  have tbM : ∀ p ∈ T.tb, p.1 ∈ cs.map (·.2) := fun p hp => eT ▸ List.mem_map.mpr ⟨p, hp, rfl⟩
  -- H tracks the script at most, and the tables; gh: its ghosts
  have main : ∀ (H : Hp) (gh : Gh), gh.ro = cs.map (·.2) → (∀ b, gh.fz b → b = a ∧ ∃ o, H b = some o) → (∀ b o, H b = some o → (b = a ∧ o = .frz scrO (.lst (ns.map V.int))) ∨ (b ∈ cs.map (·.2) ∧ o = .tbl #[])) →
      (∀ b ∈ cs.map (·.2), H b = some (.tbl #[])) → HOk P w H s₁.heap → (H a ≠ none → T.K.lookup a = none) → RV T gh H (.scr ns) (.ref a) →
      codeAny (model P w) callerA (.call (.ref fa) ⟨[.ref a], []⟩) (fun r s' => r = .ok (.ret (.bool true)) ∧ OldK s₁.heap s'.heap ∧ s'.os = s₁.os ∧ AllBare s'.gens) s₁ := by
    intro H gh gro gfz only tabs hok notK rv
    have free : ∀ {b : Addr} {o : Obj}, s₁.heap.get? b = some o → o ≠ scrO → o ≠ PySem.W.tabObj #[] → H b = none := fun {b o} e ne nt => by
      cases q : H b with
      | none => rfl
      | some u =>
        rcases only b u q with ⟨rfl, _⟩ | ⟨z, _⟩
        · rw [ha] at e
          exact absurd (Option.some.inj e).symm ne
        · rw [isT b z] at e
          exact absurd (Option.some.inj e).symm nt
    have keepD : ∀ {b : Addr} {o : Obj}, s₁.heap.get? b = some o → (∀ xs n, o.data ≠ .seq xs n) → (∀ xs, o.data = .fields xs → xs.size ≠ 0) → (hidT s₁.heap H).get? b = some o := fun {b o} e h1 h2 =>
      hidT_get e (free e (fun z => by subst z; exact h1 _ _ rfl) (fun z => by subst z; exact h2 _ rfl rfl))
    have nsb : ∀ {b : Addr} {m : Str → Option Value}, s₁.heap.Ns b m → (hidT s₁.heap H).Ns b m := fun {b m} ⟨o, es, ep, e, d, r⟩ =>
      ⟨o, es, ep, keepD e (fun xs n z => by rw [d] at z; cases z) (fun xs z => by rw [d] at z; cases z), d, r⟩
    have kb : T.K.In (hidT s₁.heap H) := fun b o e => hidT_get (KX b o e) (by
      cases q : H b with
      | none => rfl
      | some u =>
        rcases only b u q with ⟨rfl, _⟩ | ⟨z, _⟩
        · rw [notK (by rw [q]; simp)] at e; cases e
        · obtain ⟨p, hp, rfl⟩ := List.mem_map.mp z
          rw [nT p hp] at e; cases e)
    have md : Mod T.K mg (hidT s₁.heap H) := ⟨kb, nsb hns, ⟨mb, nsb hb, hbb⟩, hlim.elim fun mc h => ⟨mc, nsb h.1, h.2⟩⟩
    have e0 : Env0 P w T.K mg (hidT s₁.heap H) callerA [] s₁ H := ⟨rfl, md, fun _ _ e => of_hidT e, Nat.le_of_eq (hidT_size _ _), trivial, fun b hb => (by cases hb), hok, .of_eq hg⟩
    have TB : ∀ p ∈ cs, LamX.TabB (hidT s₁.heap H) mg p.1 p.2 := fun p hp => by
      have hTp := hT p hp
      refine ⟨?_, ?_, fun z => ?_⟩
      · obtain ⟨o, us, file, tf, flags, tg, inF, text, tt, e1, r1, r2, r3, rest⟩ := hC p hp
        refine ⟨o, us, file, tf, flags, tg, inF, text, tt, keepD e1 (fun xs n z => by rw [r2] at z; cases z) (fun xs z => ?_), r1, r2, r3, rest⟩
        rw [r2] at z
        cases z
        intro y
        have := (Array.getElem?_eq_some_iff.mp r3).1
        omega
      · obtain ⟨bm, ob, b1, b2, b3, b4, b5, b6⟩ := hbm
        refine ⟨bm, ob, b1, b2, fun q => ?_, fun q => ?_, keepD b3 (fun xs n z => by rw [b6] at z; cases z) (fun xs z => by rw [b6] at z; cases z), b4, b5, b6⟩
        · obtain ⟨o, es, ep, e, hd, _⟩ := hns
          rw [q, e] at b3
          cases b3
          rw [hd] at b6
          cases b6
        · rw [q, hTp] at b3
          cases b3
          cases b6
      · obtain ⟨o, es, ep, e, hd, _⟩ := hns
        rw [z, hTp] at e
        cases e
        cases hd
    have rh : RelH T ⟨gh, H⟩ gh (cs.map fun _ => Cell.dead) H := by
      refine ⟨by rw [gro]; simp, by rw [gro]; exact dT, fun n c q h1 h2 => ?_, fun n c q h1 h2 ow => ?_, fun b f => (gfz b f).2, fun q h => ⟨_, tabs q (gro ▸ h)⟩, fun _ _ h _ => h, fun _ h => .inl h, fun q h => .inl h, Mono.refl _ _, ⟨fun p hp => ⟨?_, ?_, fun f => ?_⟩, fun b ps z => ?_, fun q h u z => ?_⟩, fun p hp => ?_⟩
      · rw [List.getElem?_map] at h1
        cases e : cs[n]? with
        | none => rw [e] at h1; cases h1
        | some y => rw [e] at h1; cases h1; trivial
      · rw [List.getElem?_map] at h1
        cases e : cs[n]? with
        | none => rw [e] at h1; cases h1
        | some y => rw [e] at h1; cases h1; exact ow.elim
      · exact LamX.TabS.nil (tabs _ (tbM p hp))
      · rw [gro]; exact tbM p hp
      · exact aT ((gfz _ f).1 ▸ tbM p hp)
      · rcases only b _ z with ⟨_, y⟩ | ⟨y, _⟩
        · cases y
        · rw [← eT] at y
          obtain ⟨p, hp, e⟩ := List.mem_map.mp y
          exact ⟨p, hp, e⟩
      · rw [tabs q (gro ▸ h)] at z
        cases z
        exact ⟨fun _ _ z => (by unfold LamX.CodeO at z; cases z), fun _ z => (by cases z)⟩
      · show p.1 ∈ gh.ro
        rw [gro]; exact tbM p hp
    have sp : spP T F [.ref a] H (fun v _ => v = .bl true) (fun _ _ _ => False) := ⟨gh, cs.map fun _ => Cell.dead, [.scr ns], rh, .cons rv .nil, by
      rw [hF]
      intro g' H' v _ r
      cases r
      rfl⟩
    refine codeAny_mono ((G _ kb (nsb hns) TB).run callerA [] s₁ H [.ref a] [.ref a] _ _ ⟨hr, rfl⟩ e0 (.cons rfl .nil) sp) fun r s' h => ?_
    cases r with
    | error e =>
      obtain ⟨_, _, _, _, _, _, _, _, _, _, _, _, z⟩ := (h : L2.CX P w [] H s₁ (fun _ _ _ => False) e s')
      exact z.elim
    | ok fl =>
      cases fl with
      | ret u =>
        obtain ⟨v, H', os, bare, un, hok', r', q⟩ := h
        have q' : v = .bl true := q
        subst q'
        obtain rfl : u = Value.bool true := r'
        have grown : ∀ p ∈ cs, ∃ more : Array Value, s'.heap.get? p.2 = some { cls := .none, data := .fields more } := fun p hp => by
          obtain ⟨more, z⟩ := un.tbls p.2 #[] (tabs _ (List.mem_map.mpr ⟨p, hp, rfl⟩))
          exact ⟨_, hok' p.2 _ z⟩
        have key : ∀ b o, b ∉ cs.map (·.2) → s₁.heap.get? b = some o → s'.heap.get? b = some o := fun b o nb e => by
          cases q : H b with
          | none => exact un.keep b o e q (fun z => by cases z) (fun z => by cases z)
          | some u =>
            rcases only b u q with ⟨rfl, rfl⟩ | ⟨z, _⟩
            · rw [ha] at e
              cases e
              exact (hok' _ _ (un.frzs _ _ _ q)).1
            · exact absurd z nb
        refine ⟨rfl, ⟨fun b o e => ?_, fun b o e => ?_⟩, os, bare⟩
        · by_cases hb : b ∈ cs.map (·.2)
          · obtain ⟨p, hp, rfl⟩ := List.mem_map.mp hb
            obtain ⟨more, hm⟩ := grown p hp
            rw [hT p hp] at e
            cases e
            exact .inr (.inl ⟨((hC p hp).tab (hT p hp)).isCodeTable, rfl, #[], more, rfl, (by rw [Array.empty_append]; exact hm)⟩)
          · exact .inl (key b o hb e)
        · by_cases hb : b ∈ cs.map (·.2)
          · obtain ⟨p, hp, rfl⟩ := List.mem_map.mp hb
            obtain ⟨more, hm⟩ := grown p hp
            exact ⟨_, hm⟩
          · exact ⟨o, key b o hb e⟩
      | next => exact h.elim
      | brk => exact h.elim
      | cont => exact h.elim
  cases hk : T.K.lookup a with
  | some o =>
    have e := KX a o hk
    rw [ha] at e
    cases e
    refine main (fun b => if b ∈ cs.map (·.2) then some (.tbl #[]) else none) ⟨cs.map (·.2), fun _ => False⟩ rfl (fun b h => h.elim) (fun b o h => ?_) (fun b h => if_pos h) (fun b u h => ?_) (fun h => absurd (if_neg aT) h) (.scrK fun H => ?_)
    · by_cases hb : b ∈ cs.map (·.2)
      · exact .inr ⟨hb, (Option.some.inj ((if_pos hb).symm.trans h)).symm⟩
      · cases (if_neg hb).symm.trans h
    · by_cases hb : b ∈ cs.map (·.2)
      · cases (if_pos hb).symm.trans h
        exact isT b hb
      · cases (if_neg hb).symm.trans h
    exact .inr ⟨_, vs.toArray, _, hk, rfl, rfl, rfl, by rw [List.size_toArray, hi.length]; exact hl, by simpa using vints⟩
  | none =>
    have at_ : (fun b => if b = a then some (HO.frz scrO (.lst (ns.map V.int))) else if b ∈ cs.map (·.2) then some (.tbl #[]) else none : Hp) a = some (.frz scrO (.lst (ns.map V.int))) := if_pos rfl
    refine main (fun b => if b = a then some (.frz scrO (.lst (ns.map V.int))) else if b ∈ cs.map (·.2) then some (.tbl #[]) else none) ⟨cs.map (·.2), fun b => b = a⟩ rfl (fun b h => ⟨h, by rw [show b = a from h]; exact ⟨_, if_pos rfl⟩⟩) (fun b o h => ?_) (fun b h => ?_) (fun b u h => ?_) (fun _ => hk) (.scr rfl at_)
    · by_cases hb : b = a
      · exact .inl ⟨hb, (Option.some.inj ((if_pos hb).symm.trans h)).symm⟩
      · have h := (if_neg hb).symm.trans h
        by_cases hb2 : b ∈ cs.map (·.2)
        · exact .inr ⟨hb2, (Option.some.inj ((if_pos hb2).symm.trans h)).symm⟩
        · cases (if_neg hb2).symm.trans h
    · have hb : b ≠ a := fun z => aT (z ▸ h)
      exact (if_neg hb).trans (if_pos h)
    · by_cases hb : b = a
      · cases (if_pos hb).symm.trans h
        subst hb
        exact ⟨ha, by rw [List.length_map]; exact hl, vs, _, vints, ha⟩
      · have h := (if_neg hb).symm.trans h
        by_cases hb2 : b ∈ cs.map (·.2)
        · cases (if_pos hb2).symm.trans h
          exact isT b hb2
        · cases (if_neg hb2).symm.trans h
theorem walkT {l : PySem.W.OpenLaw} {n k : Nat} {q : Program} {loose : List Str} {XP : (Str → Option Value) → Heap → Prop} {YP : World → Heap → Prop} {d : DefRec}
    (hn : l.most = some n) (hn2 : n ≤ sizeLine) (hdf : d.params.defaults = []) (hr : Room k callerA)
    (F : ∀ (w : World) (mg : Str → Option Value) (fa : Addr) (h : Heap), YP w h → h.Ns mainGlobals mg → mg d.name = some (.ref fa) →
      ∃ (T : Tab) (cs : List (Addr × Addr)) (Fm : Fn), T.K.In h ∧ (∀ p ∈ cs, h.get? p.2 = some (PySem.W.tabObj #[])) ∧ (∀ p ∈ cs, T.K.lookup p.2 = none) ∧ (∀ p ∈ cs, PySem.W.CodeHd h p.1 p.2) ∧ T.tb.map (·.1) = cs.map (·.2) ∧ (cs.map (·.2)).Nodup ∧
        (∀ ns : List Int, ns.length ≤ n → ∃ hp, Fm [.scr ns] (cs.map fun _ => Cell.dead) = .ok (.bl true) hp) ∧
        ∀ base : Heap, T.K.In base → base.Ns mainGlobals mg → (∀ p ∈ cs, LamX.TabB base mg p.1 p.2) → FnP l.prog w mg base T k fa Fm) :
    PySem.W.WalkO q loose XP YP l.row.toRowW d [] (fun f vs => PySem.call f vs) := by
  refine Att.attach_callB hn hdf fun w s₀ s₁ mg mb fa o pm cd doc a vs ns Gr Y ho hd hcd hmg hobj hints hlen hbits hg => ?_
  obtain ⟨T, cs, Fm, KX, hT, nT, hC, eT, dT, hsp, hF⟩ := F w mg fa _ Y Gr.T.g hmg
  obtain ⟨hp, e⟩ := hsp ns hlen
  exact lawG KX Gr.T.g Gr.T.b Gr.T.builtins Gr.T.nolimit hg hT nT hC eT dT Gr.T.bmain hobj hints (Nat.le_trans hlen hn2) hr hF e
end Ma
/-! Ma17: defs with *args; instances: made, their fields, their methods. -/
namespace Ma
open L2 PySem.Spec PySem PyProof.Rows
section
variable {P : Program} {w : World} {mg : Str → Option Value} {base : Heap} {T : Tab}
/-- def f(a, .., *v): what is left over in a tuple -/
def starF (n : Nat) (F : Fn) : Fn := fun args hp => if n ≤ args.length ∧ args.length ≤ big then F (args.take n ++ [.tup (args.drop n)]) hp else .stuck
theorem rdS_start {C : MC} {n len : Nat} {b : MStm} {N : List Str} {Q : VK} {E : XK} {g : Gh} {H : Hp} {hp : List Cell} {as : List M} {vs : List V} (hC : C.e = ⟨g, H⟩) (hW : C.W = fun cls d _ H' => E cls d H') (hN : N.length = len) (hn : as.length = n) (hnl : n ≤ len)
    (rh : RelH C.T ⟨g, H⟩ g hp H) (rs : RVs C.T g H as vs) (go : GoF C.T g H (bodyF n len b as hp) Q E) : rdS C b { nx := fun _ H' => Q .non H', rt := Q } (L2.start N vs) H := by
  refine ⟨g, ⟨as.map some ++ List.replicate (len - n) none, hp⟩, ?_, ?_⟩
  · show Rel C.T C.e _ _ _ _
    rw [hC]
    refine ⟨rh, ?_, fun i m v h1 h2 => ?_⟩
    · unfold L2.start
      simp [rs.length, hN, ← hn]
    · have h1 : (as.map some ++ List.replicate (len - n) none)[i]? = some (some m) := h1
      unfold L2.start at h2
      by_cases hi : i < as.length
      · rw [List.getElem?_append_left (by simpa using hi), List.getElem?_map] at h1
        rw [List.getElem?_append_left (by simpa [← rs.length] using hi), List.getElem?_map] at h2
        cases ha : as[i]? with
        | none => rw [ha] at h1; cases h1
        | some m' =>
          rw [ha] at h1
          cases h1
          obtain ⟨x, hx, rx⟩ := rs.get ha
          rw [hx] at h2
          cases h2
          exact ⟨x, rfl, rx⟩
      · rw [List.getElem?_append_right (by simpa using Nat.le_of_not_lt hi), List.getElem?_replicate] at h1
        split at h1 <;> cases h1
  · unfold bodyF at go
    cases hm : b ⟨as.map some ++ List.replicate (len - n) none, hp⟩ with
    | stuck => rw [hm] at go; exact go.elim
    | err x s1 =>
      rw [hm] at go
      intro g' H' σ' cls d mo rl xr
      rw [hW]
      have rl : Rel C.T C.e g' s1 σ' H' := rl
      rw [hC] at rl
      exact go g' H' cls d rl.h xr
    | ok fl s1 =>
      rw [hm] at go
      cases fl with
      | nx =>
        intro g' H' σ' mo rl
        have rl : Rel C.T C.e g' s1 σ' H' := rl
        rw [hC] at rl
        exact go g' H' .non rl.h .non
      | rt m =>
        intro g' H' σ' v mo rl rv
        have rl : Rel C.T C.e g' s1 σ' H' := rl
        rw [hC] at rl
        exact go g' H' v rl.h rv
      | bk => exact go.elim
      | ct => exact go.elim
theorem fnP_star {x qual : Str} {st : Stmt} {f : Addr} {fd : FuncData} {N ps : List Str} {pv : Str} {k : Nat} {b : MStm} (F : Fun T.K x qual st f fd) (S : FnScope N (ps ++ [pv]) (defScope st))
    (hbd : ∀ (kV doc pm : Value) (an : Option Addr) (cdv ct : Value) (us rest : List Value), us.length = ps.length → bindArgs (PySem.W.fnOf x qual (defArgs st) (defBody st) (defScope st) .none kV doc pm an cdv ct) ⟨us ++ rest, []⟩ = (newTuple rest >>= fun t => pure (ps.zip us ++ [(pv, t)])))
    (hb : ∀ (cdv : Value) (A : Around) (outer : List Env) (s : Shared) (H : Hp) (E : XK) (g : Gh), RoomG k (A.deeper (envOfC qual (defScope st) s.heap.objs.size f cdv)) → PMb (cAt P w mg base T N qual (defScope st) f cdv A outer s H E g) (defBody st) b) :
    FnP P w mg base T (k + 1) f (starF ps.length (bodyF (ps.length + 1) N.length b)) := by
  refine ⟨fun A outer s H us vs Q E hr e0 rv ⟨g, hp, args, rh, rs, go⟩ => ?_⟩
  obtain ⟨oc, od, kV, doc, pm, an, cdv, ct, osl, rfl, lk, hcd⟩ := F.ex
  unfold starF at go
  by_cases hl : ps.length ≤ args.length ∧ args.length ≤ big
  · rw [if_pos hl] at go
    have hvl : ps.length ≤ vs.length := by rw [← rs.length]; exact hl.1
    have hul : ps.length ≤ us.length := by rw [← rv.length]; exact hvl
    have hn : H s.heap.objs.size = none := e0.hok.fresh (Nat.le_refl _)
    have hz : (vs.drop ps.length).length ≤ sizeLine := by rw [List.length_drop, ← rs.length]; exact big_le (by omega)
    have r1 := rv.take ps.length
    have r2 := rv.drop ps.length
    have eu : us.take ps.length ++ us.drop ps.length = us := List.take_append_drop _ _
    have hl1 : (us.take ps.length).length = ps.length := by rw [List.length_take]; omega
    have hnl : (ps ++ [pv]).length ≤ N.length := by
      have := congrArg List.length S.pre
      rw [List.length_take] at this
      omega
    refine StX.run_bnd (G := fun xs H2 => ∃ p, H p = none ∧ xs = vs.take ps.length ++ [V.ref p] ∧ H2 = upd H p (.tup (vs.drop ps.length))) lk hcd S hr.toRoom e0 (fun A' Ex Q' h => ?_) fun s2 H2 xs ⟨p, hp', ex, eH⟩ hr' => ?_
    · have hbi := hbd kV doc pm an cdv ct (us.take ps.length) (us.drop ps.length) hl1
      rw [eu] at hbi
      rw [hbi]
      refine wpAny_bind (wpAny_newTuple (wpAny_pure ?_) (by rw [← r2.length]; exact hz))
      have new : ObjOk P w (upd H s.heap.objs.size (.tup (vs.drop ps.length))) (s.heap.push ({ cls := .type "tuple", data := .seq (us.drop ps.length).toArray } : Obj)) s.heap.objs.size (.tup (vs.drop ps.length)) := ⟨hz, _, r2, ⟨_, Heap.get?_push_size _ rfl, rfl, _, rfl⟩⟩
      have un := StX.un_laid (fs := frs outer) (s := s) (o := ({ cls := .type "tuple", data := .seq (us.drop ps.length).toArray } : Obj)) (u := .tup (vs.drop ps.length)) hn
      have z := h _ _ (vs.take ps.length ++ [V.ref s.heap.objs.size]) (us.take ps.length ++ [Value.ref s.heap.objs.size]) (StX.env0_laid e0 new) un rfl (fun e s' => StX.cxUp outer s H _ _ E e s' un (fun b o q => Heap.get?_push_of_some _ q) rfl) (r1.append (.cons rfl .nil))
        (by rw [List.length_append, List.length_append, List.length_take]; simp; omega) ⟨_, hn, rfl, rfl⟩
      rw [List.zip_append hl1.symm] at z
      exact z
    · subst ex eH
      have mo := mono_laid (o := .tup (vs.drop ps.length)) rh hp'
      have rh2 : RelH T ⟨g, upd H p (.tup (vs.drop ps.length))⟩ g hp (upd H p (.tup (vs.drop ps.length))) := (rh.laid hp').self
      have rs2 : RVs T g (upd H p (.tup (vs.drop ps.length))) (args.take ps.length ++ [.tup (args.drop ps.length)]) (vs.take ps.length ++ [V.ref p]) := ((rs.mono mo).take _).app (.cons (.tup upd_same ((rs.mono mo).drop _)) .nil)
      have big := hb cdv A outer s2 (upd H p (.tup (vs.drop ps.length))) E g ⟨hr', hr.gs⟩
      refine ⟨_, big, rdS_start (E := E) rfl rfl rfl ?_ (by simpa using hnl) rh2 rs2 ?_⟩
      · simp; omega
      · -- what follows, told from the heap ahead of the tuple
        cases hf : bodyF (ps.length + 1) N.length b (args.take ps.length ++ [.tup (args.drop ps.length)]) hp with
        | stuck => rw [hf] at go; exact go.elim
        | ok m hp2 => rw [hf] at go; exact fun g' H' v rl rv => go g' H' v ((rh.laid hp').comp rl) rv
        | err e hp2 => rw [hf] at go; exact fun g' H' cls d rl xr => go g' H' cls d ((rh.laid hp').comp rl) xr
  · rw [if_neg hl] at go; exact go.elim
end
end Ma
/-! Ma18: exceptions as values. -/
namespace Ma
open L2 PySem.Spec PySem PyProof.Rows
/-- an own kind of ValueError that has no `__init__` -/
structure ExK (K : PySem.W.Frag) (C : Addr) : Prop where
  ini : PySem.W.findIn K (.ref C) "__init__" = some (some (.builtin "ValueError.__init__"))
  ex : PySem.W.excInitIn K C [.type "ValueError", .type "Exception", .type "BaseException", .type "object"] "ValueError.__new__" = true
  kp : PySem.W.keepIn K (.ref C) = true
end Ma
/-! Ma19: fields; isinstance. -/
namespace Ma
open L2 PySem.Spec PySem PyProof.Rows
section
variable {C : MC} {g g1 : Gh} {H H1 : Hp} {s : MS} {σ : L2.St} {ex ea eb ec : Expr} {es : List Expr} {a b c : ME} {ma : MA} {pos p : Pos} {x n f : Str} {A : Addr} {T : Tab}
theorem RFs.look {fs : List (Str × M)} {vs : List (Str × V)} {y : M} (r : RFs T g H fs vs) (h : fs.lookup f = some y) : ∃ v, vs.lookup f = some v ∧ RV T g H y v := by
  induction r with
  | nil => cases h
  | @cons k m v fs vs q t ih =>
    rw [List.lookup_cons] at h ⊢
    cases hk : f == k with
    | true =>
      rw [hk] at h
      cases h
      exact ⟨v, rfl, q⟩
    | false =>
      rw [hk] at h
      exact ih h
theorem RVs.zip : ∀ {ns : List Str} {ms : List M} {vs : List V}, RVs T g H ms vs → RFs T g H (ns.zip ms) (ns.zip vs)
  | [], _, _, _ => .nil
  | _ :: _, _, _, .nil => .nil
  | _ :: ns, _, _, .cons r t => .cons r (RVs.zip (ns := ns) t)
/-- fields read -/
def fldM (is xs : List Str) (f : Str) (hp : List Cell) : M → Option M
  | .exn c ns ms => if xs.contains c then (ns.zip ms).lookup f else none
  | .box n => match hp[n]? with
    | some (.ins c fms) => if is.contains c then fms.lookup f else none
    | _ => none
  | _ => none
def oFld (is xs : List Str) (f : Str) (m : M) (s : MS) : Res M := match fldM is xs f s.hp m with
  | some y => .ok y s
  | none => .stuck
def mFld (is xs : List Str) (f : Str) (a : ME) : ME := fun s => (a s).bind (oFld is xs f)
theorem fld_exn {K : PySem.W.Frag} {P : Program} {w : World} {hp : Heap} {a C : Addr} {d : Addr} {fs : List (Str × V)} {v : V} (kin : K.In hp) (hok : HOk P w H hp)
    (h1 : H a = some (XO (.ref C) (some d) a)) (h2 : H d = some (.xd fs)) (X : XfC K C) (hn : PySem.W.findIn K (.ref C) f = some none) (hl : fs.lookup f = some v) {M1 : Around} {E : Value → Shared → Prop} {Q : Value → Shared → Prop} {sh : Shared} (hsh : sh.heap = hp)
    (q : ∀ u, RelV v u → Q u { sh with toks := sh.toks + 1 }) : wpAny (model P w) M1 (getAttr (.ref a) f true) Q E sh := by
  have z := hok _ _ h1
  simp only [ObjOk, XO] at z
  obtain ⟨⟨oe, ws, e1, ⟨e2, e3⟩, e4⟩, -, -⟩ := z
  have z2 := hok _ _ h2
  simp only [ObjOk] at z2
  obtain ⟨mA, n1, rl⟩ := z2
  obtain ⟨od, e5, lk⟩ := lookIn_ns n1
  have rf := rl f
  rw [hl] at rf
  cases hm : mA f with
  | none => rw [hm] at rf; exact rf.elim
  | some u =>
    rw [hm] at rf
    subst hsh
    refine HandSPX.exc_get (C := C) (ox := oe) (od := some od) (gt := none) kin ⟨e1, e2, ?_, ?_⟩ X.ga X.gg X.exC (PySem.W.findObj_own X.hdC hn rfl ((lk f).trans (congrArg some hm))) (handed_of rf) (q u rf)
    · unfold PySem.W.notCls; rw [e4]
    · rw [e3]; exact e5
theorem em_fld {is xs : List Str} (hi : ∀ c ∈ is, ∀ A, C.T.ad c = some A → Cls C.T.K A ∧ NoAttr C.T.K A f) (hx : ∀ c ∈ xs, ∀ A, C.T.ad c = some A → XfC C.T.K A ∧ PySem.W.findIn C.T.K (.ref A) f = some none)
    (h : PMe C ex a) (hb : attributeBase ex f C.X.env (eval ex C.X.env) = eval ex C.X.env := by rfl) : PMe C (.Attribute ex f pos) (mFld is xs f a) := by
  refine ⟨fun pins sh σ H Q I q => attr_of hb (thn (h.run pins sh σ H _ I (rdE_bind q)) fun u s1 hh => ?_)⟩
  obtain ⟨x, H1, I1, rv, m, s2, g1, r1, rm, q1⟩ := hh
  unfold oFld at q1
  cases hf : fldM is xs f s2.hp m with
  | none => rw [hf] at q1; exact q1.elim
  | some y =>
    rw [hf] at q1
    have kin : C.T.K.In s1.heap := C.hK ▸ I1.kIn
    cases rm with
    | @exn a A c ns ms vs ad xa rs =>
      obtain rfl : u = .ref a := rv
      simp only [fldM] at hf
      split at hf
      case isFalse => cases hf
      case isTrue hc =>
        obtain ⟨X, hn⟩ := hx c (List.contains_iff_mem.mp hc) A ad
        obtain ⟨hl, -, d, hd, z⟩ := xa
        cases d with
        | none =>
          subst z
          cases hf
        | some dx =>
          obtain ⟨v, lv, rv2⟩ := (rs.zip (ns := ns)).look hf
          exact fld_exn kin I1.hok hd z.2 X hn lv rfl fun u ru => ⟨v, H1, I1.kept (h' := s1.heap) (t' := s1.toks + 1) (fun b o e => e), ru, q1.ret r1 rv2⟩
    | @box n a e =>
      obtain rfl : u = .ref a := rv
      simp only [fldM] at hf
      cases hc : s2.hp[n]? with
      | none => rw [hc] at hf; cases hf
      | some cl =>
        rw [hc] at hf
        cases cl with
        | lst ms => cases hf
        | dK ms => cases hf
        | dF ms => cases hf
        | dead => cases hf
        | ins c fms =>
          dsimp only at hf
          split at hf
          case isFalse => cases hf
          case isTrue hcc =>
            obtain ⟨A, dx, fvs, ad, ha, rf⟩ := r1.h.cell n _ a hc e
            obtain ⟨k1, k2⟩ := hi c (List.contains_iff_mem.mp hcc) A ad
            obtain ⟨v, lv, rv2⟩ := rf.look hf
            exact getattr_ok I1 ha (C.hK ▸ k1) (C.hK ▸ k2) lv fun u s' I2 ru => ⟨v, H1, I2, ru, q1.ret r1 rv2⟩
    | _ => cases hf
end
end Ma
/-! Ma20: isinstance. -/
namespace Ma
open L2 PySem.Spec PySem PyProof.Rows
/-- a class: an own one or a built-in one -/
inductive Tg
  | own (c : Str)
  | bi (n : String)
deriving DecidableEq
def Tg.At (T : Tab) : Tg → Value → Prop
  | .own c, v => ∃ A, T.ad c = some A ∧ v = .ref A
  | .bi n, v => v = .type n
def tgOf (is xs : List Str) (hp : List Cell) : M → Option Tg
  | .non => some (.bi "NoneType")
  | .bl _ => some (.bi "bool")
  | .int _ => some (.bi "int")
  | .str _ => some (.bi "str")
  | .byt _ => some (.bi "bytes")
  | .tup _ => some (.bi "tuple")
  | .lst _ => some (.bi "list")
  | .dct _ _ => some (.bi "dict")
  | .exn c _ _ => if xs.contains c then some (.own c) else none
  | .box n => match hp[n]? with
    | some (.lst _) => some (.bi "list")
    | some (.dK _) => some (.bi "dict")
    | some (.ins c _) => if is.contains c then some (.own c) else none
    | _ => none
  | _ => none
def clOf : M → Option Tg
  | .cls c => some (.own c)
  | .ty n => some (.bi n)
  | _ => none
def cIsi (is xs : List Str) (isi : Tg → Tg → Option Bool) (ms : List M) (s : MS) : Res M := match ms with
  | [x, c] => match tgOf is xs s.hp x, clOf c with
    | some t, some u => match isi t u with
      | some b => .ok (.bl b) s
      | none => .stuck
    | _, _ => .stuck
  | _ => .stuck
/-- what isinstance asks of an instance's class -/
structure InsK (K : PySem.W.Frag) (A : Addr) : Prop where
  c : Cls K A
  ha : PySem.W.findIn K (.ref A) "__class__" = some (some (.builtin "object.__class__"))
  hn : PySem.W.specialIn K (.builtin "object.__class__") "__get__" = some (some (.builtin "getset_descriptor.__get__"))
  ht : PySem.W.takesIn K (.builtin "object.__class__") = some true
  hm : PySem.W.mroIn K A (.type "object") = some true
def rIsX (K : PySem.W.Frag) : RC := fun xs H Q => ∃ (a A : Addr) (d : Option Addr) (c : V) (cv : Value) (b : Bool), xs = [.ref a, c] ∧ H a = some (XO (.ref A) d a) ∧ (match d with | none => True | some dx => ∃ fs, H dx = some (.xd fs)) ∧ L2.ExcC K A ∧ ClsV c cv ∧ PySem.W.kitOne K (.ref A) cv = some b ∧ Q (.bl b) H
theorem call_isX {X : Cx} : CallR X (.builtin "isinstance") (rIsX X.K) := by
  intro pins s σ H xs us Q I rv ⟨a, A, d, c, cv, b, hx, ha, hd, E, hc, hk, q⟩
  subst hx
  cases rv with
  | cons r1 r2 =>
    cases r2 with
    | cons r2 r3 =>
      cases r3
      rename_i u w
      obtain rfl : u = .ref a := r1
      obtain rfl := hc.eq r2
      have z := I.hok _ _ ha
      simp only [ObjOk, XO] at z
      obtain ⟨⟨oe, ws, e1, ⟨e2, e3⟩, e4⟩, -, -⟩ := z
      have hno : PySem.W.notCls oe = true := by unfold PySem.W.notCls; rw [e4]
      have hcl : (PySem.W.clsIn X.K A).isSome = true := by
        have h := E.hd
        unfold PySem.W.hasDictIn at h
        cases hc : PySem.W.clsIn X.K A with
        | none => rw [hc] at h; simp at h
        | some _ => rfl
      have fin : ∀ tk : Nat, EP X pins σ Q (.bool b) { heap := s.heap, gens := s.gens, drawn := s.drawn, toks := tk, os := s.os } := fun tk => ⟨.bl b, H, I.kept (h' := s.heap) (t' := tk) (fun _ _ e => e), rfl, q⟩
      have kit : ∀ od : Option Obj, PySem.W.InstAt s.heap a oe A od → wpAny (model X.prog X.w) X.A (call (.builtin "isinstance") [.ref a, w]) (EP X pins σ Q) X.xe s := fun od i =>
        PySem.W.kia_one (PySem.W.kitx_exc (ox := oe) (od := od) hcl E.hg E.hk E.hs E.ha E.hn E.ht E.hm) I.kIn i hk (by simp) fin
      cases d with
      | none => exact kit none ⟨e1, e2, hno, by rw [e3]; trivial⟩
      | some dx =>
        obtain ⟨fs, hf⟩ := hd
        have z2 := I.hok _ _ hf
        simp only [ObjOk] at z2
        obtain ⟨mA, n1, -⟩ := z2
        obtain ⟨od, e5, -⟩ := lookIn_ns n1
        exact kit (some od) ⟨e1, e2, hno, by rw [e3]; exact e5⟩
section
variable {C : MC} {g g1 : Gh} {H H1 : Hp} {s : MS} {σ : L2.St} {is xs : List Str} {isi : Tg → Tg → Option Bool}
theorem clOf_at {c : M} {v : V} {u : Tg} (h : clOf c = some u) (r : RV C.T g H c v) : ∃ cv, ClsV v cv ∧ u.At C.T cv := by
  cases r with
  | cls e => cases h; exact ⟨_, .own _, _, e, rfl⟩
  | ty n => cases h; exact ⟨_, .ty n, rfl⟩
  | _ => cases h
theorem ok_isi (hi : ∀ c ∈ is, ∀ A, C.T.ad c = some A → InsK C.X.K A) (hx : ∀ c ∈ xs, ∀ A, C.T.ad c = some A → L2.ExcC C.X.K A)
    (hk : ∀ t u b, isi t u = some b → ∀ tv uv, t.At C.T tv → u.At C.T uv → PySem.W.kitOne C.X.K tv uv = some b) :
    CallOk C (fun ys H Q => rIsi C.X.K ys H Q ∨ rIsX C.X.K ys H Q) (cIsi is xs isi) := fun σ H g s ms ys Q r rs h => by
  unfold cIsi at h
  split at h
  case h_2 => exact h.elim
  case h_1 x c =>
    split at h
    case h_2 => exact h.elim
    case h_1 t u ht hu =>
      split at h
      case h_2 => exact h.elim
      case h_1 b hb =>
        cases rs with
        | cons r1 r2 =>
          cases r2 with
          | cons r2 r3 =>
            cases r3
            obtain ⟨cv, hc, hu2⟩ := clOf_at hu r2
            have kk := fun tv h1 => hk t u b hb tv cv h1 hu2
            have done := h.same r (.bl b)
            have base : ∀ {n : String} {v : V}, t = .bi n → TyX C.X.K H v (.type n) → ∃ (x c : V) (t u : Value) (b : Bool), [v, _] = [x, c] ∧ ClsV c u ∧ TyX C.X.K H x t ∧ PySem.W.kitOne C.X.K t u = some b ∧ Q (.bl b) H := fun {n v} e ty => ⟨v, _, .type n, cv, b, rfl, hc, ty, kk _ (by subst e; rfl), done⟩
            cases r1 with
            | non => cases ht; exact .inl (base rfl (.base .non))
            | bl k => cases ht; exact .inl (base rfl (.base (.bl _)))
            | int k => cases ht; exact .inl (base rfl (.base (.int _)))
            | str k => cases ht; exact .inl (base rfl (.base (.str _)))
            | byt k => cases ht; exact .inl (base rfl (.byt _))
            | tup e q => cases ht; exact .inl (base rfl (.base (.tup e)))
            | lst f e q => cases ht; exact .inl (base rfl (.base (.lst e)))
            | dct f l e q => cases ht; exact .inl (base rfl (.fDict e))
            | scr f e => cases ht
            | scrK e => cases ht
            | @exn a A c ns ms vs ad xa rr =>
              simp only [tgOf] at ht
              split at ht
              case isFalse => cases ht
              case isTrue hcc =>
                cases ht
                obtain ⟨hl, hf, d, hd, z⟩ := xa
                refine .inr ⟨a, A, d, _, cv, b, rfl, hd, ?_, hx c (List.contains_iff_mem.mp hcc) A ad, hc, kk _ ⟨A, ad, rfl⟩, done⟩
                cases d with
                | none => trivial
                | some dx => exact ⟨_, z.2⟩
            | cls e => cases ht
            | ty n => cases ht
            | raw a => cases ht
            | set f e => cases ht
            | @box n a e =>
              simp only [tgOf] at ht
              cases hcl : s.hp[n]? with
              | none => rw [hcl] at ht; cases ht
              | some cl =>
                rw [hcl] at ht
                cases cl with
                | lst ms =>
                  cases ht
                  obtain ⟨vs, ha, rf⟩ := r.h.cell n _ a hcl e
                  exact .inl (base rfl (.base (.lst ha)))
                | dK ms =>
                  cases ht
                  obtain ⟨vs, ha, rf⟩ := r.h.cell n _ a hcl e
                  exact .inl (base rfl (.base (.dK ha)))
                | dead => cases ht
                | dF ms => cases ht
                | ins c fms =>
                  dsimp only at ht
                  split at ht
                  case isFalse => cases ht
                  case isTrue hcc =>
                    cases ht
                    obtain ⟨A, dx, fvs, ad, ha, rf⟩ := r.h.cell n _ a hcl e
                    have k := hi c (List.contains_iff_mem.mp hcc) A ad
                    exact .inl ⟨_, _, _, cv, b, rfl, hc, .base (.ins ha k.c k.ha k.hn k.ht k.hm), kk _ ⟨A, ad, rfl⟩, done⟩
end
end Ma
/-! Ma21: count, index, all, any of lists. -/
namespace Ma
open L2 PySem.Spec PySem PyProof.Rows
def rCntD (K : PySem.W.Frag) (x : V) (xs : List V) (H : Hp) (Q : VK) : Prop := ∃ (a : Addr) (y : V) (ds : List PyData) (d : PyData), x = .ref a ∧ xs = [y] ∧ Dp K H (.ref a) (.list ds) ∧ Dp K H y d ∧ SeqAt.shaped (.list ds) = true ∧ SeqAt.shaped d = true ∧ Q (.int (ds.countP (fun z => z.eqv d) : Nat)) H
theorem mt_cntD {X : Cx} (hu : X.A.units + 65 < cLine) : MtR X "list.count" (rCntD X.K) := by
  intro pins s σ H x xs v us Q I rv vs ⟨a, y, ds, d, hx, hxs, d1, d2, s1, s2, q⟩
  subst hx; subst hxs
  cases vs with
  | cons r2 r3 =>
    cases r3
    rename_i u
    obtain rfl : v = .ref a := rv
    obtain ⟨as, k1⟩ := Dp.reads I _ _ _ d1 rfl
    obtain ⟨bs, k2⟩ := Dp.reads I _ _ _ d2 r2
    unfold SeqAt.shaped at s1 s2
    obtain ⟨p1, e1⟩ := Bool.and_eq_true_iff.mp s1
    obtain ⟨p2, e2⟩ := Bool.and_eq_true_iff.mp s2
    have e2 := of_decide_eq_true e2
    have p1 := PyData.plain_of_canLay0 _ p1
    have p2 := PyData.plain_of_canLay0 _ p2
    cases k1 with
    | list g1 g2 g3 g4 =>
      refine SeqAt.count_list_data ⟨_, g1, g2, _, g3⟩ g4 k2 (by simpa [PyData.plain] using p1) p2 ?_ ⟨.int _, H, I.kept (h' := s.heap) (t' := s.toks + 1) (fun _ _ e => e), ⟨_, rfl⟩, q⟩
      omega
section
variable {C : MC} {g g1 : Gh} {H H1 : Hp} {s : MS} {σ : L2.St} {ex ea eb ec : Expr} {es : List Expr} {a b c : ME} {ma : MA} {pos p apos cpos : Pos} {x n f : Str} {A : Addr} {T : Tab}
/-- a list of whatever sort -/
def isL (x : M) (s : MS) : Bool := (seqL s.hp x).isSome
theorem tyLs : ∀ (σ : L2.St) (H : Hp) (g : Gh) (s : MS) (m : M) (x : V), C.rel g s σ H → RV C.T g H m x → isL m s = true → tyV C.X.K "list" x H := fun σ H g s m x r rv h => by
  unfold isL at h
  cases hl : seqL s.hp m with
  | none => rw [hl] at h; cases h
  | some ys =>
    obtain ⟨q, vs, rfl, hq, rs⟩ := seqL_at r hl rv
    exact .inl ⟨rfl, _, hq⟩
def fCnt (x : M) (ms : List M) (s : MS) : Res M := match ms with
  | [y] => match datT s.hp x, datT s.hp y with
    | some (.list ds), some d => if (SeqAt.shaped (.list ds) && SeqAt.shaped d) = true then .ok (.int (ds.countP (fun z => z.eqv d) : Nat)) s else .stuck
    | _, _ => .stuck
  | _ => .stuck
theorem Dp.lref {K : PySem.W.Frag} {x : V} {ds : List PyData} (h : Dp K H x (.list ds)) : ∃ a, x = .ref a := by
  cases h; exact ⟨_, rfl⟩
theorem ok_cnt : MethOk C (rCntD C.X.K) fCnt := fun σ H g s m ms x xs Q r rv rs h => by
  unfold fCnt at h
  split at h
  case h_2 => exact h.elim
  case h_1 y =>
    split at h
    case h_2 => exact h.elim
    case h_1 ds d h1 h2 =>
      by_cases hs : (SeqAt.shaped (.list ds) && SeqAt.shaped d) = true
      · rw [if_pos hs] at h
        obtain ⟨s1, s2⟩ := Bool.and_eq_true_iff.mp hs
        cases rs with
        | cons r1 r2 =>
          cases r2
          have d1 := datT_dp r rv h1
          obtain ⟨a, rfl⟩ := Dp.lref d1
          exact ⟨a, _, ds, d, rfl, rfl, d1, datT_dp r r1 h2, s1, s2, h.same r (.int _)⟩
      · rw [if_neg hs] at h; exact h.elim
def mCnt (a b : ME) : ME := mMeth a (mCons b mNil) isL fCnt
theorem em_cnt {o : Expr} (hu : C.X.A.units + 65 < cLine) (ho : PMe C o a) (ha : PMe C ex b) (hbase : attributeBase o "count" C.X.env (eval o C.X.env) = eval o C.X.env := by rfl)
    (hfew : ((backTo cpos (starEach [ex] C.X.env)).all (fun x => !x.1) && (backToKw cpos (keywordEach [] C.X.env)).all (fun x => x.1.isSome)
      && decide ([ex].length + ([] : List Keyword).length + (if ([] : List Keyword).isEmpty then 0 else 1) < 30)) = true := by rfl)
    (hline : (apos.endLine == cpos.line) = true := by rfl) (hs : starEach [ex] C.X.env = (false, eval ex C.X.env) :: starEach [] C.X.env := by rfl) :
    PMe C (.Call (.Attribute o "count" apos) [ex] [] cpos) (mCnt a b) :=
  em_bm PySem.F.plainAttrs_list PySem.F.slot_list_count PySem.F.type_list_count (mt_cntD hu) tyLs ok_cnt ho (am_cons ha am_nil hs) hbase hfew hline hs rfl
/-- the place of the first that is equal -/
def fIxD (x : M) (ms : List M) (s : MS) : Res M := match ms with
  | [y] => match datT s.hp x, datT s.hp y with
    | some (.list ds), some d => if (SeqAt.shaped (.list ds) && SeqAt.shaped d) = true then
        if ds.findIdx (fun z => z.eqv d) < ds.length then .ok (.int (ds.findIdx (fun z => z.eqv d) : Nat)) s else .stuck
      else .stuck
    | _, _ => .stuck
  | _ => .stuck
theorem ok_ixD : MethOk C (rIndexD C.X.K) fIxD := fun σ H g s m ms x xs Q r rv rs h => by
  unfold fIxD at h
  split at h
  case h_2 => exact h.elim
  case h_1 y =>
    split at h
    case h_2 => exact h.elim
    case h_1 ds d h1 h2 =>
      by_cases hs : (SeqAt.shaped (.list ds) && SeqAt.shaped d) = true
      · rw [if_pos hs] at h
        obtain ⟨s1, s2⟩ := Bool.and_eq_true_iff.mp hs
        by_cases hj : ds.findIdx (fun z => z.eqv d) < ds.length
        · rw [if_pos hj] at h
          cases rs with
          | cons r1 r2 =>
            cases r2
            have d1 := datT_dp r rv h1
            obtain ⟨a, rfl⟩ := Dp.lref d1
            refine ⟨a, _, d, ds, _, _, rfl, rfl, d1, datT_dp r r1 h2, s1, s2, List.getElem?_eq_getElem hj, List.findIdx_getElem (w := hj), fun k z hk hz => ?_, h.same r (.int _)⟩
            have := List.not_of_lt_findIdx hk
            have hkl : k < ds.length := by omega
            rw [List.getElem?_eq_getElem hkl] at hz
            cases hz
            simpa using this
        · rw [if_neg hj] at h; exact h.elim
      · rw [if_neg hs] at h; exact h.elim
def mIxD (a b : ME) : ME := mMeth a (mCons b mNil) isL fIxD
theorem em_ixD {o : Expr} (hu : C.X.A.units + 65 < cLine) (ho : PMe C o a) (ha : PMe C ex b) (hbase : attributeBase o "index" C.X.env (eval o C.X.env) = eval o C.X.env := by rfl)
    (hfew : ((backTo cpos (starEach [ex] C.X.env)).all (fun x => !x.1) && (backToKw cpos (keywordEach [] C.X.env)).all (fun x => x.1.isSome)
      && decide ([ex].length + ([] : List Keyword).length + (if ([] : List Keyword).isEmpty then 0 else 1) < 30)) = true := by rfl)
    (hline : (apos.endLine == cpos.line) = true := by rfl) (hs : starEach [ex] C.X.env = (false, eval ex C.X.env) :: starEach [] C.X.env := by rfl) :
    PMe C (.Call (.Attribute o "index" apos) [ex] [] cpos) (mIxD a b) :=
  em_bm PySem.F.plainAttrs_list PySem.F.slot_list_index PySem.F.type_list_index (mt_indexD hu) tyLs ok_ixD ho (am_cons ha am_nil hs) hbase hfew hline hs rfl
/-- all and any of a list of bools -/
def blsOf : List M → Option (List Bool)
  | [] => some []
  | .bl b :: ms => (blsOf ms).map (b :: ·)
  | _ => none
theorem blsOf_at : ∀ {ms : List M} {vs : List V} {bs : List Bool}, RVs T g H ms vs → blsOf ms = some bs → vs = bs.map V.bl
  | _, _, _, .nil, h => by cases h; rfl
  | _, _, bs, @RVs.cons _ _ _ m v ms vs r rs, h => by
    cases r with
    | bl b =>
      simp only [blsOf] at h
      cases hb : blsOf ms with
      | none => rw [hb] at h; cases h
      | some cs =>
        rw [hb] at h
        cases h
        rw [blsOf_at rs hb]; rfl
    | _ => cases h
def cAll (any : Bool) (ms : List M) (s : MS) : Res M := match ms with
  | [x] => match (seqL s.hp x).bind blsOf with
    | some bs => .ok (.bl (if any then bs.any id else bs.all id)) s
    | none => .stuck
  | _ => .stuck
theorem cAll_at {any : Bool} {ms : List M} {xs : List V} {Q : VK} (r : C.rel g s σ H) (rs : RVs C.T g H ms xs) (h : Go C C.V1 σ (cAll any ms s) g H Q) : ∃ (a : Addr) (bs : List Bool), xs = [V.ref a] ∧ SqL C.X.K H a (bs.map V.bl) ∧ Q (.bl (if any then bs.any id else bs.all id)) H := by
  unfold cAll at h
  split at h
  case h_2 => exact h.elim
  case h_1 x =>
    split at h
    case h_2 => exact h.elim
    case h_1 bs hb =>
      cases hl : seqL s.hp x with
      | none => rw [hl] at hb; cases hb
      | some ys =>
        rw [hl] at hb
        cases rs with
        | cons r1 r2 =>
          cases r2
          obtain ⟨q, vs, rfl, hq, rr⟩ := seqL_at r hl r1
          exact ⟨q, bs, rfl, blsOf_at rr hb ▸ hq, h.same r (.bl _)⟩
theorem ok_all : CallOk C (rAll C.X.K) (cAll false) := fun σ H g s ms xs Q r rs h => cAll_at r rs h
end
end Ma
/-! Ma22: repr of data. -/
namespace Ma
open L2 PySem.Spec PySem PyProof.Rows
def rReprD (K : PySem.W.Frag) : RC := fun xs H Q => ∃ (a : Addr) (d : PyData), xs = [.ref a] ∧ Dp K H (.ref a) d ∧ d.showable = true ∧ d.hasDict = false ∧ d.depth ≤ 64 ∧ d.shown.length ≤ sizeLine ∧ Q (.str d.shown) H
theorem call_reprD {X : Cx} (hg : X.A.guards = some []) (hu : X.A.units + 65 < cLine) : CallR X (.builtin "repr") (rReprD X.K) := by
  intro pins s σ H xs us Q I rv ⟨a, d, hx, d1, h1, h2, h3, h4, q⟩
  subst hx
  cases rv with
  | cons r1 r2 =>
    cases r2
    rename_i u
    obtain rfl : u = .ref a := r1
    obtain ⟨as, k1⟩ := Dp.reads I _ _ _ d1 rfl
    refine repr_of_reads' k1 h1 (fun h => by rw [h2] at h; cases h) hg (by omega) (fun _ _ e => e) (fun h' u tk keep => ⟨.str _, H, I.kept (h' := h') (t' := tk) keep, ⟨_, rfl⟩, q⟩) h4
section
variable {C : MC} {g g1 : Gh} {H H1 : Hp} {s : MS} {σ : L2.St}
def isSeqD : PyData → Bool
  | .list _ => true
  | .tuple _ => true
  | _ => false
def cRepr (ms : List M) (s : MS) : Res M := match ms with
  | [.int i] => if i.natAbs.log2 < 1920 then .ok (.str (toString i)) s else .stuck
  | [x] => match datT s.hp x with
    | some d => if (isSeqD d && d.showable && !d.hasDict && decide (d.depth ≤ 64) && decide (d.shown.length ≤ sizeLine)) = true then .ok (.str d.shown) s else .stuck
    | none => .stuck
  | _ => .stuck
theorem Dp.seq {K : PySem.W.Frag} {x : V} {d : PyData} (h : Dp K H x d) (hd : isSeqD d = true) : ∃ a, x = .ref a := by
  cases h <;> first | exact ⟨_, rfl⟩ | cases hd
theorem ok_repr : CallOk C (fun xs H Q => (∃ i, xs = [.int i] ∧ i.natAbs.log2 < 1920 ∧ Q (.str (toString i)) H) ∨ rReprD C.X.K xs H Q) cRepr := fun σ H g s ms xs Q r rs h => by
  unfold cRepr at h
  split at h
  case h_1 i =>
    by_cases hb : i.natAbs.log2 < 1920
    · rw [if_pos hb] at h
      cases rs with
      | cons r1 r2 => cases r2; cases r1; exact .inl ⟨i, rfl, hb, h.same r (.str _)⟩
    · rw [if_neg hb] at h; exact h.elim
  case h_3 => exact h.elim
  case h_2 x _ =>
    split at h
    case h_2 => exact h.elim
    case h_1 d hd =>
      by_cases hb : (isSeqD d && d.showable && !d.hasDict && decide (d.depth ≤ 64) && decide (d.shown.length ≤ sizeLine)) = true
      · rw [if_pos hb] at h
        simp only [Bool.and_eq_true, decide_eq_true_eq, Bool.not_eq_true'] at hb
        obtain ⟨⟨⟨⟨h0, h1⟩, h2⟩, h3⟩, h4⟩ := hb
        cases rs with
        | cons r1 r2 =>
          cases r2
          have d1 := datT_dp r r1 hd
          obtain ⟨a, rfl⟩ := Dp.seq d1 h0
          exact .inr ⟨a, d, rfl, d1, h1, h2, h3, h4, h.same r (.str _)⟩
      · rw [if_neg hb] at h; exact h.elim
end
end Ma
/-! Ma23: names of the text: numbers, classes; built-in types. -/
namespace Ma
open L2 PySem.Spec PySem PyProof.Rows
section
variable {C : MC} {g g1 : Gh} {H H1 : Hp} {s : MS} {σ : L2.St} {pos : Pos} {x c : Str} {A : Addr}
theorem em_gi {i : Int} (h : ∃ t, C.X.mg x = some (.int i t)) (hg : Gl C.X x := by rfl) (hdb : (x == ("__debug__" : Str)) = false := by decide) : PMe C (.Name x pos) (mc (.int i)) := by
  obtain ⟨t, h⟩ := h
  exact wkE (pe_glob (v := .int i) hg h ⟨t, rfl⟩ hdb) fun σ H Q ⟨g, s, r, q⟩ => q.ret r (.int _)
theorem em_cls (ad : C.T.ad c = some A) (h : C.X.mg x = some (.ref A)) (hg : Gl C.X x := by rfl) (hdb : (x == ("__debug__" : Str)) = false := by decide) : PMe C (.Name x pos) (mc (.cls c)) :=
  wkE (pe_glob (v := .ref A) hg h rfl hdb) fun σ H Q ⟨g, s, r, q⟩ => q.ret r (.cls ad)
theorem em_ty {n : String} (h : C.X.mg x = none) (hv : bootBuiltins x = some (.type n) := by first | rfl | decide +kernel) (hg : Gl C.X x := by rfl) (hdb : (x == ("__debug__" : Str)) = false := by decide) (hn : x ≠ "__name__" := by decide) : PMe C (.Name x pos) (mc (.ty n)) :=
  wkE (pe_bltn (v := .ty n) hg h hv rfl hn hdb) fun σ H Q ⟨g, s, r, q⟩ => q.ret r (.ty n)
end
/-- what the text's name x holds: a class -/
structure KnC (mg : Str → Option Value) (T : Tab) (x : Str) : Prop where
  ex : ∃ A, T.ad x = some A ∧ mg x = some (.ref A)
theorem em_kc {C : MC} {pos : Pos} {x : Str} (h : KnC C.X.mg C.T x) (hg : Gl C.X x := by rfl) (hdb : (x == ("__debug__" : Str)) = false := by decide) : PMe C (.Name x pos) (mc (.cls x)) := by
  obtain ⟨A, h1, h2⟩ := h.ex
  exact em_cls h1 h2 hg hdb
/-- an own kind of ValueError that has no `__init__`, by its name -/
structure KnE (mg : Str → Option Value) (T : Tab) (x : Str) : Prop where
  ex : ∃ A, T.ad x = some A ∧ mg x = some (.ref A) ∧ ExK T.K A
/-- what isinstance and fields ask of the classes -/
structure Cx0 (T : Tab) (is xs : List Str) (isi : Tg → Tg → Option Bool) : Prop where
  i : ∀ c ∈ is, ∀ A, T.ad c = some A → InsK T.K A
  x : ∀ c ∈ xs, ∀ A, T.ad c = some A → L2.ExcC T.K A
  k : ∀ t u b, isi t u = some b → ∀ tv uv, t.At T tv → u.At T uv → PySem.W.kitOne T.K tv uv = some b
theorem ok_isK {C : MC} {is xs : List Str} {isi : Tg → Tg → Option Bool} (h : Cx0 C.T is xs isi) : CallOk C (fun ys H Q => rIsi C.X.K ys H Q ∨ rIsX C.X.K ys H Q) (cIsi is xs isi) :=
  ok_isi (fun c hc A ad => C.hK ▸ h.i c hc A ad) (fun c hc A ad => C.hK ▸ h.x c hc A ad) (fun t u b hb tv uv h1 h2 => C.hK ▸ h.k t u b hb tv uv h1 h2)
theorem call_isA {X : Cx} : CallR X (.builtin "isinstance") (fun ys H Q => rIsi X.K ys H Q ∨ rIsX X.K ys H Q) := CallR.alt call_isi call_isX
theorem call_reprA {X : Cx} (hg : X.A.guards = some []) (hu : X.A.units + 65 < cLine) : CallR X (.builtin "repr") (fun xs H Q => (∃ i, xs = [.int i] ∧ i.natAbs.log2 < 1920 ∧ Q (.str (toString i)) H) ∨ rReprD X.K xs H Q) := CallR.alt SkE.call_repr_int (call_reprD hg hu)
end Ma
/-! Ma24: fields by their names. -/
namespace Ma
open L2 PySem.Spec PySem PyProof.Rows
/-- what a field's name asks of the classes that have it -/
structure FldK (T : Tab) (is xs : List Str) (f : Str) : Prop where
  i : ∀ c ∈ is, ∀ A, T.ad c = some A → Cls T.K A ∧ NoAttr T.K A f
  x : ∀ c ∈ xs, ∀ A, T.ad c = some A → XfC T.K A ∧ PySem.W.findIn T.K (.ref A) f = some none
theorem em_kf {C : MC} {is xs : List Str} {f : Str} {ex : Expr} {a : ME} {pos : Pos} (k : FldK C.T is xs f) (h : PMe C ex a) (hb : attributeBase ex f C.X.env (eval ex C.X.env) = eval ex C.X.env := by rfl) : PMe C (.Attribute ex f pos) (mFld is xs f a) := em_fld k.i k.x h hb
theorem room65 {k : Nat} {A : Around} (r : RoomG k A) : A.units + 65 < cLine := by
  have := r.toRoom.un
  omega
end Ma
/-! Ma25: exceptions with an `__init__` of their own. -/
namespace Ma
open L2 PySem.W PySem.Spec PySem PyProof.Rows
end Ma
/-! Ma26: super().__init__(text). -/
namespace Ma
open L2 PySem.W PySem.Spec PySem PyProof.Rows
abbrev VE : List Value := [.type "ValueError", .type "Exception", .type "BaseException", .type "object"]
/-- what the row super().__init__(..) asks -/
structure SupF (P : Program) (K : PySem.W.Frag) (mg mb : Str → Option Value) (C D cda cc : Addr) : Prop where
  kD : ∃ cdD, clsIn K D = some cdD
  sub : mroIn K C (.ref D) = some true
  st : nsIn K cStatics "thirdparty.any" = some none
  sup : ks_superIn K C D "__init__" = some (some (.builtin "ValueError.__init__"))
  ve : subIn K (.ref C) (.type "ValueError") = some true
  cell : ∃ (cl : Value) (cld : Option Addr) (csl : Array (Option Value)), K.lookup cc = some { cls := cl, dict := cld, data := .cell (some (.ref D)), slots := csl }
  code : ∃ (ccl : Value) (cdd : Option Addr) (vs : Array Value) (ccs : Array (Option Value)) (file : Str) (tf : Tok), K.lookup cda = some { cls := ccl, dict := cdd, data := .fields vs, slots := ccs } ∧ vs[2]? = some (.str file tf) ∧ (P.main.file == file) = true
  top : (P.main.scope.names.lookup ("super" : Str)).isSome = false
  mg : mg "super" = none
  mb : mb "super" = some (.type "super")
section
variable {P : Program} {w : World} {K : PySem.W.Frag} {mg mb m : Str → Option Value} {h : Heap} {L C D cda cc e t f : Addr} {fd : FuncData} {A : Around} {E : Value → Shared → Prop} {s : Shared} {body : List Stmt} {js : Expr} {p0 p1 p2 p3 p4 : Pos} {of : Obj} {Q : Flow → Shared → Prop} {news : List (Addr × Obj)}
theorem super_row (F : SupF P K mg mb C D cda cc) (kin : K.In h) (hg : h.Ns mainGlobals mg) (hb : h.Ns builtinsNs mb) (hx : excInitIn K C VE "ValueError.__new__" = true)
    (hof : h.get? f = some of) (hfd : of.data = .func fd) (hself : ∃ ar, (fd.params.posonlyargs ++ fd.params.args).head? = some ar ∧ m ar.arg = some (.ref e) ∧ fd.scope.names.lookup ar.arg = some .local)
    (hk : fd.scope.kind = .function) (hgl : fd.globals = mainGlobals) (hbl : fd.builtins = builtinsNs) (hc : fd.closure = [(("__class__" : Str), cc)]) (hcd : fd.code = .ref cda)
    (hs1 : fd.scope.names.lookup ("super" : Str) = some NameKind.globalImplicit) (hs2 : fd.scope.names.lookup ("__class__" : Str) = some NameKind.free)
    (fr : Fr h L s.heap m) (nw : News h L s.heap [(e, excObj C t none .none)]) {pl : Sem Bool} (hev : eval (.Call (.Attribute (.Call (.Name "super" p0) [] [] p1) "__init__" p2) [js] [] p3) (callEnv fd L f) = (do
      let ov ← attributeBase (.Call (.Name "super" p0) [] [] p1) "__init__" (callEnv fd L f) (eval (.Call (.Name "super" p0) [] [] p1) (callEnv fd L f))
      standAt p2.atName
      let (g, first) ← holding [ov] (getMethod ov "__init__" pl)
      callWith p3 g first (backTo p3 (starEach [js] (callEnv fd L f))) []))
    (hint : interactive (callEnv fd L f) = false) (hsw : swapsWith (.Call (.Attribute (.Call (.Name "super" p0) [] [] p1) "__init__" p2) [js] [] p3) none p4.line (callEnv fd L f) = pure false)
    (hst : starEach [js] (callEnv fd L f) = (false, eval js (callEnv fd L f)) :: starEach [] (callEnv fd L f)) (hl : ∀ v : Value, [v].length ≤ sizeLine)
    (hjs : ∀ (s1 : Shared) (news : List (Addr × Obj)) (Q : List Value → Shared → Prop), Fr h L s1.heap m → News h L s1.heap news → (∀ (v : Value) (s2 : Shared), Fr h L s2.heap m → News h L s2.heap news → s2.gens = s1.gens → s2.os = s1.os → Q [v] s2) → wpAny (model P w) A (spliced (backTo p3 (starEach [js] (callEnv fd L f)))) Q E s1)
    (q : ∀ (t' : Addr) (s2 : Shared), Fr h L s2.heap m → News h L s2.heap [(e, excObj C t' none .none)] → s2.gens = s.gens → s2.os = s.os → Q .next s2) :
    PySem.wpAt (model P w) A (.func body (callEnv fd L f)) (exec (.Expr (.Call (.Attribute (.Call (.Name "super" p0) [] [] p1) "__init__" p2) [js] [] p3) p4) (callEnv fd L f)) Q E s := by
  obtain ⟨ar, ha1, ha2, ha3⟩ := hself
  obtain ⟨ccl, cdd, vs, ccs, file, tf, k1, k2, k3⟩ := F.code
  obtain ⟨cl, cld, csl, kc⟩ := F.cell
  obtain ⟨cdD, kD⟩ := F.kD
  have up : ∀ {b : Addr} {o : Obj}, K.lookup b = some o → s.heap.get? b = some o := fun z => fr.keep _ _ (kin _ _ z)
  have nse : ∀ {o : Obj}, s.heap.get? e = some o → o = excObj C t none .none := fun {o} z => by
    have := (nw _ (List.mem_singleton.mpr rfl)).1
    rw [this] at z
    exact (Option.some.inj z).symm
  have hexe := (nw _ (List.mem_singleton.mpr rfl)).1
  refine ks_wpAt_Expr_any (ks_wpAt_MethodCall (pl := pl) (ks_wpAt_super_base hs1 hs2 (by decide) rfl (fr.keep _ _ hof) hfd ha1 hcd (up k1) rfl k2 k3 F.top ?_) hev) hint hsw
  refine ks_loadName_global hk hs1 (Calls.loadGlobal_builtin (mg := mg) (mb := mb) ?_ F.mg ?_ F.mb ⟨rfl, wpAny_loadName_free (c := cc) (v := .ref D) hk hs2 ?_ ?_ (wpAny_loadName_local hk ha3 fr.ns ha2 ?_)⟩)
  · show s.heap.Ns fd.globals mg
    rw [hgl]
    exact hg.keeps fr.keep
  · show s.heap.Ns fd.builtins mb
    rw [hbl]
    exact hb.keeps fr.keep
  · show fd.closure.lookup _ = some cc
    rw [hc]
    rfl
  · exact ⟨_, up kc, rfl⟩
  · obtain ⟨oD, lD, dD⟩ : ∃ oD, K.lookup D = some oD ∧ oD.data = .cls cdD := by
      unfold clsIn at kD
      split at kD
      · cases kD
        exact ⟨_, by assumption, rfl⟩
      · cases kD
    obtain ⟨hp, gs, d, tk, os⟩ := s
    refine ks_wpAny_isType_cls (up lD) dD ⟨rfl, ks_wpAny_call_super (up lD) dD hexe rfl (fun c => by simp [excObj, excRec]) (looks_mroIn (fun a o z => up z) F.sub) fun h1 hso keep => ?_⟩
    have fr1 : Fr h L h1 m := fr.keeps keep
    have nw1 : News h L h1 [(e, excObj C t none .none)] := nw.grown keep
    have nso : h.get? hp.objs.size = none := by
      cases z : h.get? hp.objs.size with
      | none => rfl
      | some o =>
        have := fr.keep _ _ z
        simp [Heap.get?] at this
    have nw2 : News h L h1 [(hp.objs.size, ks_superObj D e C), (e, excObj C t none .none)] := nw1.more fr1 hso (fun _ _ => by simp) nso
    refine kxs_method kxs_ValueError fr1 kin nw2 (List.mem_cons_self ..) (ox := excObj C t none .none) (odx := none) ⟨keep _ _ hexe, rfl, rfl, trivial⟩ F.st F.sup F.ve (by decide) fun u h2 fr2 nw3 lt => ?_
    refine kxs_callWith1 (x := e) (i := "ValueError.__init__") nw3 (List.mem_cons_self ..) (hjs _ _ _ fr2 nw3 fun v s3 fr3 nw4 e1 e2 => ⟨(nw4 _ (List.mem_cons_self ..)).1, ?_⟩) hst rfl
    have hne1 : u ≠ e := fun z => by
      have a1 := (nw4 _ (List.mem_cons_self ..)).1
      have a2 := (nw4 (e, excObj C t none .none) (by simp)).1
      subst z
      rw [a1] at a2
      cases a2
    have hne2 : hp.objs.size ≠ e := fun z => by
      have a1 := (nw4 (hp.objs.size, ks_superObj D e C) (by simp)).1
      have a2 := (nw4 (e, excObj C t none .none) (by simp)).1
      rw [z] at a1
      rw [a1] at a2
      cases a2
    refine kxs_call (C := C) (t := t) (dv := none) (c2 := .none) fr3 kin nw4 PySem.F.excBase_ValueError hx (List.mem_cons_self ..) (.tail hne1 (.tail hne2 (.head (by simp)))) (hl v) fun t' h4 fr4 nw5 lt4 => ?_
    exact q t' _ fr4 (fun p hp' => nw5 p (by
      have := List.mem_singleton.mp hp'
      subst this
      simp)) e1 e2
end
end Ma
/-! Ma27: an exception's fields, one or two. -/
namespace Ma
open L2 PySem.W PySem.Spec PySem PyProof.Rows
theorem ns_one {h : Heap} {dx : Addr} {f : Str} {k : Int} {tk : Tok} {v : Value} {n : Nat} (e : h.get? dx = some (dictOf [⟨k, .str f tk, v⟩] n)) : h.Ns1 dx fun x => if f = x then some v else none := by
  refine ⟨_, _, _, e, rfl, fun a ha => ⟨f, tk, ?_⟩, by simp [UniqKeys], fun x => ?_⟩
  · have : a = ⟨k, .str f tk, v⟩ := by simpa using ha
    rw [this]
  · by_cases hx : f = x
    · simp [nsFind, findBy, Value.isStr, hx]
    · simp [nsFind, findBy, Value.isStr, hx]
theorem ns_two {h : Heap} {dx : Addr} {f g : Str} {k l : Int} {tk tl : Tok} {v u : Value} {n : Nat} (ne : f ≠ g) (e : h.get? dx = some (dictOf [⟨k, .str f tk, v⟩, ⟨l, .str g tl, u⟩] n)) : h.Ns1 dx fun x => if f = x then some v else if g = x then some u else none := by
  refine ⟨_, _, _, e, rfl, fun a ha => ?_, ?_, fun x => ?_⟩
  · have : a = ⟨k, .str f tk, v⟩ ∨ a = ⟨l, .str g tl, u⟩ := by simpa using ha
    rcases this with z | z <;> rw [z]
    · exact ⟨f, tk, rfl⟩
    · exact ⟨g, tl, rfl⟩
  · simp [UniqKeys, Value.isStr]
    exact fun z => ne z.symm
  · by_cases hx : f = x
    · simp [nsFind, findBy, Value.isStr, hx]
    · by_cases hy : g = x
      · simp [nsFind, findBy, Value.isStr, hx, hy]
      · simp [nsFind, findBy, Value.isStr, hx, hy]
end Ma
/-! Ma28: self.f = x in an exception's `__init__`. -/
namespace Ma
open L2 PySem.W PySem.Spec PySem PyProof.Rows
structure StF (K : PySem.W.Frag) (C : Addr) (f : Str) : Prop where
  sa : findIn K (.ref C) "__setattr__" = some (some (.builtin "object.__setattr__"))
  ov : excOver K C VE = true
  tk : takerIn K C f = some none
  hd : hasDictIn K C = true
section
variable {P : Program} {w : World} {K : PySem.W.Frag} {m : Str → Option Value} {h : Heap} {L C e t dx : Addr} {A : Around} {E : Value → Shared → Prop} {s : Shared} {p0 p1 p2 p3 : Pos} {Q : Flow → Shared → Prop} {sf f g x : Str} {v u : Value} {env : Env} {c : Code}
theorem fld_one (kin : K.In h) (F : StF K C f) (hk : env.scope.kind = .function) (hL : env.locals = L) (h1 : env.kindOf sf = some .local) (h2 : env.kindOf x = some .local) (m1 : m sf = some (.ref e)) (m2 : m x = some v)
    (hsw : swapsWith (.Name x p1) (some (.Attribute (.Name sf p0) f p2)) p3.line env = pure false) (d1 : (sf == ("__debug__" : Str)) = false) (d2 : (x == ("__debug__" : Str)) = false)
    (fr : Fr h L s.heap m) (nw : News h L s.heap [(e, excObj C t none .none)])
    (q : ∀ (dx : Addr) (s2 : Shared) (k : Int) (tk : Tok) (n : Nat), Fr h L s2.heap m → News h L s2.heap [(dx, dictOf [⟨k, .str f tk, v⟩] n), (e, excObj C t (some dx) .none)] → e < dx → s2.gens = s.gens → s2.os = s.os → Q .next s2) :
    PySem.wpAt (model P w) A c (exec (.Assign [.Attribute (.Name sf p0) f p2] (.Name x p1) p3) env) Q E s := by
  subst hL
  refine ks_wpAt_Assign_Attr (wpAt_of_wpAny (wpAny_Name (wpAny_loadName_local hk h2 fr.ns m2 ?_) d2)) hsw
  refine wpAny_Name (wpAny_loadName_local hk h1 fr.ns m1 ?_) d1
  refine set_exc0 (t := t) (c2 := .none) PySem.F.store_ValueError fr kin nw (List.mem_cons_self ..) F.sa F.ov F.tk F.hd rfl (.head (by simp)) (by simp [putL]) fun dx h' fr' nw' lt => ?_
  exact q dx _ _ _ _ fr' (by simpa [putL] using nw') (lt _ (List.mem_cons_self ..)) rfl rfl
theorem fld_two {k : Int} {tk : Tok} {n : Nat} (kin : K.In h) (F : StF K C g) (hk : env.scope.kind = .function) (hL : env.locals = L) (h1 : env.kindOf sf = some .local) (h2 : env.kindOf x = some .local) (m1 : m sf = some (.ref e)) (m2 : m x = some u)
    (hsw : swapsWith (.Name x p1) (some (.Attribute (.Name sf p0) g p2)) p3.line env = pure false) (d1 : (sf == ("__debug__" : Str)) = false) (d2 : (x == ("__debug__" : Str)) = false) (ne : f ≠ g)
    (fr : Fr h L s.heap m) (nw : News h L s.heap [(dx, dictOf [⟨k, .str f tk, v⟩] n), (e, excObj C t (some dx) .none)]) (lt : e < dx)
    (q : ∀ (s2 : Shared) (l : Int) (tl : Tok) (n : Nat), Fr h L s2.heap m → News h L s2.heap [(dx, dictOf [⟨k, .str f tk, v⟩, ⟨l, .str g tl, u⟩] n), (e, excObj C t (some dx) .none)] → s2.gens = s.gens → s2.os = s.os → Q .next s2) :
    PySem.wpAt (model P w) A c (exec (.Assign [.Attribute (.Name sf p0) g p2] (.Name x p1) p3) env) Q E s := by
  subst hL
  refine ks_wpAt_Assign_Attr (wpAt_of_wpAny (wpAny_Name (wpAny_loadName_local hk h2 fr.ns m2 ?_) d2)) hsw
  refine wpAny_Name (wpAny_loadName_local hk h1 fr.ns m1 ?_) d1
  have hf : (Value.str f tk).isStr g = false := by simp [Value.isStr, ne]
  refine set_excD (t := t) (dx := dx) (c2 := .none) (es := [⟨k, .str f tk, v⟩]) (n := n) PySem.F.store_ValueError fr kin nw (by simp) F.sa F.ov F.tk F.hd (by simp) (by simp [getL, hf, DictEntry.refKey]) rfl (.head (by
    intro p hp
    have := List.mem_singleton.mp hp
    subst this
    exact Nat.ne_of_lt lt)) (by simp [putL, hf]) fun h' fr' nw' => ?_
  exact q _ _ _ _ fr' (by simpa [putL, hf] using nw') rfl rfl
end
end Ma
/-! Ma29: C(x) and C(x, y) of exceptions with an `__init__`. -/
namespace Ma
open L2 PySem.W PySem.Spec PySem PyProof.Rows
/-- the text that is handed to super().__init__ comes to a value, whatever it is -/
def JsOk (P : Program) (w : World) (h : Heap) (m : Str → Option Value) (fd : FuncData) (f : Addr) (js : Expr) (p3 : Pos) (A : Around) (E : Value → Shared → Prop) (L : Addr) : Prop :=
  ∀ (s1 : Shared) (news : List (Addr × Obj)) (Q : List Value → Shared → Prop), Fr h L s1.heap m → News h L s1.heap news → (∀ (v : Value) (s2 : Shared), Fr h L s2.heap m → News h L s2.heap news → s2.gens = s1.gens → s2.os = s1.os → Q [v] s2) → wpAny (model P w) A (spliced (backTo p3 (starEach [js] (callEnv fd L f)))) Q E s1
/-- the `__init__` of such an exception -/
structure IniF (P : Program) (K : PySem.W.Frag) (mg mb : Str → Option Value) (C D cda cc f : Addr) (fd : FuncData) (ps : List Str) : Prop where
  ini : findIn K (.ref C) "__init__" = some (some (.ref f))
  ex : excInitIn K C VE "ValueError.__new__" = true
  fn : ∃ (od : Option Addr) (osl : Array (Option Value)), K.lookup f = some { cls := .type "function", dict := od, data := .func fd, slots := osl }
  hcd : codeIn K fd.code fd.qualname = true
  sup : SupF P K mg mb C D cda cc
  hk : fd.scope.kind = .function
  co : fd.scope.isCoroutine = false
  ge : fd.scope.isGenerator = false
  gl : fd.globals = mainGlobals
  bl : fd.builtins = builtinsNs
  cl : fd.closure = [(("__class__" : Str), cc)]
  cd : fd.code = .ref cda
  s1 : fd.scope.names.lookup ("super" : Str) = some NameKind.globalImplicit
  s2 : fd.scope.names.lookup ("__class__" : Str) = some NameKind.free
  nc : ∀ x ∈ fd.scope.names, x.2 ≠ .cell
  bd : ∀ us : List Value, us.length = ps.length → bindArgs fd ⟨us, []⟩ = pure (ps.zip us)
  lo : ∀ x ∈ ps, fd.scope.names.lookup x = some .local
section
variable {P : Program} {w : World} {K : PySem.W.Frag} {mg mb : Str → Option Value} {C D cda cc f : Addr} {fd : FuncData} {A : Around} {s : Shared} {R : Result → Shared → Prop} {us : List Value} {ps : List Str} {js : Expr} {p0 p1 p2 p3 p4 q0 q1 q2 q3 : Pos}
/-- the class called: what is left is the body -/
theorem ini_body (F : IniF P K mg mb C D cda cc f fd ps) (kin : K.In s.heap) (nl : s.heap.NoLimit) (hl : us.length ≤ sizeLine) (hn : us.length + 1 = ps.length) (hd : (A.under (.builtin "type.__call__" ⟨.ref C :: us, []⟩)).depth < recursionLimit) {body : List Stmt} (hbd : fd.body = .stmts body)
    (go : ∀ (t : Addr) (h1 : Heap) (s1 : Shared), let e := s.heap.objs.size + 1; let L := e + 1; let A1 := A.under (.builtin "type.__call__" ⟨.ref C :: us, []⟩)
      Fr s.heap L s1.heap (fun y => (ps.zip (.ref e :: us)).reverse.lookup y) → News s.heap L s1.heap [(e, excObj C t none .none)] → s1.gens = s.gens → s1.os = s.os →
      PySem.wpAt (model P w) (A1.deeper (callEnv fd L f)) (.func body (callEnv fd L f)) (execs body (callEnv fd L f))
        (fun fl s' => InitBack e R (.ok (.ret (match fl with | .ret v => v | _ => .none))) s')
        (fun x s' => wpAny (model P w) (A1.deeper (callEnv fd L f)) (leaving (callEnv fd L f) x) (fun _ s'' => InitBack e R (.error x) s'') (fun x' s'' => InitBack e R (.error x') s'') s') s1) :
    codeAny (model P w) A (.call (.ref C) ⟨us, []⟩) R s := by
  obtain ⟨nm, N, qn, bs, bm, hdct, sn, sub, ab, col, dd, k0, k1, k2, k3, k5, hc, hbm⟩ := excInit_of kin F.ex
  obtain ⟨od, osl, lk⟩ := F.fn
  obtain ⟨hp, gs, d, tk, os⟩ := s
  refine HandSPX.call_own PySem.F.excBase_ValueError hbm hc (looks_findIn kin F.ini) (exc_bind (kin _ _ lk) rfl) hl ?_
  have up : ∀ {b : Addr} {o : Obj}, hp.get? b = some o → ((hp.push (kdv_tup us)).push (HandSPX.excO C hp.objs.size)).get? b = some o := fun z => Heap.get?_push_of_some _ (Heap.get?_push_of_some _ z)
  have kin2 : K.In ((hp.push (kdv_tup us)).push (HandSPX.excO C hp.objs.size)) := fun a o z => up (kin a o z)
  have sz1 : hp.objs.size + 1 = (hp.push (kdv_tup us)).objs.size := by simp [Heap.push]
  have sz : ((hp.push (kdv_tup us)).push (HandSPX.excO C hp.objs.size)).objs.size = hp.objs.size + 1 + 1 := by simp [Heap.push]
  refine ks_codeAny_call_defAt (binds := ps.zip (.ref (hp.objs.size + 1) :: us)) hd (kin2 _ _ lk) rfl (nl.keeps fun b o z => up z) (codeRec_of kin2 F.hcd) hbd (fun M A E Q q => ?_) F.nc (fun x hx => F.lo _ (List.of_mem_zip (a := x.1) (b := x.2) hx).1) (fun h1 ns keep => ?_) F.co F.ge F.hk
  · rw [F.bd _ (by simpa using hn)]
    exact wpAny_pure q
  · have fr : Fr hp (hp.objs.size + 1 + 1) h1 (fun y => (ps.zip (.ref (hp.objs.size + 1) :: us)).reverse.lookup y) := ⟨sz ▸ ns, fun b o z => keep _ _ (up z), by omega⟩
    have nw : News hp (hp.objs.size + 1 + 1) h1 [(hp.objs.size + 1, excObj C hp.objs.size none .none)] := fun p hp' => by
      have := List.mem_singleton.mp hp'
      subst this
      exact ⟨keep _ _ (by
        have z := Heap.get?_push_size (hp.push (kdv_tup us)) (o := HandSPX.excO C hp.objs.size) rfl
        rw [← sz1] at z
        exact z), by simp, by simp [Heap.get?]⟩
    have z := go hp.objs.size h1 ⟨h1, gs, d, tk + (ps.zip (.ref (hp.objs.size + 1) :: us)).length, os⟩ fr nw rfl rfl
    rw [sz]
    exact z
end
end Ma
/-! Ma30: one field, two fields. -/
namespace Ma
open L2 PySem.W PySem.Spec PySem PyProof.Rows
/-- what the row super().__init__(js) comes to in each frame -/
structure RowS (fd : FuncData) (f : Addr) (js : Expr) (p0 p1 p2 p3 p4 : Pos) : Prop where
  ev : ∀ L, ∃ pl : Sem Bool, eval (.Call (.Attribute (.Call (.Name "super" p0) [] [] p1) "__init__" p2) [js] [] p3) (callEnv fd L f) = (do
      let ov ← attributeBase (.Call (.Name "super" p0) [] [] p1) "__init__" (callEnv fd L f) (eval (.Call (.Name "super" p0) [] [] p1) (callEnv fd L f))
      standAt p2.atName
      let (g, first) ← holding [ov] (getMethod ov "__init__" pl)
      callWith p3 g first (backTo p3 (starEach [js] (callEnv fd L f))) [])
  it : ∀ L, interactive (callEnv fd L f) = false
  sw : ∀ L, swapsWith (.Call (.Attribute (.Call (.Name "super" p0) [] [] p1) "__init__" p2) [js] [] p3) none p4.line (callEnv fd L f) = pure false
  st : ∀ L, starEach [js] (callEnv fd L f) = (false, eval js (callEnv fd L f)) :: starEach [] (callEnv fd L f)
section
variable {P : Program} {w : World} {K : PySem.W.Frag} {mg mb : Str → Option Value} {C D cda cc f : Addr} {fd : FuncData} {A : Around} {s : Shared} {R : Result → Shared → Prop} {us : List Value} {js : Expr} {p0 p1 p2 p3 p4 q0 q1 q2 q3 r0 r1 r2 r3 : Pos} {sf x y n1 n2 : Str} {v u : Value}
theorem exi_one (F : IniF P K mg mb C D cda cc f fd [sf, x]) (kin : K.In s.heap) (hg : s.heap.Ns mainGlobals mg) (hb : s.heap.Ns builtinsNs mb) (nl : s.heap.NoLimit) (hd : (A.under (.builtin "type.__call__" ⟨.ref C :: [v], []⟩)).depth < recursionLimit)
    (hbd : fd.body = .stmts [.Expr (.Call (.Attribute (.Call (.Name "super" p0) [] [] p1) "__init__" p2) [js] [] p3) p4, .Assign [.Attribute (.Name sf q0) n1 q2] (.Name x q1) q3])
    (hself : ∃ ar, (fd.params.posonlyargs ++ fd.params.args).head? = some ar ∧ ar.arg = sf) (nsx : sf ≠ x) (S : RowS fd f js p0 p1 p2 p3 p4) (F1 : StF K C n1)
    (sw1 : ∀ L, swapsWith (.Name x q1) (some (.Attribute (.Name sf q0) n1 q2)) q3.line (callEnv fd L f) = pure false) (d1 : (sf == ("__debug__" : Str)) = false) (d2 : (x == ("__debug__" : Str)) = false)
    (hjs : ∀ E, JsOk P w s.heap (fun z => ([sf, x].zip [.ref (s.heap.objs.size + 1), v]).reverse.lookup z) fd f js p3 ((A.under (.builtin "type.__call__" ⟨.ref C :: [v], []⟩)).deeper (callEnv fd (s.heap.objs.size + 1 + 1) f)) E (s.heap.objs.size + 1 + 1))
    (q : ∀ (dx t : Addr) (s2 : Shared) (k : Int) (tk : Tok) (n : Nat), (∀ b o, s.heap.get? b = some o → s2.heap.get? b = some o) → s2.heap.get? (s.heap.objs.size + 1) = some (excObj C t (some dx) .none) → s2.heap.get? dx = some (dictOf [⟨k, .str n1 tk, v⟩] n) → s.heap.get? dx = none → s.heap.objs.size + 1 < dx → s2.gens = s.gens → s2.os = s.os → R (.ok (.ret (.ref (s.heap.objs.size + 1)))) s2) :
    codeAny (model P w) A (.call (.ref C) ⟨[v], []⟩) R s := by
  obtain ⟨ar, ha1, ha2⟩ := hself
  refine ini_body F kin nl (by simp only [List.length_singleton]; decide +kernel) rfl hd hbd fun t h1 s1 => ?_
  intro e L A1 fr nw g1 o1
  have m1 : ([sf, x].zip [Value.ref e, v]).reverse.lookup sf = some (.ref e) := by
    have : (sf == x) = false := by simpa using nsx
    simp [List.lookup, this]
  have m2 : ([sf, x].zip [Value.ref e, v]).reverse.lookup x = some v := by simp [List.lookup]
  obtain ⟨od, osl, lk⟩ := F.fn
  obtain ⟨pl, ev⟩ := S.ev L
  have l1 := F.lo sf (by simp)
  have l2 := F.lo x (by simp)
  refine ks_wpAt_execs_cons (super_row (js := js) F.sup kin hg hb F.ex (kin _ _ lk) rfl ⟨ar, ha1, by rw [ha2]; exact m1, by rw [ha2]; exact l1⟩ F.hk F.gl F.bl F.cl F.cd F.s1 F.s2 fr nw ev (S.it L) (S.sw L) (S.st L) (fun _ => by simp only [List.length_singleton]; decide +kernel) (hjs _) fun t' s2 fr2 nw2 g2 o2 => ?_)
  refine ks_wpAt_execs_cons (fld_one kin F1 F.hk rfl l1 l2 m1 m2 (sw1 L) d1 d2 fr2 nw2 fun dx s3 k tk n fr3 nw3 lt g3 o3 => ?_)
  refine wpAt_of_wpAny ?_
  rw [execs]
  refine wpAny_pure ⟨rfl, ?_⟩
  exact q dx t' s3 k tk n fr3.keep (nw3 (e, _) (by simp)).1 (nw3 (dx, _) (by simp)).1 (nw3 (dx, dictOf [⟨k, .str n1 tk, v⟩] n) (by simp)).2.2 lt (by rw [g3, g2, g1]) (by rw [o3, o2, o1])
theorem exi_two (F : IniF P K mg mb C D cda cc f fd [sf, x, y]) (kin : K.In s.heap) (hg : s.heap.Ns mainGlobals mg) (hb : s.heap.Ns builtinsNs mb) (nl : s.heap.NoLimit) (hd : (A.under (.builtin "type.__call__" ⟨.ref C :: [v, u], []⟩)).depth < recursionLimit)
    (hbd : fd.body = .stmts [.Expr (.Call (.Attribute (.Call (.Name "super" p0) [] [] p1) "__init__" p2) [js] [] p3) p4, .Assign [.Attribute (.Name sf q0) n1 q2] (.Name x q1) q3, .Assign [.Attribute (.Name sf r0) n2 r2] (.Name y r1) r3])
    (hself : ∃ ar, (fd.params.posonlyargs ++ fd.params.args).head? = some ar ∧ ar.arg = sf) (nsx : sf ≠ x) (nsy : sf ≠ y) (nxy : x ≠ y) (n12 : n1 ≠ n2) (S : RowS fd f js p0 p1 p2 p3 p4) (F1 : StF K C n1) (F2 : StF K C n2)
    (sw1 : ∀ L, swapsWith (.Name x q1) (some (.Attribute (.Name sf q0) n1 q2)) q3.line (callEnv fd L f) = pure false) (sw2 : ∀ L, swapsWith (.Name y r1) (some (.Attribute (.Name sf r0) n2 r2)) r3.line (callEnv fd L f) = pure false) (d1 : (sf == ("__debug__" : Str)) = false) (d2 : (x == ("__debug__" : Str)) = false) (d3 : (y == ("__debug__" : Str)) = false)
    (hjs : ∀ E, JsOk P w s.heap (fun z => ([sf, x, y].zip [.ref (s.heap.objs.size + 1), v, u]).reverse.lookup z) fd f js p3 ((A.under (.builtin "type.__call__" ⟨.ref C :: [v, u], []⟩)).deeper (callEnv fd (s.heap.objs.size + 1 + 1) f)) E (s.heap.objs.size + 1 + 1))
    (q : ∀ (dx t : Addr) (s2 : Shared) (k l : Int) (tk tl : Tok) (n : Nat), (∀ b o, s.heap.get? b = some o → s2.heap.get? b = some o) → s2.heap.get? (s.heap.objs.size + 1) = some (excObj C t (some dx) .none) → s2.heap.get? dx = some (dictOf [⟨k, .str n1 tk, v⟩, ⟨l, .str n2 tl, u⟩] n) → s.heap.get? dx = none → s.heap.objs.size + 1 < dx → s2.gens = s.gens → s2.os = s.os → R (.ok (.ret (.ref (s.heap.objs.size + 1)))) s2) :
    codeAny (model P w) A (.call (.ref C) ⟨[v, u], []⟩) R s := by
  obtain ⟨ar, ha1, ha2⟩ := hself
  refine ini_body F kin nl (by simp only [List.length_cons, List.length_nil]; decide +kernel) rfl hd hbd fun t h1 s1 => ?_
  intro e L A1 fr nw g1 o1
  have e1 : (sf == x) = false := by simpa using nsx
  have e2 : (sf == y) = false := by simpa using nsy
  have e3 : (x == y) = false := by simpa using nxy
  have m1 : ([sf, x, y].zip [Value.ref e, v, u]).reverse.lookup sf = some (.ref e) := by simp [List.lookup, e1, e2]
  have m2 : ([sf, x, y].zip [Value.ref e, v, u]).reverse.lookup x = some v := by simp [List.lookup, e3]
  have m3 : ([sf, x, y].zip [Value.ref e, v, u]).reverse.lookup y = some u := by simp [List.lookup]
  obtain ⟨od, osl, lk⟩ := F.fn
  obtain ⟨pl, ev⟩ := S.ev L
  have l1 := F.lo sf (by simp)
  have l2 := F.lo x (by simp)
  have l3 := F.lo y (by simp)
  refine ks_wpAt_execs_cons (super_row (js := js) F.sup kin hg hb F.ex (kin _ _ lk) rfl ⟨ar, ha1, by rw [ha2]; exact m1, by rw [ha2]; exact l1⟩ F.hk F.gl F.bl F.cl F.cd F.s1 F.s2 fr nw ev (S.it L) (S.sw L) (S.st L) (fun _ => by simp only [List.length_singleton]; decide +kernel) (hjs _) fun t' s2 fr2 nw2 g2 o2 => ?_)
  refine ks_wpAt_execs_cons (fld_one kin F1 F.hk rfl l1 l2 m1 m2 (sw1 L) d1 d2 fr2 nw2 fun dx s3 k tk n fr3 nw3 lt g3 o3 => ?_)
  refine ks_wpAt_execs_cons (fld_two kin F2 F.hk rfl l1 l3 m1 m3 (sw2 L) d1 d3 n12 fr3 nw3 lt fun s4 l tl n' fr4 nw4 g4 o4 => ?_)
  refine wpAt_of_wpAny ?_
  rw [execs]
  refine wpAny_pure ⟨rfl, ?_⟩
  exact q dx t' s4 k l tk tl n' fr4.keep (nw4 (e, _) (by simp)).1 (nw4 (dx, _) (by simp)).1 (nw4 (dx, dictOf [⟨k, .str n1 tk, v⟩, ⟨l, .str n2 tl, u⟩] n') (by simp)).2.2 lt (by rw [g4, g3, g2, g1]) (by rw [o4, o3, o2, o1])
end
end Ma
/-! Ma31: the exception stands in the layer's heap. -/
namespace Ma
open L2 PySem.W PySem.Spec PySem PyProof.Rows
theorem cut_get {h : Heap} {n b : Nat} : ({ h with objs := h.objs.extract 0 n } : Heap).get? b = if b < n then h.get? b else none := by
  unfold Heap.get?
  by_cases hb : b < n
  · simp only [hb, if_true]
    have : (h.objs.extract 0 n)[b]? = h.objs[b]? := by
      rw [Array.getElem?_extract]
      by_cases hs : b < h.objs.size
      · simp [hs]; omega
      · simp; omega
    rw [this]
  · simp only [hb, if_false]
    have : (h.objs.extract 0 n)[b]? = none := by
      rw [Array.getElem?_eq_none]
      simp; omega
    rw [this]
theorem get_lt {h : Heap} {b : Addr} {o : Obj} (z : h.get? b = some o) : b < h.objs.size := by
  unfold Heap.get? at z
  by_cases hb : b < h.objs.size
  · exact hb
  · rw [Array.getElem?_eq_none (Nat.le_of_not_lt hb)] at z
    cases z
theorem two_laid {X : Cx} {pins : List (Addr × Obj)} {σ : L2.St} {H : Hp} {s : Shared} {h' : Heap} {t' : Nat} {e dx C t : Addr} {fs : List (Str × V)} {mA : Str → Option Value} (I : Inv X pins σ H s) (keep : ∀ b o, s.heap.get? b = some o → h'.get? b = some o) (he : s.heap.objs.size ≤ e) (lt : e < dx)
    (h1 : h'.get? e = some (excObj C t (some dx) .none)) (h2 : h'.Ns1 dx mA) (hr : ∀ f, RelO (fs.lookup f) (mA f)) :
    Inv X pins σ (upd (upd H e (XO (.ref C) (some dx) e)) dx (.xd fs)) { s with heap := h', toks := t' } := by
  have a1 : Inv X pins σ (upd H e (XO (.ref C) (some dx) e)) { s with heap := { h' with objs := h'.objs.extract 0 dx }, toks := t' } := by
    refine I.laidN (fun b o z => ?_) ?_ (I.hok.fresh he) ?_
    · rw [cut_get, if_pos (Nat.lt_trans (Nat.lt_of_lt_of_le (get_lt z) he) lt)]
      exact keep b o z
    · cases z : s.heap.get? e with
      | none => rfl
      | some o => exact absurd (Nat.lt_of_lt_of_le (get_lt z) he) (Nat.lt_irrefl _)
    · have z : ({ h' with objs := h'.objs.extract 0 dx } : Heap).get? e = some (excObj C t (some dx) .none) := by rw [cut_get, if_pos lt]; exact h1
      simp only [ObjOk, XO]
      exact ⟨⟨_, _, z, ⟨rfl, rfl⟩, rfl⟩, ⟨_, z⟩, fun g1 g2 ⟨oe, vs, e, z, f⟩ k => ⟨oe, vs, k _ e, z, f⟩⟩
  refine a1.laidN (h' := h') (t' := t') (fun b o z => ?_) ?_ ?_ ?_
  · rw [cut_get] at z
    split at z
    · exact z
    · cases z
  · show ({ h' with objs := h'.objs.extract 0 dx } : Heap).get? dx = none
    rw [cut_get, if_neg (Nat.lt_irrefl _)]
  · rw [upd_ne (fun z => Nat.lt_irrefl _ (z ▸ lt))]
    exact I.hok.fresh (Nat.le_trans he (Nat.le_of_lt lt))
  · simp only [ObjOk]
    exact ⟨mA, h2, hr⟩
end Ma
/-! Ma32: the text of such an exception: f"..{x}..". -/
namespace Ma
open L2 PySem.W PySem.Spec PySem PyProof.Rows
/-- a value that comes to the text z in {..} -/
def FmtV (P : Program) (w : World) (h : Heap) (A : Around) (v : Value) (z : Str) : Prop :=
  ∀ (E : Value → Shared → Prop) (s1 : Shared) (Q : Value → Shared → Prop), (∀ b o, h.get? b = some o → s1.heap.get? b = some o) → (∀ (h' : Heap) (u : Tok) (tk : Nat), (∀ b o, s1.heap.get? b = some o → h'.get? b = some o) → Q (.str z u) { s1 with heap := h', toks := tk }) → wpAny (model P w) A (formatField v Str.empty) Q E s1
section
variable {P : Program} {w : World} {h : Heap} {A : Around} {m : Str → Option Value} {fd : FuncData} {f L : Addr} {v : Value} {z x : Str} {env : Env}
theorem fmt_int {i : Int} {t : Tok} (hb : i.natAbs.log2 < 1920) : FmtV P w h A (.int i t) (Str.ofString (toString i)) := fun E s1 Q k q =>
  wpAny_formatField_int hb (q _ _ _ fun _ _ z => z)
theorem fmt_ref {a : Addr} {d : PyData} {as : List Addr} (k1 : Reads h (.ref a) d as) (h1 : d.showable = true) (h2 : d.hasDict = false) (hg : A.guards = some []) (hu : A.units + (d.depth + 2) < cLine) (h4 : d.shown.length ≤ sizeLine) : FmtV P w h A (.ref a) d.shown := fun E s1 Q k q =>
  formatField_of_reads k1 h1 (fun z => by rw [h2] at z; cases z) hg hu k (fun h' u tk keep => q h' u tk keep) h4
/-- a part of the text -/
def PartOk (P : Program) (w : World) (h : Heap) (m : Str → Option Value) (A : Around) (L : Addr) (env : Env) (e : Expr) (z : Str) : Prop :=
  ∀ (E : Value → Shared → Prop) (s1 : Shared) (Q : Value → Shared → Prop), Fr h L s1.heap m → (∀ (h' : Heap) (u : Tok) (tk : Nat), (∀ b o, s1.heap.get? b = some o → h'.get? b = some o) → Q (.str z u) { s1 with heap := h', toks := tk }) → wpAny (model P w) A (eval e env) Q E s1
theorem part_str {j : Nat} {p : Pos} : PartOk P w h m A L env (.Constant (.str z) j p) z := fun E s1 Q fr q => wpAny_Constant_str (q _ _ _ fun _ _ z => z)
theorem part_fmt {p q : Pos} (hk : env.scope.kind = .function) (hL : env.locals = L) (hx : env.kindOf x = some .local) (hm : m x = some v) (hd : (x == ("__debug__" : Str)) = false) (F : FmtV P w h A v z) : PartOk P w h m A L env (.FormattedValue (.Name x p) (-1) none q) z := fun E s1 Q fr go => by
  subst hL
  exact wpAny_FormattedValue_plain (wpAny_Name (wpAny_loadName_local hk hx fr.ns hm (F E s1 Q fr.keep go)) hd)
inductive PartsOk (P : Program) (w : World) (h : Heap) (m : Str → Option Value) (A : Around) (L : Addr) (env : Env) : List Expr → List Str → Prop
  | nil : PartsOk P w h m A L env [] []
  | cons {e : Expr} {z : Str} {es : List Expr} {zs : List Str} : PartOk P w h m A L env e z → PartsOk P w h m A L env es zs → PartsOk P w h m A L env (e :: es) (z :: zs)
theorem joins_ok {es : List Expr} {zs : List Str} (r : PartsOk P w h m A L env es zs) : ∀ (E : Value → Shared → Prop) (acc : Str) (s1 : Shared) (Q : Str → Shared → Prop), acc.length + (zs.map (·.length)).sum ≤ sizeLine → Fr h L s1.heap m → (∀ (out : Str) (h' : Heap) (tk : Nat), out.length ≤ sizeLine → (∀ b o, s1.heap.get? b = some o → h'.get? b = some o) → Q out { s1 with heap := h', toks := tk }) → Joins (model P w) A E (evalEach es env) acc Q s1 := by
  induction r with
  | nil =>
    intro E acc s1 Q hl fr q
    exact Joins_nil (q acc s1.heap s1.toks (by simpa using hl) fun _ _ z => z)
  | @cons e z es zs p t ih =>
    intro E acc s1 Q hl fr q
    rw [List.map_cons, List.sum_cons] at hl
    have hz : (acc ++ z).length = acc.length + z.length := Str.length_append ..
    refine Joins_cons (p E s1 _ fr fun h' u tk keep => ⟨z, u, rfl, by omega, ?_⟩)
    exact ih E (acc ++ z) _ Q (by omega) (fr.keeps keep) fun out h'' tk' ho k2 => q out h'' tk' ho fun b o y => k2 b o (keep b o y)
theorem js_ok {e1 e2 : Expr} {es : List Expr} {zs : List Str} {p p3 : Pos} {E : Value → Shared → Prop} (r : PartsOk P w h m A L (callEnv fd L f) (e1 :: e2 :: es) zs) (hl : (zs.map (·.length)).sum ≤ sizeLine)
    (hst : starEach [.JoinedStr (e1 :: e2 :: es) p] (callEnv fd L f) = (false, eval (.JoinedStr (e1 :: e2 :: es) p) (callEnv fd L f)) :: starEach [] (callEnv fd L f)) : JsOk P w h m fd f (.JoinedStr (e1 :: e2 :: es) p) p3 A E L := fun s1 news Q fr nw q => by
  refine wpAny_items_cons (wpAny_JoinedStr (joins_ok r E Str.empty s1 _ (by simpa [Str.length, Str.empty] using hl) fr fun out h' tk ho keep => ⟨ho, ?_⟩)) hst
  refine wpAny_items_nil (q _ _ (fr.keeps keep) (nw.grown keep) rfl rfl)
end
end Ma
/-! Ma33: such an exception called, by its heap alone. -/
namespace Ma
open L2 PySem.W PySem.Spec PySem PyProof.Rows
/-- the text of a value in {..}, whoever asks -/
def Txt (P : Program) (w : World) (h : Heap) (v : Value) (z : Str) : Prop := ∀ A : Around, A.guards = some [] → A.units + 70 < cLine → FmtV P w h A v z
/-- a part: text, or a value by its place -/
abbrev Pt := Sum Str Nat
inductive Texts (P : Program) (w : World) (h : Heap) (us : List Value) : List Pt → List Str → Prop
  | nil : Texts P w h us [] []
  | txt {z : Str} {ps : List Pt} {zs : List Str} : Texts P w h us ps zs → Texts P w h us (.inl z :: ps) (z :: zs)
  | val {i : Nat} {v : Value} {z : Str} {ps : List Pt} {zs : List Str} : us[i]? = some v → Txt P w h v z → Texts P w h us ps zs → Texts P w h us (.inr i :: ps) (z :: zs)
/-- what a call of the class comes to, on the heap -/
def ExCall (P : Program) (w : World) (K : PySem.W.Frag) (mg mb : Str → Option Value) (C : Addr) (fs : List Str) (pt : List Pt) : Prop :=
  ∀ (A : Around) (s : Shared) (us : List Value) (zs : List Str) (R : Result → Shared → Prop), RoomG 2 A → K.In s.heap → s.heap.Ns mainGlobals mg → s.heap.Ns builtinsNs mb → s.heap.NoLimit → us.length = fs.length → Texts P w s.heap us pt zs → (zs.map (·.length)).sum ≤ sizeLine →
    (∀ (dx t : Addr) (s2 : Shared) (mA : Str → Option Value), (∀ b o, s.heap.get? b = some o → s2.heap.get? b = some o) → s2.heap.get? (s.heap.objs.size + 1) = some (excObj C t (some dx) .none) → s2.heap.Ns1 dx mA → (∀ z, mA z = (fs.zip us).lookup z) → s.heap.objs.size + 1 < dx → s2.gens = s.gens → s2.os = s.os → R (.ok (.ret (.ref (s.heap.objs.size + 1)))) s2) →
    codeAny (model P w) A (.call (.ref C) ⟨us, []⟩) R s
/-- the parts as the text has them -/
inductive PtIs (ps : List Str) : List Expr → List Pt → Prop
  | nil : PtIs ps [] []
  | txt {z : Str} {j : Nat} {p : Pos} {es : List Expr} {qs : List Pt} : PtIs ps es qs → PtIs ps (.Constant (.str z) j p :: es) (.inl z :: qs)
  | val {i : Nat} {x : Str} {p q : Pos} {es : List Expr} {qs : List Pt} : ps[i]? = some x → (x == ("__debug__" : Str)) = false → PtIs ps es qs → PtIs ps (.FormattedValue (.Name x p) (-1) none q :: es) (.inr i :: qs)
section
variable {P : Program} {w : World} {K : PySem.W.Frag} {mg mb : Str → Option Value} {C D cda cc f : Addr} {fd : FuncData} {es : List Expr} {e1 e2 : Expr} {p p0 p1 p2 p3 p4 q0 q1 q2 q3 r0 r1 r2 r3 : Pos} {sf x y n1 n2 : Str} {pt : List Pt}
theorem parts_of {ps : List Str} {us : List Value} {h : Heap} {A : Around} {L : Addr} {m : Str → Option Value} {env : Env} {es : List Expr} {pt : List Pt} {zs : List Str} (hg : A.guards = some []) (hu : A.units + 70 < cLine) (hk : env.scope.kind = .function) (hL : env.locals = L) (hx : ∀ (i : Nat) (x : Str) (v : Value), ps[i]? = some x → us[i]? = some v → env.kindOf x = some .local ∧ m x = some v)
    (a : PtIs ps es pt) (b : Texts P w h us pt zs) : PartsOk P w h m A L env es zs := by
  induction a generalizing zs with
  | nil => cases b; exact .nil
  | txt _ ih => cases b with | txt b => exact .cons part_str (ih b)
  | val h1 h2 _ ih =>
    cases b with
    | val h3 h4 b =>
      obtain ⟨k1, k2⟩ := hx _ _ _ h1 h3
      exact .cons (part_fmt hk hL k1 k2 h2 (h4 A hg hu)) (ih b)
theorem under_g {A : Around} {us : List Value} (r : RoomG 2 A) (env : Env) : ((A.under (.builtin "type.__call__" ⟨.ref C :: us, []⟩)).depth < recursionLimit) ∧ ((A.under (.builtin "type.__call__" ⟨.ref C :: us, []⟩)).deeper env).guards = some [] ∧ ((A.under (.builtin "type.__call__" ⟨.ref C :: us, []⟩)).deeper env).units + 70 < cLine := by
  have r1 := Room.make r.toRoom C us []
  have r2 := r1.deeper env
  refine ⟨r1.depth, ?_, ?_⟩
  · exact r.gs
  · have := r2.un
    omega
theorem exCall_one (F : IniF P K mg mb C D cda cc f fd [sf, x]) (hbd : fd.body = .stmts [.Expr (.Call (.Attribute (.Call (.Name "super" p0) [] [] p1) "__init__" p2) [.JoinedStr (e1 :: e2 :: es) p] [] p3) p4, .Assign [.Attribute (.Name sf q0) n1 q2] (.Name x q1) q3])
    (hself : ∃ ar, (fd.params.posonlyargs ++ fd.params.args).head? = some ar ∧ ar.arg = sf) (nsx : sf ≠ x) (S : RowS fd f (.JoinedStr (e1 :: e2 :: es) p) p0 p1 p2 p3 p4) (F1 : StF K C n1)
    (sw1 : ∀ L, swapsWith (.Name x q1) (some (.Attribute (.Name sf q0) n1 q2)) q3.line (callEnv fd L f) = pure false) (d1 : (sf == ("__debug__" : Str)) = false) (d2 : (x == ("__debug__" : Str)) = false) (hp : PtIs [x] (e1 :: e2 :: es) pt) : ExCall P w K mg mb C [n1] pt := by
  intro A s us zs R hr kin hg hb nl hn tx hz q
  match us, hn with
  | [v], _ =>
    obtain ⟨hd, -, -⟩ := under_g (C := C) (us := [v]) hr (callEnv fd (s.heap.objs.size + 1 + 1) f)
    obtain ⟨-, gs, un⟩ := under_g (C := C) (us := [v]) hr (callEnv fd (s.heap.objs.size + 1 + 1) f)
    refine exi_one F kin hg hb nl hd hbd hself nsx S F1 sw1 d1 d2 (fun E => js_ok (parts_of gs un F.hk rfl (fun i z u h1 h2 => ?_) hp tx) hz (S.st _)) fun dx t s2 k tk n keep h1 h2 _ lt g o => q dx t s2 _ keep h1 (ns_one h2) (fun z => ?_) lt g o
    · match i, h1, h2 with
      | 0, h1, h2 =>
        cases h1; cases h2
        exact ⟨F.lo x (by simp), by simp [List.lookup]⟩
    · by_cases hz : n1 = z
      · subst hz; simp [List.lookup]
      · have : (z == n1) = false := by simpa using fun a => hz a.symm
        simp [List.lookup, this, hz]
theorem exCall_two (F : IniF P K mg mb C D cda cc f fd [sf, x, y]) (hbd : fd.body = .stmts [.Expr (.Call (.Attribute (.Call (.Name "super" p0) [] [] p1) "__init__" p2) [.JoinedStr (e1 :: e2 :: es) p] [] p3) p4, .Assign [.Attribute (.Name sf q0) n1 q2] (.Name x q1) q3, .Assign [.Attribute (.Name sf r0) n2 r2] (.Name y r1) r3])
    (hself : ∃ ar, (fd.params.posonlyargs ++ fd.params.args).head? = some ar ∧ ar.arg = sf) (nsx : sf ≠ x) (nsy : sf ≠ y) (nxy : x ≠ y) (n12 : n1 ≠ n2) (S : RowS fd f (.JoinedStr (e1 :: e2 :: es) p) p0 p1 p2 p3 p4) (F1 : StF K C n1) (F2 : StF K C n2)
    (sw1 : ∀ L, swapsWith (.Name x q1) (some (.Attribute (.Name sf q0) n1 q2)) q3.line (callEnv fd L f) = pure false) (sw2 : ∀ L, swapsWith (.Name y r1) (some (.Attribute (.Name sf r0) n2 r2)) r3.line (callEnv fd L f) = pure false) (d1 : (sf == ("__debug__" : Str)) = false) (d2 : (x == ("__debug__" : Str)) = false) (d3 : (y == ("__debug__" : Str)) = false) (hp : PtIs [x, y] (e1 :: e2 :: es) pt) : ExCall P w K mg mb C [n1, n2] pt := by
  intro A s us zs R hr kin hg hb nl hn tx hz q
  match us, hn with
  | [v, u], _ =>
    obtain ⟨hd, gs, un⟩ := under_g (C := C) (us := [v, u]) hr (callEnv fd (s.heap.objs.size + 1 + 1) f)
    have e3 : (x == y) = false := by simpa using nxy
    refine exi_two F kin hg hb nl hd hbd hself nsx nsy nxy n12 S F1 F2 sw1 sw2 d1 d2 d3 (fun E => js_ok (parts_of gs un F.hk rfl (fun i z u h1 h2 => ?_) hp tx) hz (S.st _)) fun dx t s2 k l tk tl n keep h1 h2 _ lt g o => q dx t s2 _ keep h1 (ns_two n12 h2) (fun z => ?_) lt g o
    · match i, h1, h2 with
      | 0, h1, h2 =>
        cases h1; cases h2
        exact ⟨F.lo x (by simp), by simp [List.lookup, e3]⟩
      | 1, h1, h2 =>
        cases h1; cases h2
        exact ⟨F.lo y (by simp), by simp [List.lookup]⟩
    · by_cases hz : n1 = z
      · subst hz; simp [List.lookup]
      · have h1 : (z == n1) = false := by simpa using fun a => hz a.symm
        by_cases hy : n2 = z
        · subst hy; simp [List.lookup, h1, hz]
        · have h2 : (z == n2) = false := by simpa using fun a => hy a.symm
          simp [List.lookup, h1, h2, hz, hy]
end
end Ma
/-! Ma34: C(x), C(x, y) of exceptions with an `__init__`, in the machine. -/
namespace Ma
open L2 PySem.W PySem.Spec PySem PyProof.Rows
def fmtM (hp : List Cell) : M → Option Str
  | .int i => if i.natAbs.log2 < 1920 then some (Str.ofString (toString i)) else none
  | x => match datT hp x with
    | some d => if (isSeqD d && d.showable && !d.hasDict && decide (d.depth ≤ 64) && decide (d.shown.length ≤ sizeLine)) = true then some d.shown else none
    | none => none
def textsM (hp : List Cell) (ms : List M) : List Pt → Option (List Str)
  | [] => some []
  | .inl z :: ps => (textsM hp ms ps).map (z :: ·)
  | .inr i :: ps => match ms[i]? with
    | some m => match fmtM hp m with
      | some z => (textsM hp ms ps).map (z :: ·)
      | none => none
    | none => none
def exiM (n : Str) (fs : List Str) (pt : List Pt) (ms : List M) (s : MS) : Res M :=
  if ms.length = fs.length then match textsM s.hp ms pt with
    | some zs => if (zs.map (·.length)).sum ≤ sizeLine then .ok (.exn n fs ms) s else .stuck
    | none => .stuck
  else .stuck
/-- what the text's name n holds: such an exception -/
structure KnI (P : Program) (w : World) (mg : Str → Option Value) (T : Tab) (n : Str) (fs : List Str) (pt : List Pt) : Prop where
  ex : ∃ A, T.ad n = some A ∧ mg n = some (.ref A) ∧ keepIn T.K (.ref A) = true ∧ ∀ mb : Str → Option Value, (∀ x : Str, x ≠ "__name__" → mb x = bootBuiltins x) → ExCall P w T.K mg mb A fs pt
section
variable {C : MC} {g g1 : Gh} {H H1 : Hp} {s : MS} {σ : L2.St} {ex : Expr} {es : List Expr} {ma : MA} {pos p : Pos} {x n : Str} {A : Addr} {fs : List Str} {pt : List Pt}
theorem zip_rel : ∀ {fs : List Str} {vs : List V} {us : List Value}, Vals vs us → ∀ f, RelO ((fs.zip vs).lookup f) ((fs.zip us).lookup f)
  | [], _, _, _, f => by simp [RelO]
  | _ :: _, _, _, .nil, f => by simp [RelO]
  | n :: fs, _, _, .cons r rs, f => by
    rw [List.zip_cons_cons, List.zip_cons_cons, List.lookup_cons, List.lookup_cons]
    cases hk : f == n with
    | true => exact r
    | false => exact zip_rel rs f
theorem vals_at : ∀ {vs : List V} {us : List Value} {i : Nat} {v : V}, Vals vs us → vs[i]? = some v → ∃ u, us[i]? = some u ∧ RelV v u
  | _, _, _, _, .nil, h => by simp at h
  | _, _, 0, _, .cons r _, h => by simp at h; subst h; exact ⟨_, rfl, r⟩
  | _, _, i + 1, v, .cons _ t, h => by
    obtain ⟨u, h1, h2⟩ := vals_at (i := i) (v := v) t (by simpa using h)
    exact ⟨u, by simpa using h1, h2⟩
theorem texts_at {pins : List (Addr × Obj)} {sh : Shared} {us : List Value} {ms : List M} {vs : List V} (I : Inv C.X pins σ H sh) (r : C.rel g s σ H) (rs : RVs C.T g H ms vs) (rv : Vals vs us) : ∀ {pt : List Pt} {zs : List Str}, textsM s.hp ms pt = some zs → Texts C.X.prog C.X.w sh.heap us pt zs
  | [], _, h => by cases h; exact .nil
  | .inl z :: ps, zs, h => by
    simp only [textsM] at h
    cases ht : textsM s.hp ms ps with
    | none => rw [ht] at h; cases h
    | some ys =>
      rw [ht] at h
      cases h
      exact .txt (texts_at I r rs rv ht)
  | .inr i :: ps, zs, h => by
    simp only [textsM] at h
    cases hm : ms[i]? with
    | none => rw [hm] at h; cases h
    | some m =>
      rw [hm] at h
      dsimp only at h
      cases hf : fmtM s.hp m with
      | none => rw [hf] at h; cases h
      | some z =>
        rw [hf] at h
        dsimp only at h
        cases ht : textsM s.hp ms ps with
        | none => rw [ht] at h; cases h
        | some ys =>
          rw [ht] at h
          cases h
          obtain ⟨v, h1, h2⟩ := rs.get hm
          obtain ⟨u, h3, h4⟩ := vals_at rv h1
          refine .val h3 ?_ (texts_at I r rs rv ht)
          unfold fmtM at hf
          split at hf
          · rename_i i
            split at hf
            · rename_i hb
              cases hf
              cases h2
              obtain ⟨t, rfl⟩ := h4
              exact fun A _ _ => fmt_int hb
            · cases hf
          · split at hf
            · rename_i d hd
              split at hf
              · rename_i hb
                cases hf
                simp only [Bool.and_eq_true, decide_eq_true_eq, Bool.not_eq_true'] at hb
                obtain ⟨⟨⟨⟨h0, b1⟩, b2⟩, b3⟩, b4⟩ := hb
                have d1 := datT_dp r h2 hd
                obtain ⟨a, rfl⟩ := Dp.seq d1 h0
                obtain ⟨as, k1⟩ := Dp.reads I _ _ _ d1 h4
                obtain rfl : u = .ref a := h4
                exact fun A g1 g2 => fmt_ref k1 b1 b2 g1 (by omega) b4
              · cases hf
            · cases hf
end
end Ma
/-! Ma35: a name whose list nobody changes any more. -/
namespace Ma
open L2 PySem.W PySem.Spec PySem PyProof.Rows
end Ma
/-! Ma36: what a law's head tells: names, defs, classes, exceptions with an own `__init__`. -/
namespace Ma
open L2 PySem.W PySem.Spec PySem PyProof.Rows
abbrev FnI : Type := Option (Arguments × FuncBody × Scope × Addr × List Str × Addr)
/-- an own `__init__`: of which class, its parts -/
structure IniD where
  cls : Str
  params : Arguments
  body : List Stmt
  scope : Scope
def iniAd (K : Frag) (x : Str) : Addr := He.ma K (He.ga K x) "__init__"
def iniW (K : Frag) (x : Str) : FnI := match K.lookup (iniAd K x) with
  | some ⟨_, _, .func fd, _⟩ => some (fd.params, fd.body, fd.scope, fd.globals, fd.closure.map (·.1), fd.builtins)
  | _ => none
def IniD.val (d : IniD) : FnI := some (d.params, .stmts d.body, d.scope, mainGlobals, [("__class__" : Str)], builtinsNs)
abbrev AlM := Bool × List He.FnW × List FnI
def obsM (fa : List He.Fa) (fn : List He.DefD) (ni : List IniD) (ex : Frag → Bool) (K : Frag) : AlM :=
  ((fa.all fun f => f.ok K) && ((fn.all fun d => d.ok K) && ex K), fn.map fun d => He.fnW K d.at_, ni.map fun d => iniW K d.cls)
def valM (fn : List He.DefD) (ni : List IniD) : AlM := (true, fn.map He.DefD.val, ni.map IniD.val)
def SaysM (fa : List He.Fa) (fn : List He.DefD) (ni : List IniD) (ex : Frag → Bool) (K : Frag) : Prop := obsM fa fn ni ex K = valM fn ni
section
variable {fa : List He.Fa} {fn : List He.DefD} {ni : List IniD} {ex : Frag → Bool} {K : Frag}
theorem SaysM.d (c : SaysM fa fn ni ex K) : He.SaysD fa fn K := by
  have h1 : ((fa.all fun f => f.ok K) && ((fn.all fun d => d.ok K) && ex K)) = true := congrArg (fun z : AlM => z.1) c
  have h2 : (fn.map fun d => He.fnW K d.at_) = fn.map He.DefD.val := congrArg (fun z : AlM => z.2.1) c
  obtain ⟨a, b⟩ := Bool.and_eq_true_iff.mp h1
  obtain ⟨b, _⟩ := Bool.and_eq_true_iff.mp b
  show (((fa.all fun f => f.ok K) && fn.all fun d => d.ok K), fn.map fun d => He.fnW K d.at_) = (true, fn.map He.DefD.val)
  rw [h2, a, b]; rfl
theorem SaysM.more (c : SaysM fa fn ni ex K) : ex K = true := by
  have h1 : ((fa.all fun f => f.ok K) && ((fn.all fun d => d.ok K) && ex K)) = true := congrArg (fun z : AlM => z.1) c
  exact (Bool.and_eq_true_iff.mp (Bool.and_eq_true_iff.mp h1).2).2
theorem SaysM.ini (c : SaysM fa fn ni ex K) {d : IniD} (h : d ∈ ni) : iniW K d.cls = d.val := by
  have h2 : (ni.map fun d => iniW K d.cls) = ni.map IniD.val := congrArg (fun z : AlM => z.2.2) c
  obtain ⟨i, hi, e⟩ := List.mem_iff_getElem.mp h
  have h3 : (ni.map fun d => iniW K d.cls)[i]? = (ni.map IniD.val)[i]? := by rw [h2]
  rw [List.getElem?_map, List.getElem?_map, List.getElem?_eq_getElem hi, e] at h3
  exact Option.some.inj h3
end
/-! ### facts of classes as Bools -/
def eqb (a b : Option (Option Value)) : Bool := decide (a = b)
theorem eqb_ok {a b : Option (Option Value)} (h : eqb a b = true) : a = b := of_decide_eq_true h
def exkB (K : Frag) (C : Addr) : Bool := eqb (findIn K (.ref C) "__init__") (some (some (.builtin "ValueError.__init__"))) && (excInitIn K C VE "ValueError.__new__" && keepIn K (.ref C))
theorem exkB_ok {K : Frag} {C : Addr} (h : exkB K C = true) : ExK K C := by
  obtain ⟨h1, h⟩ := Bool.and_eq_true_iff.mp h
  obtain ⟨h2, h3⟩ := Bool.and_eq_true_iff.mp h
  exact ⟨eqb_ok h1, h2, h3⟩
def excB (K : Frag) (C : Addr) : Bool := xfB K C && (eqb (findIn K (.ref C) "__class__") (some (some (.builtin "object.__class__"))) && (eqb (specialIn K (.builtin "object.__class__") "__get__") (some (some (.builtin "getset_descriptor.__get__"))) && (decide (takesIn K (.builtin "object.__class__") = some true) && decide (mroIn K C (.type "object") = some true))))
theorem excB_ok {K : Frag} {C : Addr} (h : excB K C = true) : ExcC K C ∧ XfC K C := by
  obtain ⟨h1, h⟩ := Bool.and_eq_true_iff.mp h
  obtain ⟨h2, h⟩ := Bool.and_eq_true_iff.mp h
  obtain ⟨h3, h⟩ := Bool.and_eq_true_iff.mp h
  obtain ⟨h4, h5⟩ := Bool.and_eq_true_iff.mp h
  have x := xfB_ok h1
  exact ⟨⟨x.ga, x.gg, x.exC, x.hdC, eqb_ok h2, eqb_ok h3, of_decide_eq_true h4, of_decide_eq_true h5⟩, x⟩
def stB (K : Frag) (C : Addr) (f : Str) : Bool := eqb (findIn K (.ref C) "__setattr__") (some (some (.builtin "object.__setattr__"))) && (excOver K C VE && (eqb (takerIn K C f) (some none) && hasDictIn K C))
theorem stB_ok {K : Frag} {C : Addr} {f : Str} (h : stB K C f = true) : StF K C f := by
  obtain ⟨h1, h⟩ := Bool.and_eq_true_iff.mp h
  obtain ⟨h2, h⟩ := Bool.and_eq_true_iff.mp h
  obtain ⟨h3, h4⟩ := Bool.and_eq_true_iff.mp h
  exact ⟨eqb_ok h1, h2, eqb_ok h3, h4⟩
/-! ### exceptions with an own `__init__` -/
def cellB (K : Frag) (cc C : Addr) : Bool := match K.lookup cc with
  | some ⟨_, _, .cell (some (.ref D)), _⟩ => decide (D = C)
  | _ => false
theorem cellB_ok {K : Frag} {cc C : Addr} (h : cellB K cc C = true) : ∃ (cl : Value) (cld : Option Addr) (csl : Array (Option Value)), K.lookup cc = some { cls := cl, dict := cld, data := .cell (some (.ref C)), slots := csl } := by
  unfold cellB at h
  split at h
  · rename_i a b D c e
    rw [of_decide_eq_true h] at e
    exact ⟨_, _, _, e⟩
  · cases h
def fileB (P : Program) (K : Frag) (cda : Addr) : Bool := match K.lookup cda with
  | some ⟨_, _, .fields vs, _⟩ => (match vs[2]? with
    | some (Value.str file _) => P.main.file == file
    | _ => false)
  | _ => false
theorem fileB_ok {P : Program} {K : Frag} {cda : Addr} (h : fileB P K cda = true) : ∃ (ccl : Value) (cdd : Option Addr) (vs : Array Value) (ccs : Array (Option Value)) (file : Str) (tf : Tok), K.lookup cda = some { cls := ccl, dict := cdd, data := .fields vs, slots := ccs } ∧ vs[2]? = some (.str file tf) ∧ (P.main.file == file) = true := by
  unfold fileB at h
  split at h
  · rename_i a b vs c e
    split at h
    · rename_i file tf e2
      exact ⟨_, _, _, _, _, _, e, e2, h⟩
    · cases h
  · cases h
def noneB (v : Value) : Bool := match v with
  | .none => true
  | _ => false
theorem noneB_ok {v : Value} (h : noneB v = true) : v = .none := by
  cases v <;> first | rfl | cases h
def fnB (P : Program) (K : Frag) (C : Addr) (f : Addr) : Bool := match K.lookup f with
  | some ⟨.type c, _, .func fd, _⟩ => decide (c = "function") && (noneB fd.defaults && (codeIn K fd.code fd.qualname && ((match fd.closure with
    | [(_, cc)] => cellB K cc C
    | _ => false) && (match fd.code with
    | .ref cda => fileB P K cda
    | _ => false))))
  | _ => false
structure FnB (P : Program) (K : Frag) (C f : Addr) (fd : FuncData) (cc cda : Addr) : Prop where
  lk : ∃ (od : Option Addr) (osl : Array (Option Value)), K.lookup f = some { cls := .type "function", dict := od, data := .func fd, slots := osl }
  df : fd.defaults = .none
  co : codeIn K fd.code fd.qualname = true
  cl : ∃ n, fd.closure = [(n, cc)]
  cell : ∃ (cl : Value) (cld : Option Addr) (csl : Array (Option Value)), K.lookup cc = some { cls := cl, dict := cld, data := .cell (some (.ref C)), slots := csl }
  cd : fd.code = .ref cda
  file : ∃ (ccl : Value) (cdd : Option Addr) (vs : Array Value) (ccs : Array (Option Value)) (file : Str) (tf : Tok), K.lookup cda = some { cls := ccl, dict := cdd, data := .fields vs, slots := ccs } ∧ vs[2]? = some (.str file tf) ∧ (P.main.file == file) = true
theorem fnB_ok {P : Program} {K : Frag} {C f : Addr} (h : fnB P K C f = true) : ∃ fd cc cda, FnB P K C f fd cc cda := by
  unfold fnB at h
  split at h
  · rename_i c od fd osl e
    obtain ⟨h1, h⟩ := Bool.and_eq_true_iff.mp h
    obtain ⟨h0, h⟩ := Bool.and_eq_true_iff.mp h
    obtain ⟨h2, h⟩ := Bool.and_eq_true_iff.mp h
    obtain ⟨h3, h4⟩ := Bool.and_eq_true_iff.mp h
    rw [of_decide_eq_true h1] at e
    split at h3
    · rename_i n cc e3
      split at h4
      · rename_i cda e4
        exact ⟨fd, cc, cda, ⟨_, _, e⟩, noneB_ok h0, h2, ⟨n, e3⟩, cellB_ok h3, e4, fileB_ok h4⟩
      · cases h4
    · cases h3
  · cases h
def iniB (P : Program) (K : Frag) (C f : Addr) : Bool := eqb (findIn K (.ref C) "__init__") (some (some (.ref f))) && (excInitIn K C VE "ValueError.__new__" && (keepIn K (.ref C) && ((clsIn K C).isSome && (decide (mroIn K C (.ref C) = some true) && (eqb (nsIn K cStatics "thirdparty.any") (some none) && (eqb (ks_superIn K C C "__init__") (some (some (.builtin "ValueError.__init__"))) && (decide (subIn K (.ref C) (.type "ValueError") = some true) && fnB P K C f)))))))
theorem iniB_ok {P : Program} {K : Frag} {x : Str} {mg mb : Str → Option Value} {d : IniD} {ps : List Str} (h : iniB P K (He.ga K x) (iniAd K x) = true) (hw : iniW K x = d.val)
    (top : (P.main.scope.names.lookup ("super" : Str)).isSome = false) (hmg : mg "super" = none) (hmb : mb "super" = some (.type "super"))
    (hk : d.scope.kind = .function) (co : d.scope.isCoroutine = false) (ge : d.scope.isGenerator = false) (s1 : d.scope.names.lookup ("super" : Str) = some NameKind.globalImplicit) (s2 : d.scope.names.lookup ("__class__" : Str) = some NameKind.free)
    (nc : ∀ x ∈ d.scope.names, x.2 ≠ .cell) (lo : ∀ x ∈ ps, d.scope.names.lookup x = some .local)
    (bd : ∀ fd : FuncData, fd.params = d.params → fd.defaults = .none → ∀ us : List Value, us.length = ps.length → bindArgs fd ⟨us, []⟩ = pure (ps.zip us)) :
    keepIn K (.ref (He.ga K x)) = true ∧ ∃ cda cc fd, IniF P K mg mb (He.ga K x) (He.ga K x) cda cc (iniAd K x) fd ps ∧ fd.params = d.params ∧ fd.body = .stmts d.body ∧ fd.scope = d.scope := by
  obtain ⟨h1, h⟩ := Bool.and_eq_true_iff.mp h
  obtain ⟨h2, h⟩ := Bool.and_eq_true_iff.mp h
  obtain ⟨h3, h⟩ := Bool.and_eq_true_iff.mp h
  obtain ⟨h4, h⟩ := Bool.and_eq_true_iff.mp h
  obtain ⟨h5, h⟩ := Bool.and_eq_true_iff.mp h
  obtain ⟨h6, h⟩ := Bool.and_eq_true_iff.mp h
  obtain ⟨h7, h⟩ := Bool.and_eq_true_iff.mp h
  obtain ⟨h8, h9⟩ := Bool.and_eq_true_iff.mp h
  obtain ⟨fd, cc, cda, F⟩ := fnB_ok h9
  obtain ⟨od, osl, lk⟩ := F.lk
  obtain ⟨n, cl⟩ := F.cl
  refine ⟨h3, cda, cc, fd, ?_⟩
  unfold iniW at hw
  rw [lk] at hw
  have hw2 : (some (fd.params, fd.body, fd.scope, fd.globals, fd.closure.map (·.1), fd.builtins) : FnI) = some (d.params, .stmts d.body, d.scope, mainGlobals, [("__class__" : Str)], builtinsNs) := hw
  rw [cl] at hw2
  simp only [Option.some.injEq, Prod.mk.injEq, List.map_cons, List.map_nil, List.cons.injEq, and_true] at hw2
  obtain ⟨w1, w2, w3, w4, w5, w6⟩ := hw2
  have w5' : n = ("__class__" : Str) := w5
  subst w5'
  exact ⟨⟨eqb_ok h1, h2, ⟨_, _, lk⟩, F.co, ⟨Option.isSome_iff_exists.mp h4, of_decide_eq_true h5, eqb_ok h6, eqb_ok h7, of_decide_eq_true h8, F.cell, F.file, top, hmg, hmb⟩,
    by rw [w3]; exact hk, by rw [w3]; exact co, by rw [w3]; exact ge, w4, w6, cl, F.cd, by rw [w3]; exact s1, by rw [w3]; exact s2, by rw [w3]; exact nc, bd fd w1 F.df, by rw [w3]; exact lo⟩, w1, w2, w3⟩
/-! ### own names' addresses -/
def adOf (K : Frag) (cs : List Str) (c : Str) : Option Addr := if cs.contains c then some (He.ga K c) else none
theorem adOf_mem {K : Frag} {cs : List Str} {c : Str} (h : cs.contains c = true) : adOf K cs c = some (He.ga K c) := if_pos h
theorem adOf_at {K : Frag} {cs : List Str} {c : Str} {A : Addr} (h : adOf K cs c = some A) : A = He.ga K c := by
  unfold adOf at h
  split at h
  · exact (Option.some.inj h).symm
  · cases h
/-- the machine's own kinds of values -/
def tys : List String := ["NoneType", "bool", "int", "str", "bytes", "tuple", "list", "dict"]
/-- isinstance by the classes' chains -/
def isiM (mros : List (Str × List Tg)) (bi : List String) : Tg → Tg → Option Bool
  | .own c, .own d => (mros.lookup c).map fun l => l.contains (.own d)
  | .own c, .bi m => if bi.contains m = true then (mros.lookup c).map fun l => l.contains (.bi m) else none
  | .bi n, .own _ => if tys.contains n = true then some false else none
  | .bi n, .bi m => kitB n m
def kitS (K : Frag) (t u : Value) : Option Bool → Bool
  | some b => decide (kitOne K t u = some b)
  | none => true
theorem kitS_ok {K : Frag} {t u : Value} {r : Option Bool} {b : Bool} (h : kitS K t u r = true) (e : r = some b) : kitOne K t u = some b := by
  rw [e] at h
  exact of_decide_eq_true h
def isiB (K : Frag) (cs : List Str) (mros : List (Str × List Tg)) (bi : List String) : Bool :=
  cs.all fun d => (cs.all fun c => kitS K (.ref (He.ga K c)) (.ref (He.ga K d)) (isiM mros bi (.own c) (.own d))) && ((bi.all fun m => kitS K (.ref (He.ga K d)) (.type m) (isiM mros bi (.own d) (.bi m))) && tys.all fun n => kitS K (.type n) (.ref (He.ga K d)) (some false))
theorem isiB_ok {tb : List (Addr × Str)} {K : Frag} {cs : List Str} {mros : List (Str × List Tg)} {bi : List String} (h : isiB K cs mros bi = true) :
    ∀ t u b, isiM mros bi t u = some b → ∀ tv uv, t.At ⟨K, adOf K cs, tb⟩ tv → u.At ⟨K, adOf K cs, tb⟩ uv → kitOne K tv uv = some b := by
  have main : ∀ d, cs.contains d = true → (cs.all fun c => kitS K (.ref (He.ga K c)) (.ref (He.ga K d)) (isiM mros bi (.own c) (.own d))) = true ∧ (bi.all fun m => kitS K (.ref (He.ga K d)) (.type m) (isiM mros bi (.own d) (.bi m))) = true ∧ (tys.all fun n => kitS K (.type n) (.ref (He.ga K d)) (some false)) = true := fun d hd => by
    have h1 := List.all_eq_true.mp h d (List.contains_iff_mem.mp hd)
    obtain ⟨a, b⟩ := Bool.and_eq_true_iff.mp h1
    obtain ⟨b, c⟩ := Bool.and_eq_true_iff.mp b
    exact ⟨a, b, c⟩
  have mem : ∀ {c : Str} {A : Addr}, adOf K cs c = some A → cs.contains c = true := fun {c A} e => by
    unfold adOf at e
    split at e
    · assumption
    · cases e
  intro t u b e tv uv ht hu
  cases t with
  | own c =>
    obtain ⟨A, ha, rfl⟩ := ht
    have ha : adOf K cs c = some A := ha
    obtain ⟨m1, m2, m3⟩ := main c (mem ha)
    rw [adOf_at ha]
    cases u with
    | own d =>
      obtain ⟨D, hd, rfl⟩ := hu
      have hd : adOf K cs d = some D := hd
      obtain ⟨n1, _⟩ := main d (mem hd)
      rw [adOf_at hd]
      exact kitS_ok (List.all_eq_true.mp n1 c (List.contains_iff_mem.mp (mem ha))) e
    | bi m =>
      have hu : uv = .type m := hu
      subst hu
      have e2 := e
      unfold isiM at e2
      dsimp only at e2
      split at e2
      · rename_i hm
        exact kitS_ok (List.all_eq_true.mp m2 m (List.contains_iff_mem.mp hm)) e
      · cases e2
  | bi n =>
    have ht : tv = .type n := ht
    subst ht
    cases u with
    | own d =>
      obtain ⟨D, hd, rfl⟩ := hu
      have hd : adOf K cs d = some D := hd
      obtain ⟨_, _, n3⟩ := main d (mem hd)
      rw [adOf_at hd]
      unfold isiM at e
      dsimp only at e
      split at e
      · rename_i hn
        exact kitS_ok (List.all_eq_true.mp n3 n (List.contains_iff_mem.mp hn)) e
      · cases e
    | bi m =>
      have hu : uv = .type m := hu
      subst hu
      exact kit_ty e
end Ma
/-! Ma37: a class's method in the text; the parts of super().__init__(..). -/
namespace Ma
open L2 PySem.W PySem.Spec PySem PyProof.Rows
def clsMeth (s : Stmt) (j : Nat) : Stmt := match s with
  | .ClassDef _ _ _ b _ _ _ _ _ _ _ => b.getD j (.Pass ⟨0, 0, 0, 0⟩)
  | _ => .Pass ⟨0, 0, 0, 0⟩
def jsOf (s : Stmt) : Expr := match defBody s with
  | .Expr (.Call _ (js :: _) _ _) _ :: _ => js
  | _ => .Name "" ⟨0, 0, 0, 0⟩
def rp (s : Stmt) (k : Nat) : Pos := match defBody s with
  | .Expr (.Call (.Attribute (.Call (.Name _ p0) _ _ p1) _ p2) _ _ p3) p4 :: _ => [p0, p1, p2, p3, p4].getD k ⟨0, 0, 0, 0⟩
  | _ => ⟨0, 0, 0, 0⟩
theorem hself_of {fd : FuncData} {p : Arguments} {sf : Str} (e : fd.params = p) (h : ((p.posonlyargs ++ p.args).head?).map (·.arg) = some sf) : ∃ ar, (fd.params.posonlyargs ++ fd.params.args).head? = some ar ∧ ar.arg = sf := by
  rw [e]
  cases q : (p.posonlyargs ++ p.args).head? with
  | none => rw [q] at h; cases h
  | some ar => rw [q] at h; exact ⟨ar, rfl, Option.some.inj h⟩
end Ma
/-! Ma38: operators of own instances. -/
namespace Ma
open L2 PySem.W PySem.Spec PySem PyProof.Rows
theorem RoomG.in1 {k : Nat} {A : Around} (r : RoomG (k + 1) A) : RoomG k A.in1 := ⟨r.toRoom.in1, r.gs⟩
section
variable {C : MC} {g g1 : Gh} {H H1 : Hp} {s : MS} {σ : L2.St} {ea eb ex : Expr} {es : List Expr} {a b : ME} {ma : MA} {pos p : Pos} {x c name f : Str} {k : Nat} {F : Fn} {pins : List (Addr × Obj)} {sh : Shared}
/-- an instance in a box, on the heap -/
theorem ins_at {n : Nat} {fms : List (Str × M)} {v : V} (I : Inv C.X pins σ H sh) (r : C.rel g s σ H) (hc : s.hp[n]? = some (.ins c fms)) (rv : RV C.T g H (.box n) v) :
    ∃ a A dx fvs od ox, v = .ref a ∧ C.T.ad c = some A ∧ H a = some (.ins A dx fvs) ∧ RFs C.T g H fms fvs ∧ g.ro[n]? = some a ∧ InstAt sh.heap a ox A (some od) := by
  obtain ⟨p, rfl, hp, A, dx, fvs, ad, e, rf⟩ := r.cellAt hc rv
  obtain ⟨mA, J, _⟩ := ins_get I.hok e
  obtain ⟨od, J, _⟩ := J.look
  exact ⟨p, A, dx, fvs, _, _, rfl, ad, e, rf, hp, J⟩
/-- the class of a value -/
def isIns (c : Str) (x : M) (s : MS) : Bool := match x with
  | .box n => match s.hp[n]? with
    | some (.ins c' _) => c' == c
    | _ => false
  | _ => false
theorem isIns_of {c : Str} {x : M} {s : MS} (h : isIns c x s = true) : ∃ n fms, x = .box n ∧ s.hp[n]? = some (.ins c fms) := by
  unfold isIns at h
  split at h
  · split at h
    · rename_i c' fms e
      rw [beq_iff_eq.mp h] at e
      exact ⟨_, _, rfl, e⟩
    · cases h
  · cases h
/-- a result, looked at -/
def upP (post : M → Option M) (r : Res M) : Res M := match r with
  | .ok m s => match post m with
    | some m' => .ok m' s
    | none => .stuck
  | .err x s => .err x s
  | .stuck => .stuck
def pBl : M → Option M
  | .bl b => some (.bl b)
  | _ => none
def pNot : M → Option M
  | .bl b => some (.bl (!b))
  | _ => none
def pNat : M → Option M
  | .int i => if 0 ≤ i ∧ i < 9223372036854775808 then some (.int i) else none
  | _ => none
def oDun (c : Str) (F : Fn) (o : M → M → MS → Res M) : M → M → MS → Res M := fun x y s => if isIns c x s = true then upF s.env (F [x, y] s.hp) else o x y s
/-- with the operands the other way, the answer looked at -/
def oDunR (c : Str) (F : Fn) (post : M → Option M) (o : M → M → MS → Res M) : M → M → MS → Res M := fun x y s => if isIns c y s = true then upP post (upF s.env (F [y, x] s.hp)) else o x y s
end
end Ma
/-! Ma39: x[k] of lists, dicts, own instances. -/
namespace Ma
open L2 PySem.W PySem.Spec PySem PyProof.Rows
section
variable {κ β : Type} [DecidableEq κ]
def valG (kvs : List (κ × β)) (k : κ) : Option β := (kvs.find? fun kv => decide (kv.1 = k)).map (·.2)
def putG (kvs : List (κ × β)) (k : κ) (v : β) : List (κ × β) := if (kvs.any fun kv => decide (kv.1 = k)) = true then kvs.map (fun kv => if kv.1 = k then (kv.1, v) else kv) else kvs ++ [(k, v)]
end
section
variable {C : MC} {g g1 : Gh} {H H1 : Hp} {s : MS} {σ : L2.St} {ea eb ex : Expr} {es : List Expr} {a b : ME} {ma : MA} {pos p : Pos} {x c name f : Str} {k : Nat} {F : Fn} {pins : List (Addr × Obj)} {sh : Shared} {T : Tab}
theorem RFs.valG {κ : Type} [DecidableEq κ] {fs : List (κ × M)} {vs : List (κ × V)} (r : RFs T g H fs vs) (k : κ) : (∃ m v, Ma.valG fs k = some m ∧ valV vs k = some v ∧ RV T g H m v) ∨ (Ma.valG fs k = none ∧ valV vs k = none) := by
  induction r with
  | nil => exact .inr ⟨rfl, rfl⟩
  | @cons j m v fs vs q t ih =>
    by_cases e : j = k
    · exact .inl ⟨m, v, by simp [Ma.valG, List.find?_cons, e], by simp [valV, List.find?_cons, e], q⟩
    · have e1 : Ma.valG ((j, m) :: fs) k = Ma.valG fs k := by simp [Ma.valG, List.find?_cons, e]
      have e2 : valV ((j, v) :: vs) k = valV vs k := by simp [valV, List.find?_cons, e]
      rw [e1, e2]
      exact ih
theorem RFs.any {κ : Type} [DecidableEq κ] {fs : List (κ × M)} {vs : List (κ × V)} (r : RFs T g H fs vs) (k : κ) : (fs.any fun kv => decide (kv.1 = k)) = (vs.any fun kv => decide (kv.1 = k)) := by
  induction r with
  | nil => rfl
  | cons q t ih => rw [List.any_cons, List.any_cons, ih]
theorem RFs.repl {κ : Type} [DecidableEq κ] {fs : List (κ × M)} {vs : List (κ × V)} {m : M} {v : V} (r : RFs T g H fs vs) (k : κ) (rv : RV T g H m v) : RFs T g H (fs.map fun kv => if kv.1 = k then (kv.1, m) else kv) (vs.map fun kv => if kv.1 = k then (kv.1, v) else kv) := by
  induction r with
  | nil => exact .nil
  | @cons j m' v' fs vs q t ih =>
    rw [List.map_cons, List.map_cons]
    by_cases e : j = k
    · dsimp only
      rw [if_pos e, if_pos e]
      exact .cons rv ih
    · dsimp only
      rw [if_neg e, if_neg e]
      exact .cons q ih
theorem RFs.append {κ : Type} {fs fs' : List (κ × M)} {vs vs' : List (κ × V)} (r : RFs T g H fs vs) (r' : RFs T g H fs' vs') : RFs T g H (fs ++ fs') (vs ++ vs') := by
  induction r with
  | nil => exact r'
  | cons q t ih => exact .cons q ih
theorem RFs.put {κ : Type} [DecidableEq κ] {fs : List (κ × M)} {vs : List (κ × V)} {m : M} {v : V} (r : RFs T g H fs vs) (k : κ) (rv : RV T g H m v) : RFs T g H (putG fs k m) (putK vs k v) := by
  unfold putG putK
  rw [r.any k]
  split
  · exact r.repl k rv
  · exact r.append (.cons rv .nil)
/-- a key of a dict -/
def keyM : M → Option Key
  | .int i => some (.inl i)
  | .str z => some (.inr z)
  | _ => none
theorem keyM_at {m : M} {k : Key} {v : V} (h : keyM m = some k) (r : RV T g H m v) : v = kV k := by
  cases m <;> first | cases h | skip
  · cases r; rfl
  · cases r; rfl
/-- a dict in a box, to be changed -/
def dictL (hp : List Cell) (x : M) : Option (List (Key × M)) := match x with
  | .box n => match hp[n]? with
    | some (.dK kms) => some kms
    | _ => none
  | _ => none
theorem dictL_at {x : M} {kms : List (Key × M)} {v : V} (r : C.rel g s σ H) (h : dictL s.hp x = some kms) (rv : RV C.T g H x v) : ∃ n a kvs, x = .box n ∧ s.hp[n]? = some (.dK kms) ∧ v = .ref a ∧ g.ro[n]? = some a ∧ H a = some (.dK kvs) ∧ RFs C.T g H kms kvs := by
  unfold dictL at h
  split at h
  · rename_i n
    split at h
    · rename_i kms' e
      cases h
      obtain ⟨a, rfl, hp, kvs, e2, rf⟩ := r.cellAt e rv
      exact ⟨n, a, kvs, rfl, e, rfl, hp, e2, rf⟩
    · cases h
  · cases h
/-- a dict in a box, to be read -/
def dictOf (hp : List Cell) (x : M) : Option (List (Key × M)) := match x with
  | .box n => match hp[n]? with
    | some (.dK kms) => some kms
    | some (.dF kms) => some kms
    | _ => none
  | _ => none
theorem dictOf_at {x : M} {kms : List (Key × M)} {v : V} (r : C.rel g s σ H) (h : dictOf s.hp x = some kms) (rv : RV C.T g H x v) : ∃ n a kvs, x = .box n ∧ v = .ref a ∧ g.ro[n]? = some a ∧ Rd H a (.dK kvs) ∧ RFs C.T g H kms kvs := by
  unfold dictOf at h
  split at h
  · rename_i n
    split at h
    · rename_i kms' e
      cases h
      obtain ⟨a, rfl, hp, kvs, e2, rf⟩ := r.cellAt e rv
      exact ⟨n, a, kvs, rfl, rfl, hp, .inl e2, rf⟩
    · rename_i kms' e
      cases h
      obtain ⟨a, rfl, hp, o, kvs, e2, rf⟩ := r.cellAt e rv
      exact ⟨n, a, kvs, rfl, rfl, hp, .inr ⟨_, e2⟩, rf⟩
    · cases h
  · cases h
/-- a subscription's tail, its ground -/
def IxG (C : MC) (o : M → M → MS → Res M) : Prop :=
  ∀ (value slice : Expr) (pins : List (Addr × Obj)) (sh : Shared) (σ : L2.St) (H : Hp) (g : Gh) (ms : MS) (m1 m2 : M) (x y : V) (v u : Value) (Q : VK), Inv C.X pins σ H sh → C.rel g ms σ H → RV C.T g H m1 x → RV C.T g H m2 y → RelV x v → RelV y u →
    subscripted slice false v u = operate [v, u] (getItem v u) → subscripted slice true v u = runValue (.builtin "lifetime.subscript" ⟨[v, u], []⟩) → Go C C.V1 σ (o m1 m2 ms) g H Q → wpAny (model C.X.prog C.X.w) C.X.A (subscriptTail value slice v u) (EP C.X pins σ Q) C.X.xe sh
theorem ixG_seq : IxG C oIx := fun value slice pins sh σ H g ms m1 m2 x y v u Q I r r1 r2 l1 l2 h1 _ q => ix_seq value slice pins sh σ H x y v u Q I l1 l2 (oIx_at q r r1 r2) h1
/-- d[k] -/
def oIxD (o : M → M → MS → Res M) (x y : M) (s : MS) : Res M := match dictOf s.hp x with
  | some kms => match keyM y with
    | some k => match valG kms k with
      | some m => .ok m s
      | none => .stuck
    | none => .stuck
  | none => o x y s
theorem subT {prog : Program} {w : World} {A : Around} {E : Value → Shared → Prop} {s : Shared} {value slice : Expr} {o i : Value} {T id : String} {Q : Value → Shared → Prop} (hT : s.TypeIs o T)
    (hl : typeLookup (.type T) "__getitem__" = pure (some (.builtin id))) (hs : subscripted slice false o i = operate [o, i] (getItem o i)) (h : wpAny (model prog w) A (getItem o i) Q E s) : wpAny (model prog w) A (subscriptTail value slice o i) Q E s := by
  unfold subscriptTail
  refine wpAny_bind ?_
  rw [getitemInPython_of_ne hT.not_modules]
  refine wpAny_bind (wpAny_specialOf hT hl ?_)
  have fin : wpAny (model prog w) A (subscripted slice false o i) (fun r s₃ => wpAny (model prog w) A (letTemporaryGo value o r >>= fun _ => pure r) Q E s₃) E s := by
    rw [hs]
    exact wpAny_operating (wpAny_mono h (fun r s₃ h₃ => wpAny_bind (wpAny_letTemporaryGo (wpAny_pure h₃))) fun _ _ x => x)
  first
    | exact wpAny_pure (wpAny_bind fin)
    | exact wpAny_bind (wpAny_pure (wpAny_bind fin))
    | exact wpAny_bind fin
theorem ixG_dict {o : M → M → MS → Res M} (hu : C.X.A.units + 1 < cLine) (h : IxG C o) : IxG C (oIxD o) := by
  intro value slice pins sh σ H g ms m1 m2 x y v u Q I r r1 r2 l1 l2 h1 h2 q
  unfold oIxD at q
  split at q
  · rename_i kms hd
    split at q
    · rename_i ky hk
      split at q
      · rename_i m hm
        obtain ⟨n, a, kvs, rfl, rfl, hro, e, rf⟩ := dictOf_at r hd r1
        cases (show v = Value.ref a from l1)
        have ey := keyM_at hk r2
        subst ey
        rcases rf.valG ky with ⟨m', vv, e1, e2, rv⟩ | ⟨e1, _⟩
        · rw [hm] at e1
          cases e1
          have gt : DGet H a (kV ky) (some vv) := .inl ⟨kvs, ky, e, rfl, e2.symm⟩
          exact subT (dict_typeIs I gt) PySem.F.slot_dict_getitem.lookup h1 (d_getItem hu I gt l2 fun w' s' I' rw' => ⟨vv, H, I', rw', q.ret r rv⟩)
        · rw [hm] at e1; cases e1
      · exact q.elim
    · exact q.elim
  · exact h value slice pins sh σ H g ms m1 m2 x y v u Q I r r1 r2 l1 l2 h1 h2 q
def PlainIx2 (b : Expr) : Prop := (∀ o i, subscripted b false o i = operate [o, i] (getItem o i)) ∧ ∀ o i, subscripted b true o i = runValue (.builtin "lifetime.subscript" ⟨[o, i], []⟩)
theorem em_ixG {o : M → M → MS → Res M} (ho : IxG C o) (ha : PMe C ea a) (hb : PMe C eb b) (hs : PlainIx2 eb) : PMe C (.Subscript ea eb pos) (m2 o a b) := by
  refine ⟨fun pins sh σ H Q I h => Subscript_ ?_⟩
  exact both ha hb I h fun v u s2 x y H2 g2 ms m1 m2 I2 r2 rv1 rv2 l1 l2 q => ho ea eb pins s2 σ H2 g2 ms m1 m2 x y v u Q I2 r2 rv1 rv2 l1 l2 (hs.1 _ _) (hs.2 _ _) q
end
end Ma
/-! Ma40: stores at a place, in, calls of built-in functions, of dicts and own instances. -/
namespace Ma
open L2 PySem.W PySem.Spec PySem PyProof.Rows
section
variable {C : MC} {g g1 : Gh} {H H1 : Hp} {s : MS} {σ : L2.St} {ea eb ex eo ei : Expr} {es : List Expr} {a b : ME} {ma : MA} {pos p : Pos} {x c name f : Str} {k : Nat} {F : Fn} {pins : List (Addr × Obj)} {sh : Shared} {T : Tab}
/-! ### x[k] = w -/
def GoU (C : MC) (σ : L2.St) (r : Res Unit) (g : Gh) (H : Hp) (Q : Hp → Prop) : Prop := match r with
  | .ok _ s1 => ∀ (g' : Gh) (H' : Hp), Mono g H g' H' → C.rel g' s1 σ H' → Q H'
  | .err x s1 => ∀ (g' : Gh) (H' : Hp) (cls : Value) (d : Option Addr), Mono g H g' H' → C.rel g' s1 σ H' → XR C.T g' H' x cls d → C.W cls d σ H'
  | .stuck => False
def SetG (C : MC) (f : FSet) : Prop :=
  ∀ (pins : List (Addr × Obj)) (sh : Shared) (σ : L2.St) (H : Hp) (g : Gh) (s : MS) (m k w : M) (x y z : V) (v i u : Value) (Q : Hp → Prop), Inv C.X pins σ H sh → C.rel g s σ H → RV C.T g H m x → RV C.T g H k y → RV C.T g H w z → RelV x v → RelV y i → RelV z u →
    GoU C σ (f m k w s) g H Q → wpAny (model C.X.prog C.X.w) C.X.A (setItem v i u) (fun _ s' => ∃ H', Inv C.X pins σ H' s' ∧ Q H') C.X.xe sh
theorem setG_of {t : TSet} {f : FSet} (hs : PSet C.X t) (hf : SetOk C t f) (hf2 : ∀ x k w s e s1, f x k w s ≠ .err e s1) : SetG C f := fun pins sh σ H g s m k w x y z v i u Q I r r1 r2 r3 l1 l2 l3 q => by
  refine hs pins sh σ H x y z v i u Q I l1 l2 l3 (hf σ H g s m k w x y z Q r r1 r2 r3 ?_)
  unfold GoU at q
  cases h : f m k w s with
  | stuck => rw [h] at q; exact q.elim
  | err e s1 => exact (hf2 _ _ _ _ _ _ h).elim
  | ok u s1 => rw [h] at q; exact q
theorem setG_list (hc : PSet C.X rSetL) : SetG C fSetL := setG_of hc ok_setL fSetL_ne
theorem gm_subG {f : FSet} (hf : SetG C f) (ho : PMe C eo a) (hi : PMe C ei b)
    (ha : ∀ v, assign (.Subscript eo ei pos) C.X.env v = (do
      let ov ← PySem.holding [v] (eval eo C.X.env)
      let iv ← PySem.holding [v, ov] (eval ei C.X.env)
      standAt pos
      PySem.holding [v, ov, iv] (setItem ov iv v)
      release [v, ov, iv] []) := by intro _; rfl) : PMg C (.Subscript eo ei pos) (gSub a b f) := by
  refine ⟨fun pins sh σ H z u Q I rz ⟨g, s, w, r, rv, q⟩ => ?_⟩
  rw [ha]
  unfold gSub at q
  have q1 : Go C C.V1 σ (a s) g H fun x H1 => ∃ m s1 g1, Mono g H g1 H1 ∧ C.rel g1 s1 σ H1 ∧ RV C.T g1 H1 m x ∧ (match (b s1).bind fun k s2 => f m k w s2 with
      | .ok _ s1 => ∀ (g' : Gh) (H' : Hp) (σ' : L2.St), Mono g H g' H' → C.rel g' s1 σ' H' → Q σ' H'
      | .err x s1 => ∀ (g' : Gh) (H' : Hp) (cls : Value) (d : Option Addr), Mono g H g' H' → C.rel g' s1 σ H' → XR C.T g' H' x cls d → C.W cls d σ H'
      | .stuck => False) := by
    cases h1 : a s with
    | stuck => rw [h1] at q; exact q.elim
    | err e s1 => rw [h1] at q; exact q
    | ok m s1 => rw [h1] at q; exact fun g' H' x mo r' rv' => ⟨m, s1, g', mo, r', rv', q⟩
  refine wpAny_bind (wpAny_holding (thn (ho.run pins sh σ H _ I ⟨g, s, r, q1⟩) fun ov s1 ⟨x, H1, I1, l1, m, ms1, g1, mo1, r1, rm, q2⟩ => ?_))
  have q3 : Go C C.V1 σ (b ms1) g1 H1 fun y H2 => ∃ k s2 g2, Mono g1 H1 g2 H2 ∧ C.rel g2 s2 σ H2 ∧ RV C.T g2 H2 k y ∧ (match f m k w s2 with
      | .ok _ s1 => ∀ (g' : Gh) (H' : Hp) (σ' : L2.St), Mono g H g' H' → C.rel g' s1 σ' H' → Q σ' H'
      | .err x s1 => ∀ (g' : Gh) (H' : Hp) (cls : Value) (d : Option Addr), Mono g H g' H' → C.rel g' s1 σ H' → XR C.T g' H' x cls d → C.W cls d σ H'
      | .stuck => False) := by
    cases h2 : b ms1 with
    | stuck => rw [h2] at q2; exact q2.elim
    | err e s2 => rw [h2] at q2; exact fun g' H' cls d mo => q2 g' H' cls d (mo1.trans mo)
    | ok k s2 => rw [h2] at q2; exact fun g' H' y mo r' rv' => ⟨k, s2, g', mo, r', rv', q2⟩
  refine wpAny_bind (wpAny_holding (thn (hi.run pins s1 σ H1 _ I1 ⟨g1, ms1, r1, q3⟩) fun iv s2 ⟨y, H2, I2, l2, k, ms2, g2, mo2, r2, rk, q4⟩ => ?_))
  have mo12 := mo1.trans mo2
  have q5 : GoU C σ (f m k w ms2) g2 H2 fun H' => Q σ H' := by
    unfold GoU
    cases h3 : f m k w ms2 with
    | stuck => rw [h3] at q4; exact q4.elim
    | err e s3 => rw [h3] at q4; exact fun g' H' cls d mo => q4 g' H' cls d (mo12.trans mo)
    | ok u s3 => rw [h3] at q4; exact fun g' H' mo r' => q4 g' H' σ (mo12.trans mo) r'
  refine wpAny_bind (wpAny_standAt (wpAny_bind (wpAny_holding (thn (hf pins s2 σ H2 g2 ms2 m k w x y z ov iv u _ I2 r2 (rm.mono mo2) rk (rv.mono mo12) l1 l2 rz q5) fun _ s3 ⟨H3, I3, q6⟩ => ?_))))
  exact wpAny_release ⟨σ, H3, I3, q6⟩
/-- d[k] = w -/
def fSetD (o : FSet) : FSet := fun x y w s => match dictL s.hp x with
  | some kms => match keyM y with
    | some k => if kms.length < big then (match x with
      | .box n => .ok () ⟨s.env, s.hp.set n (.dK (putG kms k w))⟩
      | _ => .stuck) else .stuck
    | none => .stuck
  | none => o x y w s
theorem setG_dict {o : FSet} (hu : C.X.A.units + 1 < cLine) (h : SetG C o) : SetG C (fSetD o) := fun pins sh σ H g s m k w x y z v i u Q I r r1 r2 r3 l1 l2 l3 q => by
  unfold fSetD at q
  split at q
  · rename_i kms hd
    split at q
    · rename_i ky hk
      by_cases hl : kms.length < big
      · rw [if_pos hl] at q
        obtain ⟨n, a, kvs, rfl, hc, rfl, hro, e, rf⟩ := dictL_at r hd r1
        cases (show v = Value.ref a from l1)
        have ey := keyM_at hk r2
        subst ey
        dsimp only at q
        obtain ⟨r4, mo⟩ := Rel.poke (c' := .dK (putG kms ky w)) (o := .dK (putK kvs ky z)) r hc hro trivial (fun ws z => by rw [e] at z; cases z) fun g' mo => ⟨_, upd_same, (rf.put ky r3).mono mo⟩
        have hz : kvs.length < sizeLine := by
          have e1 := rf.length
          have e3 : big ≤ sizeLine := by decide +kernel
          omega
        exact d_setItem hu I (.k e hz) l2 l3 fun s' I' => ⟨_, I', q g _ mo r4⟩
      · rw [if_neg hl] at q; exact q.elim
    · exact q.elim
  · exact h pins sh σ H g s m k w x y z v i u Q I r r1 r2 r3 l1 l2 l3 q
/-- x[k] = w of an own instance -/
def fSetI (c : Str) (F : Fn) (o : FSet) : FSet := fun x y w s => if isIns c x s = true then (upF s.env (F [x, y, w] s.hp)).bind fun _ s1 => .ok () s1 else o x y w s
/-! ### in -/
def oInD (neg : Bool) (o : M → M → MS → Res M) (x y : M) (s : MS) : Res M := match dictOf s.hp y with
  | some kms => match keyM x with
    | some k => .ok (.bl (if neg then !(valG kms k).isSome else (valG kms k).isSome)) s
    | none => .stuck
  | none => o x y s
theorem valG_some {kms : List (Key × M)} {kvs : List (Key × V)} (rf : RFs T g H kms kvs) (ky : Key) : (valV kvs ky).isSome = (valG kms ky).isSome := by
  rcases rf.valG ky with ⟨m', vv, e1, e2, rv⟩ | ⟨e1, e2⟩
  · rw [e1, e2]; rfl
  · rw [e1, e2]; rfl
theorem op_inD {o : M → M → MS → Res M} (hu : C.X.A.units + 1 < cLine) (h : Op2Ok C (compareOp .In) o) : Op2Ok C (compareOp .In) (oInD false o) := by
  intro pins sh σ H g ms m1 m2 x y v u Q I r r1 r2 l1 l2 q
  unfold oInD at q
  split at q
  · rename_i kms hd
    split at q
    · rename_i ky hk
      obtain ⟨n, a, kvs, rfl, rfl, hro, e, rf⟩ := dictOf_at r hd r2
      cases (show u = Value.ref a from l2)
      have ey := keyM_at hk r1
      subst ey
      refine d_in hu I (.inl ⟨kvs, ky, e, rfl, rfl⟩) l1 fun s' I' => ⟨.bl (valV kvs ky).isSome, H, I', rfl, ?_⟩
      rw [valG_some rf ky]
      exact q.ret r (.bl _)
    · exact q.elim
  · exact h pins sh σ H g ms m1 m2 x y v u Q I r r1 r2 l1 l2 q
/-! ### calls of built-in functions by their ground -/
def CallG (C : MC) (v : Value) (o : List M → MS → Res M) : Prop :=
  ∀ (pins : List (Addr × Obj)) (sh : Shared) (σ : L2.St) (H : Hp) (g : Gh) (s : MS) (ms : List M) (xs : List V) (us : List Value) (Q : VK), Inv C.X pins σ H sh → C.rel g s σ H → RVs C.T g H ms xs → Vals xs us →
    Go C C.V1 σ (o ms s) g H Q → wpAny (model C.X.prog C.X.w) C.X.A (call v us) (EP C.X pins σ Q) C.X.xe sh
theorem CallG.of {v : Value} {r : RC} {o : List M → MS → Res M} (hc : CallR C.X v r) (ho : CallOk C r o) : CallG C v o := fun pins sh σ H g s ms xs us Q I r rs rv q => hc pins sh σ H xs us Q I rv (ho σ H g s ms xs Q r rs q)
theorem rdA_call {o : List M → MS → Res M} {Q : VK} (h : rdE C (mCall ma o) σ H Q) : rdA C ma σ H fun xs H1 => ∃ ms s1 g1, C.rel g1 s1 σ H1 ∧ RVs C.T g1 H1 ms xs ∧ Go C C.V1 σ (o ms s1) g1 H1 Q := rdA_bind h
theorem em_callG {id : String} {o : List M → MS → Res M} (hc : CallG C (.builtin id) o) (hm : C.X.mg x = none) (ha : PMa C (ex :: es) ma) (hv : bootBuiltins x = some (.builtin id) := by first | rfl | decide +kernel) (hg : Gl C.X x := by rfl) (hn : x ≠ "__name__" := by decide)
    (hdb : (x == ("__debug__" : Str)) = false := by decide) (he : starEach (ex :: es) C.X.env = (false, eval ex C.X.env) :: starEach es C.X.env := by rfl) (hpl : (backTo pos (starEach es C.X.env)).any (·.1) = false := by rfl) :
    PMe C (.Call (.Name x p) (ex :: es) [] pos) (mCall ma o) := by
  refine ⟨fun pins sh σ H Q I h => ?_⟩
  refine wpAny_Call_Name_kw (ld_blt I hg hm hv ?_ hn hdb)
  exact PyProof.Rows.callWith_builtin1 (thn (ha.run pos pins sh σ H _ I (rdA_call h)) fun us s1 ⟨vs, H1, I1, rv, ms, s2, g1, r1, rs, q1⟩ => hc pins s1 σ H1 g1 s2 ms vs us Q I1 r1 rs rv q1) he hpl
/-- len of a dict -/
def cLenD (o : List M → MS → Res M) (ms : List M) (s : MS) : Res M := match ms with
  | [x] => match dictOf s.hp x with
    | some kms => .ok (.int kms.length) s
    | none => o ms s
  | _ => o ms s
theorem callG_lenD {o : List M → MS → Res M} (h : CallG C (.builtin "len") o) : CallG C (.builtin "len") (cLenD o) := fun pins sh σ H g s ms xs us Q I r rs rv q => by
  unfold cLenD at q
  split at q
  · rename_i x
    split at q
    · rename_i kms hd
      cases rs with
      | cons r1 r2 =>
        cases r2
        obtain ⟨n, a, kvs, rfl, rfl, hro, e, rf⟩ := dictOf_at r hd r1
        obtain ⟨u, rfl, l1⟩ := rv.one
        cases (show u = Value.ref a from l1)
        refine d_len I e fun t s' I' => ⟨.int kvs.length, H, I', ⟨_, rfl⟩, ?_⟩
        rw [← rf.length]
        exact q.ret r (.int _)
    · exact h pins sh σ H g s _ xs us Q I r rs rv q
  · exact h pins sh σ H g s ms xs us Q I r rs rv q
/-- len, repr of an own instance -/
def cDun (c : Str) (F : Fn) (post : M → Option M) (o : List M → MS → Res M) (ms : List M) (s : MS) : Res M := match ms with
  | [x] => if isIns c x s = true then upP post (upF s.env (F [x] s.hp)) else o ms s
  | _ => o ms s
end
end Ma
/-! Ma41: == and != by an own `__eq__`. -/
namespace Ma
open L2 PySem.W PySem.Spec PySem PyProof.Rows
end Ma
/-! Ma42: comparisons, + and -, properties of own instances in the machine. -/
namespace Ma
open L2 PySem.W PySem.Spec PySem PyProof.Rows
section
variable {C : MC} {g g1 : Gh} {H H1 : Hp} {s : MS} {σ : L2.St} {ea eb ex eo ei : Expr} {es : List Expr} {a b : ME} {ma : MA} {pos p : Pos} {x c name f : Str} {k : Nat} {F : Fn} {pins : List (Addr × Obj)} {sh : Shared} {T : Tab}
/-- the built-in type of a value -/
def biOf (hp : List Cell) : M → Option String
  | .non => some "NoneType"
  | .bl _ => some "bool"
  | .int _ => some "int"
  | .str _ => some "str"
  | .byt _ => some "bytes"
  | .tup _ => some "tuple"
  | .lst _ => some "list"
  | .dct _ _ => some "dict"
  | .box n => match hp[n]? with
    | some (.lst _) => some "list"
    | some (.dK _) => some "dict"
    | _ => none
  | _ => none
/-- the type of a value, an own class or a built-in type -/
def tyAt (hp : List Cell) (m : M) : Option Tg := match m with
  | .box n => match hp[n]? with
    | some (.ins c _) => some (.own c)
    | _ => (biOf hp (.box n)).map .bi
  | m => (biOf hp m).map .bi
def tin (ts : List Tg) (t : Option Tg) : Bool := match t with
  | some t => ts.contains t
  | none => false
/-- x op y of own instances whose class has the def for it -/
def oDunC (c : Str) (F : Fn) (ts : List Tg) (o : M → M → MS → Res M) : M → M → MS → Res M := fun x y s => if isIns c x s = true then (if tin ts (tyAt s.hp y) = true then upF s.env (F [x, y] s.hp) else .stuck) else o x y s
def oDunN (c : Str) (F : Fn) (ts : List Tg) (o : M → M → MS → Res M) : M → M → MS → Res M := fun x y s => if isIns c x s = true then (if tin ts (tyAt s.hp y) = true then upP pNot (upF s.env (F [x, y] s.hp)) else .stuck) else o x y s
/-! ### x.f, a property -/
structure PrK (T : Tab) (c f : Str) (P : Program) (w : World) (mg : Str → Option Value) (base : Heap) (k : Nat) (F : Fn) : Prop where
  ex : ∀ A, T.ad c = some A → Cls T.K A ∧ ∃ p fa : Addr, PropOf T.K A f p fa ∧ FnP P w mg base T k fa F
/-- getAttr's ground -/
def AtG (C : MC) (f : Str) (o : M → MS → Res M) : Prop :=
  ∀ (pins : List (Addr × Obj)) (sh : Shared) (σ : L2.St) (H : Hp) (g : Gh) (s : MS) (m : M) (x : V) (v : Value) (Q : VK), Inv C.X pins σ H sh → C.rel g s σ H → RV C.T g H m x → RelV x v →
    Go C C.V1 σ (o m s) g H Q → wpAny (model C.X.prog C.X.w) C.X.A (getAttr v f true) (EP C.X pins σ Q) C.X.xe sh
theorem em_atG {o : M → MS → Res M} (ho : AtG C f o) (h : PMe C ex a) (hb : attributeBase ex f C.X.env (eval ex C.X.env) = eval ex C.X.env := by rfl) : PMe C (.Attribute ex f pos) (fun s => (a s).bind o) := by
  refine ⟨fun pins sh σ H Q I q => attr_of hb (thn (h.run pins sh σ H _ I (rdE_bind q)) fun u s1 hh => ?_)⟩
  obtain ⟨x, H1, I1, l1, m, s2, g1, r1, rv, q1⟩ := hh
  exact ho pins s1 σ H1 g1 s2 m x u Q I1 r1 rv l1 q1
def noErr (r : Res M) : Res M := match r with
  | .err _ _ => .stuck
  | r => r
theorem sp_upN {Q : VK} {args : List M} {vs : List V} (r : C.rel g s σ H) (rs : RVs C.T g H args vs) (h : Go C C.V1 σ (noErr (upF s.env (F args s.hp))) g H Q) : spP C.T F vs H Q fun _ _ _ => False := by
  refine ⟨g, s.hp, args, r.h.self, rs, ?_⟩
  cases hf : F args s.hp with
  | stuck => rw [hf] at h; exact h.elim
  | ok m hp => rw [hf] at h; exact fun g' H' v rl rv => h g' H' v rl.m0 (r.env rl.m0 (r.h.comp rl)) rv
  | err x hp => rw [hf] at h; exact h.elim
def oPrp (c : Str) (F : Fn) (o : M → MS → Res M) (x : M) (s : MS) : Res M := if isIns c x s = true then noErr (upF s.env (F [x] s.hp)) else o x s
theorem atG_none : AtG C f (fun _ _ => .stuck) := fun _ _ _ _ _ _ _ _ _ _ _ _ _ _ q => q.elim
theorem atG_prp {o : M → MS → Res M} (P1 : PrK C.T c f C.X.prog C.X.w C.X.mg C.X.base k F) (hr : RoomG (k + 1) C.X.A) (tk : Takes C.X C.W) (h : AtG C f o) : AtG C f (oPrp c F o) := by
  intro pins sh σ H g s m x v Q I r r1 l1 q
  unfold oPrp at q
  by_cases hi : isIns c m s = true
  · rw [if_pos hi] at q
    obtain ⟨n, fms, rfl, hc⟩ := isIns_of hi
    obtain ⟨a, A, dx, fvs, od, ox, rfl, ad, e, rf, hro, J⟩ := ins_at I r hc r1
    cases (show v = Value.ref a from l1)
    obtain ⟨cl, p, fa, hp, fp⟩ := P1.ex A ad
    obtain ⟨rest, hrec⟩ := hp.rec_
    have I1 := I.tok (sh.toks + 1)
    have hcl : (clsIn C.T.K A).isSome = true := by
      obtain ⟨cd, hc, _⟩ := any_some cl.hd
      rw [hc]; rfl
    have kin : C.T.K.In sh.heap := C.hK ▸ I.kIn
    refine get_bind kin J (plainGet_of (cl.get f)).1 (findObj_data hcl hp.at_ hp.get hp.tak) (plainGet_of (cl.get f)).2 (wpAny_call (prop_get (s := { sh with toks := sh.toks + 1 }) kin hrec ?_))
    have e0 : Env0 C.X.prog C.X.w C.T.K C.X.mg C.X.base C.X.A C.X.stack { sh with toks := sh.toks + 1 } H := C.hK ▸ I1.env0
    refine codeAny_mono (fp.run C.X.A.in1 C.X.stack _ H [.ref a] [.ref a] Q _ hr.in1 e0.in1 (.cons rfl .nil) (sp_upN r (.cons r1 .nil) q)) fun res s' hq => ?_
    cases res with
    | error er =>
      obtain ⟨_, _, _, _, _, _, _, _, _, _, _, _, z⟩ := hq
      exact z.elim
    | ok fl =>
      cases fl with
      | ret u =>
        obtain ⟨v, H', I3, rv, q3⟩ := I1.after hq
        show wpAny _ _ (handedOut u) _ _ _
        rw [handedOut_of (handed_of rv)]
        exact wpAny_pure ⟨v, H', I3, rv, q3⟩
      | next => exact hq.elim
      | brk => exact hq.elim
      | cont => exact hq.elim
  · rw [if_neg hi] at q
    exact h pins sh σ H g s m x v Q I r r1 l1 q
end
end Ma
/-! Ma43: own instances made; fields stored; x + y of own instances. -/
namespace Ma
open L2 PySem.W PySem.Spec PySem PyProof.Rows
structure KnT (P : Program) (w : World) (mg : Str → Option Value) (base : Heap) (T : Tab) (c : Str) (k : Nat) (F : Fn) : Prop where
  ex : ∃ A f : Addr, T.ad c = some A ∧ mg c = some (.ref A) ∧ Mk T.K A f ∧ FnP P w mg base T k f F
theorem RoomG.make {k : Nat} {A : Around} (r : RoomG (k + 1) A) (D : Addr) (us : List Value) : RoomG k (A.under (.builtin "type.__call__" ⟨.ref D :: us, []⟩)) := ⟨r.toRoom.make D us [], r.gs⟩
section
variable {C : MC} {g g1 : Gh} {H H1 : Hp} {s : MS} {σ : L2.St} {ea eb ex eo ei value : Expr} {es : List Expr} {a b : ME} {ma : MA} {pos p pos' : Pos} {x c name f : Str} {k : Nat} {F : Fn} {pins : List (Addr × Obj)} {sh : Shared} {T : Tab}
def mkM (c : Str) (F : Fn) (ms : List M) (s : MS) : Res M := match F (.box s.hp.length :: ms) (s.hp ++ [.ins c []]) with
  | .ok .non hp => .ok (.box s.hp.length) ⟨s.env, hp⟩
  | .ok _ _ => .stuck
  | .err x hp => .err x ⟨s.env, hp⟩
  | .stuck => .stuck
theorem run_mk {Q : VK} {A fa : Addr} {us : List Value} {args : List M} {vs : List V} (ad : C.T.ad c = some A) (M1 : Mk C.T.K A fa) (G : FnP C.X.prog C.X.w C.X.mg C.X.base C.T k fa F) (hr : RoomG (k + 1) C.X.A) (tk : Takes C.X C.W)
    (I : Inv C.X pins σ H sh) (r : C.rel g s σ H) (rs : RVs C.T g H args vs) (rv : Vals vs us) (h : Go C C.V1 σ (mkM c F args s) g H Q) :
    wpAny (model C.X.prog C.X.w) C.X.A (call (.ref A) us) (EP C.X pins σ Q) C.X.xe sh := by
  have hd : H sh.heap.objs.size = none := I.hok.fresh (Nat.le_refl _)
  have hp : H (sh.heap.objs.size + 1) = none := I.hok.fresh (Nat.le_succ _)
  have ne : sh.heap.objs.size + 1 ≠ sh.heap.objs.size := Nat.succ_ne_self _
  have I2 := Inv.made (C := A) I
  have r1 : C.rel g s σ (upd H sh.heap.objs.size (.own (sh.heap.objs.size + 1))) := r.laid hd
  have mo1 : Mono g H g (upd H sh.heap.objs.size (.own (sh.heap.objs.size + 1))) := mono_laid r.h hd
  obtain ⟨r2, mo2⟩ := Rel.box (o := .ins A sh.heap.objs.size []) (c := .ins c []) r1 (p := sh.heap.objs.size + 1) (by rw [upd_ne ne]; exact hp) fun g' mo => ⟨A, _, [], ad, upd_same, .nil⟩
  have mo := mo1.trans mo2
  have rb : RV C.T (g.box (sh.heap.objs.size + 1)) (upd (upd H sh.heap.objs.size (.own (sh.heap.objs.size + 1))) (sh.heap.objs.size + 1) (.ins A sh.heap.objs.size [])) (.box s.hp.length) (.ref (sh.heap.objs.size + 1)) :=
    .box (by show (g.ro ++ [sh.heap.objs.size + 1])[s.hp.length]? = some _; rw [← r.h.len, List.getElem?_concat_length])
  have sp : spP C.T F (.ref (sh.heap.objs.size + 1) :: vs) _ (fun v H' => v = .non ∧ Q (.ref (sh.heap.objs.size + 1)) H') (fun cls d H' => C.W cls d σ H') :=
    ⟨_, _, .box s.hp.length :: args, r2.h.self, .cons rb (rs.mono mo), by
      unfold mkM at h
      cases hf : F (.box s.hp.length :: args) (s.hp ++ [.ins c []]) with
      | stuck => rw [hf] at h; exact h.elim
      | err e hp' => rw [hf] at h; exact fun g' H' cls d rl xr => h g' H' cls d (mo.trans rl.m0) (r2.env rl.m0 (r2.h.comp rl)) xr
      | ok m hp' =>
        rw [hf] at h
        cases m <;> try exact h.elim
        intro g' H' v rl rv'
        cases rv'
        exact ⟨rfl, h g' H' _ (mo.trans rl.m0) (r2.env rl.m0 (r2.h.comp rl)) (rb.mono rl.m0)⟩⟩
  have e0 : Env0 C.X.prog C.X.w C.T.K C.X.mg C.X.base C.X.A C.X.stack _ _ := C.hK ▸ I2.env0
  refine wpAny_call (make_map (f := fa) (C.hK ▸ I.kIn) M1.makes M1.init (beq_iff_eq.mp M1.fn) (codeAny_mono (G.run _ C.X.stack _ _ (Value.ref (sh.heap.objs.size + 1) :: us) (V.ref (sh.heap.objs.size + 1) :: vs) _ _ (hr.make A us) (e0.make A us []) (.cons rfl rv) sp) fun res s' hq => ?_))
  cases res with
  | error e => exact tk e s' (XE.of_call I2 (fun _ _ _ z => z) hq)
  | ok fl =>
    cases fl with
    | ret u =>
      obtain ⟨v, H', I3, rv', ev, q3⟩ := I2.after hq
      subst ev
      exact ⟨rv', ⟨V.ref (sh.heap.objs.size + 1), H', I3, rfl, q3⟩⟩
    | next => exact hq.elim
    | brk => exact hq.elim
    | cont => exact hq.elim
def mMk (c : Str) (F : Fn) (ma : MA) : ME := fun s => (ma s).bind (mkM c F)
theorem em_mk (h : KnT C.X.prog C.X.w C.X.mg C.X.base C.T x k F) (hr : RoomG (k + 1) C.X.A) (tk : Takes C.X C.W) (ha : PMa C (ex :: es) ma)
    (hg : Gl C.X x := by rfl) (hdb : (x == ("__debug__" : Str)) = false := by decide) (he : starEach (ex :: es) C.X.env = (false, eval ex C.X.env) :: starEach es C.X.env := by rfl) (hpl : (backTo pos (starEach es C.X.env)).any (·.1) = false := by rfl) :
    PMe C (.Call (.Name x p) (ex :: es) [] pos) (mMk x F ma) := by
  obtain ⟨A, fa, ad, hm, M1, G⟩ := h.ex
  refine ⟨fun pins sh σ H Q I q => wpAny_Call_Name_kw (ld_glob I hg hm ?_ hdb)⟩
  refine callWith_K (h₀ := C.X.base) I.ok.mod.kin (C.hK ▸ M1.kp) (thn (ha.run pos pins sh σ H _ I (rdA_call q)) fun us s1 hh => ?_) he hpl
  obtain ⟨vs, H1, I1, rv, ms, s2, g1, r1, rs, q1⟩ := hh
  exact ⟨I1.kIn, run_mk ad M1 G hr tk I1 r1 rs rv q1⟩
/-- the items of a list, a tuple, to be spread -/
def sprM (hp : List Cell) : M → Option (List M)
  | .tup ms => some ms
  | m => seqL hp m
theorem sprM_at {m : M} {ms : List M} {v : V} (r : C.rel g s σ H) (h : sprM s.hp m = some ms) (rv : RV C.T g H m v) : ∃ q vs, v = .ref q ∧ (SqT C.X.K H q vs ∨ SqL C.X.K H q vs) ∧ RVs C.T g H ms vs := by
  unfold sprM at h
  split at h
  · cases h
    cases rv with
    | tup e rs => exact ⟨_, _, rfl, .inl (.inl (.inl e)), rs⟩
  · obtain ⟨q, vs, e, hq, rs⟩ := seqL_at r h rv
    exact ⟨q, vs, e, .inr hq, rs⟩
/-- C(*e) -/
def mMkS (c : Str) (F : Fn) (a : ME) : ME := fun s => (a s).bind fun m s1 => match sprM s1.hp m with
  | some ms => mkM c F ms s1
  | none => .stuck
theorem em_mkS {sp : Pos} (h : KnT C.X.prog C.X.w C.X.mg C.X.base C.T x k F) (hr : RoomG (k + 1) C.X.A) (tk : Takes C.X C.W) (ha : PMe C ex a)
    (hg : Gl C.X x := by rfl) (hdb : (x == ("__debug__" : Str)) = false := by decide) (hst : starEach [.Starred ex sp] C.X.env = [(true, eval ex C.X.env)] := by rfl) :
    PMe C (.Call (.Name x p) [.Starred ex sp] [] pos) (mMkS x F a) := by
  obtain ⟨A, fa, ad, hm, M1, G⟩ := h.ex
  refine ⟨fun pins sh σ H Q I q => wpAny_Call_Name_kw (ld_glob I hg hm ?_ hdb)⟩
  refine callWith_S (h₀ := C.X.base) I.ok.mod.kin (C.hK ▸ M1.kp) (thn (ha.run pins sh σ H _ I (rdE_bind q)) fun u s1 hh => ?_) hst
  obtain ⟨y, H1, I1, l1, m, s2, g1, r1, rm, q1⟩ := hh
  split at q1
  · rename_i ms hms
    obtain ⟨qq, vs, rfl, hs, rs⟩ := sprM_at r1 hms rm
    obtain rfl : u = Value.ref qq := l1
    exact StX.star_any I1 hs fun us s3 I3 rv => ⟨I3.kIn, run_mk ad M1 G hr tk I3 r1 rs rv q1⟩
  · exact q1.elim
/-! ### e.f = value -/
structure FldC (T : Tab) (c f : Str) : Prop where
  ex : ∀ A, T.ad c = some A → Cls T.K A ∧ NoAttr T.K A f
def putFM (f : Str) (y : M) : List (Str × M) → List (Str × M)
  | [] => [(f, y)]
  | (j, v) :: r => if j = f then (j, y) :: r else (j, v) :: putFM f y r
theorem RFs.putF {fs : List (Str × M)} {vs : List (Str × V)} {m : M} {v : V} (r : RFs T g H fs vs) (rv : RV T g H m v) : RFs T g H (putFM f m fs) (putF f v vs) := by
  induction r with
  | nil => exact .cons rv .nil
  | @cons j m' v' fs vs q t ih =>
    unfold putFM L2.putF
    by_cases e : j = f
    · rw [if_pos e, if_pos e]; exact .cons rv t
    · rw [if_neg e, if_neg e]; exact .cons q ih
def fPut (c f : Str) (x y : M) (s : MS) : Res Fl := match x with
  | .box n => match s.hp[n]? with
    | some (.ins c' fms) => if c' = c ∧ fms.length < 900 then .ok .nx ⟨s.env, s.hp.set n (.ins c (putFM f y fms))⟩ else .stuck
    | _ => .stuck
  | _ => .stuck
def sPut (c f : Str) (a b : ME) : MStm := fun s => (b s).bind fun y s1 => (a s1).bind fun x s2 => fPut c f x y s2
theorem sm_put (fc : FldC C.T c f) (ha : PMe C eo a) (hb : PMe C value b) (hs : swapsWith value (some (.Attribute eo f pos')) pos.line C.X.env = pure false := by rfl) : PMs C (.Assign [.Attribute eo f pos'] value pos) (sPut c f a b) := by
  refine ⟨fun pins sh σ H D I ⟨g, s, r, q⟩ => ?_⟩
  unfold sPut at q
  have q1 : Go C C.V1 σ (b s) g H fun y H1 => ∃ m s1 g1, Mono g H g1 H1 ∧ C.rel g1 s1 σ H1 ∧ RV C.T g1 H1 m y ∧ GoS C ((a s1).bind fun x s2 => fPut c f x m s2) g H D := by
    cases h : b s with
    | stuck => rw [h] at q; exact q.elim
    | err e s1 => rw [h] at q; exact fun g' H' cls d mo rl xr => q g' H' σ cls d mo rl xr
    | ok m s1 => rw [h] at q; exact fun g' H' v mo rl rv => ⟨m, s1, g', mo, rl, rv, q⟩
  refine plainObj_wpAny_Assign_Attribute (thn (hb.run pins sh σ H _ I ⟨g, s, r, q1⟩) fun u s1 ⟨y, H1, I1, ry, m, ms1, g1, mo1, r1, rm, q2⟩ => ?_) hs
  have q3 : Go C C.V1 σ (a ms1) g1 H1 fun x H2 => ∃ k s2 g2, Mono g1 H1 g2 H2 ∧ C.rel g2 s2 σ H2 ∧ RV C.T g2 H2 k x ∧ GoS C (fPut c f k m s2) g H D := by
    cases h : a ms1 with
    | stuck => rw [h] at q2; exact q2.elim
    | err e s2 => rw [h] at q2; exact fun g' H' cls d mo rl xr => q2 g' H' σ cls d (mo1.trans mo) rl xr
    | ok k s2 => rw [h] at q2; exact fun g' H' v mo rl rv => ⟨k, s2, g', mo, rl, rv, q2⟩
  refine thn (ha.run pins s1 σ H1 _ I1 ⟨g1, ms1, r1, q3⟩) fun ov s2 ⟨x, H2, I2, rx, k, ms2, g2, mo2, r2, rk, q4⟩ => ?_
  unfold fPut at q4
  split at q4
  · rename_i n
    split at q4
    · rename_i c' fms hc
      split at q4
      · rename_i hcl
        obtain ⟨rfl, hlen⟩ := hcl
        obtain ⟨a', A, dx, fvs, od, ox, rfl, ad, e, rf, hro, J⟩ := ins_at I2 r2 hc rk
        obtain rfl : ov = Value.ref a' := rx
        obtain ⟨cl, na⟩ := fc.ex A ad
        obtain ⟨r3, mo3⟩ := Rel.poke (c' := .ins c' (putFM f m fms)) (o := .ins A dx (putF f y fvs)) r2 hc hro trivial (fun ws z => by rw [e] at z; cases z) fun g' mo => ⟨A, dx, _, ad, upd_same, (rf.putF (rm.mono mo2)).mono mo⟩
        exact setattr_ok I2 e (C.hK ▸ cl) (C.hK ▸ na) (by rw [← rf.length]; omega) ry fun s3 I3 => ⟨σ, _, I3, q4 g2 _ σ ((mo1.trans mo2).trans mo3) r3⟩
      · exact q4.elim
    · exact q4.elim
  · exact q4.elim
end
end Ma
/-! Ma44: x + y, x an own instance, y of a built-in type; anything that is never reached. -/
namespace Ma
open L2 PySem.W PySem.Spec PySem PyProof.Rows
end Ma
/-! Ma45: tuple(d.items()). -/
namespace Ma
open L2 PySem.W PySem.Spec PySem PyProof.Rows
theorem mt_tupItems {P : Program} {w0 : World} {κ : Type} [DecidableEq κ] (knd : KeyKind P w0 κ) (kvs : List (κ × Value)) (v d : Addr) (ep : Nat) (hn : kvs.length ≤ sizeLine) {A : Around} {R : Result → Shared → Prop} {s : Shared} (hh : A.handled = none)
    (hv : s.heap.IsItemsView v d) (hm : s.heap.DictAt knd d kvs ep) (hty : s.TypeIs (.ref v) "dict_items")
    (h : ∀ (h' : Heap) (tk : Nat) (as : List Addr), (∀ b o, s.heap.get? b = some o → h'.get? b = some o) → as.length = kvs.length → KdxG knd kvs s.heap.objs.size h' as →
      R (.ok (.ret (.ref h'.objs.size))) { s with heap := h'.push { cls := .type "tuple", data := .seq (as.map Value.ref).toArray }, toks := tk }) :
    wpAny (model P w0) A.in1 (Builtin.«tuple.__new__» ⟨[.type "tuple", .ref v], []⟩) (fun fin s' => match fin with
      | .done f => R (.ok f) s'
      | .again c' => c'.quiet = true ∧ codeAny (model P w0) A c' R s') (fun e s' => R (.error e) s') s := by
  obtain ⟨ov, ho, hc, hd⟩ := hv
  have hv : s.heap.IsItemsView v d := ⟨ov, ho, hc, hd⟩
  have hsub := PySem.sub_tuple_self
  have hinit := PySem.init_tuple_lookup
  have hmh := PySem.madeHere_tuple
  have col := fun (Q : List Value → Shared → Prop) (E : Value → Shared → Prop) h => kdx_collect (A := A.in1) (E := E) (R := Q) hh hv hm hn h
  obtain ⟨hp, g, dr, tk, os⟩ := s
  wp_walk using wpAny_loadPart' ho, wpAny_typeOf hty, col
  intro h' tk' as hk hl hG
  show wpAny _ _ (Builtin.Tuple.tupleExact (as.map Value.ref).toArray >>= fun v => PySem.ret v) _ _ _
  unfold Builtin.Tuple.tupleExact
  refine wpAny_bind (wpAny_newObj_type ?_ (by show (as.map Value.ref).toArray.size ≤ sizeLine; simp only [List.size_toArray, List.length_map]; omega))
  exact wpAny_pure (h h' tk' as hk hl hG)
section
variable {P : Program} {w0 : World} {A : Around} {E : Value → Shared → Prop} {s : Shared}
theorem code_tupItems {κ : Type} [DecidableEq κ] (knd : KeyKind P w0 κ) (kvs : List (κ × Value)) (v d : Addr) (ep : Nat) (hn : kvs.length ≤ sizeLine) {Q : Value → Shared → Prop} (hh : A.handled = none)
    (hv : s.heap.IsItemsView v d) (hm : s.heap.DictAt knd d kvs ep) (hty : s.TypeIs (.ref v) "dict_items")
    (h : ∀ (h' : Heap) (tk : Nat) (as : List Addr), (∀ b o, s.heap.get? b = some o → h'.get? b = some o) → as.length = kvs.length → KdxG knd kvs s.heap.objs.size h' as →
      Q (.ref h'.objs.size) { s with heap := h'.push { cls := .type "tuple", data := .seq (as.map Value.ref).toArray }, toks := tk }) :
    wpAny (model P w0) A (call (.type "tuple") [.ref v]) Q E s := by
  refine callType_codes (Q₁ := fun obj s₁ => s₁.TypeIs obj "tuple" ∧ Q obj s₁) F.called_tuple (F.typeCall_tuple_1 _) F.entry_object_init
    (codeAny_call_builtin F.plain_tuple_new F.entry_tuple_new (wpAny_of_eq (F.newCall_tuple_1 _) (mt_tupItems knd kvs v d ep hn (A := A.in1) (R := wants (fun obj s₁ => s₁.TypeIs obj "tuple" ∧ Q obj s₁) E) hh hv hm hty fun h' tk as a b c => ⟨⟨_, Heap.get?_push_size _ rfl, rfl⟩, h h' tk as a b c⟩))) fun obj s₁ h₁ => ?_
  exact ⟨h₁.1, F.args_object_init_2 obj _, object_init_meets F.called_tuple.init.lookup F.called_tuple.made (by decide) P w0 A.in1 _ s₁ ⟨h₁.1, rfl, h₁.2⟩⟩
end
section
variable {X : Cx} {pins : List (Addr × Obj)} {σ : L2.St} {H : Hp} {s : Shared}
/-- the pairs' tuples, all new -/
theorem tup_laid {h' : Heap} {tk : Nat} {kvs : List (Key × V)} {vs : List (Key × Value)} {as : List Addr} (I : Inv X pins σ H s) (hz : kvs.length ≤ sizeLine) (kv : KV kvs vs) (hk : ∀ b o, s.heap.get? b = some o → h'.get? b = some o)
    (hl : as.length = vs.length) (G : KdxG (mixKind X.prog X.w) vs s.heap.objs.size h' as) :
    as.Nodup ∧ (∀ t ∈ as, H t = none) ∧ Paired (fun (t : Addr) (q : Key × V) => LiI.putT H as kvs t = some (.tup [kV q.1, q.2])) as kvs ∧ Inv X pins σ (LiI.putT H as kvs) { s with heap := h', toks := tk } := by
  have lk : kvs.length = vs.length := Paired.length kv
  have nd : as.Nodup := List.Pairwise.imp (fun {a b} (h : a < b) => Nat.ne_of_lt h) G.rise
  have new : ∀ t ∈ as, H t = none := fun t ht => I.hok.fresh (Nat.le_of_lt (G.above t ht))
  have pr := LiI.putT_at as kvs H (by omega) nd
  have out : ∀ b, b ∉ as → LiI.putT H as kvs b = H b := fun b h1 => LiI.putT_off as kvs H h1
  have low : ∀ b o, s.heap.get? b = some o → b ∉ as := fun b o e z => absurd (Heap.lt_size e) (Nat.not_lt.mpr (Nat.le_of_lt (G.above b z)))
  have kp : ∀ b u, H b = some u → LiI.putT H as kvs b = some u := fun b u e => by
    rw [out b fun z => by rw [new b z] at e; cases e]
    exact e
  have un : Un (frs X.stack) [] H (LiI.putT H as kvs) s.heap h' := ⟨fun b o q _ _ _ => hk b o q, fun b o q _ _ _ => ⟨o.slots, hk b o q⟩, fun b o q n _ => by rw [out b (low b o q)]; exact n, fun b o q _ => ⟨o, hk b o q⟩, fun b xs q => kp b _ q, fun b o u q => kp b _ q, fun b ps q => ⟨#[], by rw [kp b _ q]; simp⟩⟩
  refine ⟨nd, new, pr, I.call' (ch := []) rfl un (fun b u q => ?_) I.bare fun b z => by simp at z⟩
  by_cases hb : b ∈ as
  · obtain ⟨j, pk, e1, e2, e3⟩ := LiI.paired_ix pr hb
    rw [e3] at q
    cases q
    obtain ⟨key, ky, x, f1, f2, f3⟩ := G.pairs j b e1
    obtain ⟨qv, g1, g2, g3⟩ := LiI.paired_get kv e2
    rw [f1] at g1
    cases g1
    have rk : RelV (kV pk.1) key := by rw [g2]; exact relV_key (show keyIs ky key = true from f2)
    exact ⟨by show 2 ≤ sizeLine; decide, [key, x], .cons rk (.cons g3 .nil), ⟨_, f3, rfl, _, rfl⟩⟩
  · rw [out b hb] at q
    exact (I.hok b u q).stay (fun d v _ y => hk d v y) (fun d y => kp d _ y) fun d xs y => kp d _ y
end
theorem paired_imp {α β : Type} {F G : α → β → Prop} (h : ∀ x y, F x y → G x y) : ∀ {xs : List α} {ys : List β}, Paired F xs ys → Paired G xs ys
  | _, _, .nil => .nil
  | _, _, .cons q t => .cons (h _ _ q) (paired_imp h t)
section
variable {C : MC} {g g1 : Gh} {H H1 : Hp} {s : MS} {σ : L2.St} {ea eb ex eo ei : Expr} {es : List Expr} {a b : ME} {ma : MA} {pos p apos cpos : Pos} {x c name f : Str} {k : Nat} {F : Fn} {pins : List (Addr × Obj)} {sh : Shared} {T : Tab}
theorem rel_putT : ∀ {as : List Addr} {kvs : List (Key × V)} {H : Hp}, as.Nodup → (∀ t ∈ as, H t = none) → C.rel g s σ H → C.rel g s σ (LiI.putT H as kvs) ∧ Mono g H g (LiI.putT H as kvs)
  | [], kvs, H, _, _, r => by cases kvs <;> exact ⟨r, Mono.refl _ _⟩
  | a :: as, [], H, _, _, r => ⟨r, Mono.refl _ _⟩
  | a :: as, q :: kvs, H, nd, new, r => by
    have hn := new a (List.mem_cons_self ..)
    obtain ⟨n1, n2⟩ := List.nodup_cons.mp nd
    obtain ⟨r1, m1⟩ := rel_putT (as := as) (kvs := kvs) (H := upd H a (.tup [kV q.1, q.2])) n2 (fun t ht => by rw [upd_ne (fun z => n1 (by subst z; exact ht))]; exact new t (List.mem_cons_of_mem _ ht)) (r.laid hn)
    exact ⟨r1, (mono_laid r.h hn).trans m1⟩
def kM : Key → M
  | .inl i => .int i
  | .inr z => .str z
theorem kM_rv {k : Key} : RV T g H (kM k) (kV k) := by
  cases k
  · exact .int _
  · exact .str _
def itemsM (kms : List (Key × M)) : List M := kms.map fun kv => .tup [kM kv.1, kv.2]
theorem itemsM_rv : ∀ {kms : List (Key × M)} {kvs : List (Key × V)} {as : List Addr}, RFs T g H kms kvs → Paired (fun (t : Addr) (q : Key × V) => H t = some (.tup [kV q.1, q.2])) as kvs → RVs T g H (itemsM kms) (as.map V.ref)
  | _, _, _, .nil, .nil => .nil
  | _, _, _, .cons r rs, .cons e t => .cons (.tup e (.cons kM_rv (.cons r .nil))) (itemsM_rv rs t)
/-- tuple(d.items()) -/
def oItems (m : M) (s : MS) : Res M := match dictL s.hp m with
  | some kms => if kms.length ≤ big then .ok (.tup (itemsM kms)) s else .stuck
  | none => .stuck
theorem em_tupItems (hc : C.X.calm = true) (he : PMe C ex a) (hm : C.X.mg "tuple" = none) (hg : Gl C.X "tuple" := by rfl) (hv : bootBuiltins "tuple" = some (.type "tuple") := by first | rfl | decide +kernel) (hbase : attributeBase ex "items" C.X.env (eval ex C.X.env) = eval ex C.X.env := by rfl) (hline : (apos.endLine == cpos.line) = true := by rfl)
    (hs : starEach [.Call (.Attribute ex "items" apos) [] [] cpos] C.X.env = (false, eval (.Call (.Attribute ex "items" apos) [] [] cpos) C.X.env) :: starEach [] C.X.env := by rfl) :
    PMe C (.Call (.Name "tuple" p) [.Call (.Attribute ex "items" apos) [] [] cpos] [] pos) (fun s => (a s).bind oItems) := by
  refine ⟨fun pins sh σ H Q I hq => ?_⟩
  refine wpAny_Call_Name_kw (ld_blt I hg hm hv ?_)
  refine PyProof.Rows.callWith_type1 ?_ hs rfl
  rw [hs]
  show wpAny _ _ (spliced ((false, eval (.Call (.Attribute ex "items" apos) [] [] cpos) C.X.env) :: backTo pos (starEach [] C.X.env))) _ _ sh
  refine Calls.spliced_cons ?_
  refine wpAny_Call_method (T := "dict") (id := "dict.items") hbase rfl hline F.plainAttrs_dict F.slot_dict_items F.type_dict_items (thn (he.run pins sh σ H _ I (rdE_bind hq)) fun u s1 hh => ?_)
  obtain ⟨y, H1, I1, l1, m, s2, g1, r1, rm, q1⟩ := hh
  unfold oItems at q1
  split at q1
  · rename_i kms hd
    by_cases hl : kms.length ≤ big
    · rw [if_pos hl] at q1
      obtain ⟨n, d, kvs, rfl, hcl, rfl, hro, e, rf⟩ := dictL_at r1 hd rm
      obtain rfl : u = Value.ref d := l1
      obtain ⟨hz, hs0, vs, kv, hdo⟩ := I1.hok d _ e
      obtain ⟨ep, hat⟩ := hdo.dictAt
      have lk : kvs.length = vs.length := Paired.length kv
      have I2 : Inv C.X pins σ H1 { s1 with heap := s1.heap.push { cls := .type "dict_items", data := .fields #[.ref d] } } := I1.kept (t' := s1.toks) fun b ob q => Heap.get?_push_of_some _ q
      refine ⟨hdo.typeIs, hdo.mapOf.noDict, ?_⟩
      show wpAny _ _ (callWith cpos (.builtin "dict.items") [.ref d] [] []) _ C.X.xe s1
      refine method_meetsIn F.slot_dict_items F.entry_dict_items rfl (PySem.evalArgs_none ⟨rfl, hdo.typeIs, F.args_dict_items_1 _, _, meets_dict_items (mixKind C.X.prog C.X.w) d hs0, ⟨vs, hdo⟩, ?_⟩)
      refine Calls.spliced_nil ?_
      have gv : (s1.heap.push { cls := .type "dict_items", data := .fields #[.ref d] }).get? s1.heap.objs.size = some { cls := .type "dict_items", data := .fields #[.ref d] } := Heap.get?_push_size _ rfl
      refine code_tupItems (mixKind C.X.prog C.X.w) vs _ d ep (by omega) (I1.ok.hd hc) ⟨_, gv, rfl, rfl⟩ (hat.push _) ⟨_, gv, rfl⟩ fun h' tk as hk hla hG => ?_
      obtain ⟨nd, new, pr, J⟩ := tup_laid (tk := tk) I2 hz kv hk hla hG
      have lt : as.length = kvs.length := by omega
      have J2 : Inv C.X pins σ (upd (LiI.putT H1 as kvs) h'.objs.size (.tup (as.map V.ref))) { s1 with heap := h'.push { cls := .type "tuple", data := .seq (as.map Value.ref).toArray }, toks := tk } :=
        J.laid (t' := tk) (fun b o e => Heap.get?_push_of_some _ e) (Nat.le_refl _) (show ObjOk C.X.prog C.X.w _ _ _ (.tup (as.map V.ref)) from ⟨by rw [List.length_map]; omega, as.map Value.ref, LiI.vals_refs as, IsTup.new _ _⟩)
      have hn : LiI.putT H1 as kvs h'.objs.size = none := J.hok.fresh (Nat.le_refl _)
      obtain ⟨r2, mo2⟩ := rel_putT (kvs := kvs) nd new r1
      have r3 := r2.laid (o := .tup (as.map V.ref)) hn
      have mo3 := mo2.trans (mono_laid (o := .tup (as.map V.ref)) r2.h hn)
      have pr2 : Paired (fun (t : Addr) (q : Key × V) => upd (LiI.putT H1 as kvs) h'.objs.size (.tup (as.map V.ref)) t = some (.tup [kV q.1, q.2])) as kvs := paired_imp (fun t q e => by
        rw [upd_ne (ne_of_none e hn)]; exact e) pr
      exact ⟨.ref h'.objs.size, _, J2, rfl, q1 g1 _ _ mo3 r3 (.tup upd_same (itemsM_rv (rf.mono mo3) pr2))⟩
    · rw [if_neg hl] at q1; exact q1.elim
  · exact q1.elim
end
end Ma
/-! Ma46: a dict is locked while a row runs. -/
namespace Ma
open L2 PySem.W PySem.Spec PySem PyProof.Rows
end Ma
/-! Ma47: walks over a locked dict's keys; dicts laid. -/
namespace Ma
open L2 PySem.W PySem.Spec PySem PyProof.Rows
section
variable {C : MC} {g g1 : Gh} {H H1 : Hp} {s : MS} {σ : L2.St} {tg ex : Expr} {a : ME} {pos p : Pos}
/-- {} -/
def mDnew : ME := fun s => .ok (.box s.hp.length) ⟨s.env, s.hp ++ [.dK []]⟩
theorem boxAt {g : Gh} {H : Hp} {hp : List Cell} {p : Addr} {T : Tab} {e : En} (r : RelH T e g hp H) {H' : Hp} : RV T (g.box p) H' (.box hp.length) (.ref p) :=
  .box (by show (g.ro ++ [p])[hp.length]? = some p; rw [← r.len, List.getElem?_concat_length])
theorem em_dnew : PMe C (.Dict [] [] pos) mDnew := wkE pe_dnewK fun σ H Q ⟨g, s, r, q⟩ p hn => by
  obtain ⟨r2, mo⟩ := r.box (o := .dK []) (c := .dK []) hn fun g' mo => ⟨[], upd_same, .nil⟩
  exact q (g.box p) _ _ mo r2 (boxAt r.h)
/-- dict(pairs) -/
def pairM : M → Option (Key × M)
  | .tup [k, v] => (keyM k).map fun k => (k, v)
  | _ => none
def pairsM : List M → Option (List (Key × M))
  | [] => some []
  | m :: ms => match pairM m, pairsM ms with
    | some p, some ps => some (p :: ps)
    | _, _ => none
def mergeM (kms more : List (Key × M)) : List (Key × M) := more.foldl (fun acc kv => putG acc kv.1 kv.2) kms
theorem RFs.merge {T : Tab} : ∀ {more : List (Key × M)} {mv : List (Key × V)}, RFs T g H more mv → ∀ {kms : List (Key × M)} {kvs : List (Key × V)}, RFs T g H kms kvs → RFs T g H (mergeM kms more) (mergeK kvs mv) := by
  intro more mv r
  induction r with
  | nil => intro kms kvs r; exact r
  | @cons k m v fs vs q t ih => intro kms kvs r; exact ih (r.put k q)
theorem pairsM_at {T : Tab} : ∀ {ms : List M} {xs : List V} {ps : List (Key × M)}, RVs T g H ms xs → pairsM ms = some ps → ∃ (as : List Addr) (kvs : List (Key × V)), xs = as.map V.ref ∧ Paired (fun p kv => H p = some (.tup [kV kv.1, kv.2])) as kvs ∧ RFs T g H ps kvs
  | _, _, _, .nil, h => by cases h; exact ⟨[], [], rfl, .nil, .nil⟩
  | m :: ms, x :: xs, ps, .cons r rs, h => by
    unfold pairsM at h
    split at h
    · rename_i p ps' h1 h2
      cases h
      obtain ⟨as, kvs, rfl, pr, rf⟩ := pairsM_at rs h2
      unfold pairM at h1
      split at h1
      · rename_i k v
        cases hk : keyM k with
        | none => rw [hk] at h1; cases h1
        | some ky =>
          rw [hk] at h1
          cases h1
          cases r with
          | tup e rt =>
            cases rt with
            | cons ra rb =>
              cases rb with
              | cons rc rd =>
                cases rd
                have ey := keyM_at hk ra
                subst ey
                exact ⟨_ :: as, (ky, _) :: kvs, rfl, .cons e pr, .cons rc rf⟩
      · cases h1
    · cases h
def cDict (ms : List M) (s : MS) : Res M := match ms with
  | [x] => match seqL s.hp x with
    | some xs => match pairsM xs with
      | some ps => .ok (.box s.hp.length) ⟨s.env, s.hp ++ [.dK (mergeM [] ps)]⟩
      | none => .stuck
    | none => .stuck
  | _ => .stuck
theorem ok_dict : CallOk C (fun xs H Q => ∃ (a : Addr) (ps : List Addr) (kvs : List (Key × V)), xs = [.ref a] ∧ SqL C.X.K H a (ps.map V.ref) ∧ Paired (fun p kv => SqT C.X.K H p [kV kv.1, kv.2]) ps kvs ∧ ∀ p, H p = none → Q (.ref p) (upd H p (.dK (mergeK [] kvs)))) cDict := fun σ H g s ms xs Q r rs h => by
  unfold cDict at h
  split at h
  · rename_i x
    cases rs with
    | cons r1 r2 =>
      cases r2
      split at h
      · rename_i ys hy
        split at h
        · rename_i ps hp
          obtain ⟨q, vs, rfl, hq, rv⟩ := seqL_at r hy r1
          obtain ⟨as, kvs, rfl, pr, rf⟩ := pairsM_at rv hp
          refine ⟨q, as, kvs, rfl, hq, paired_imp (fun p kv e => .inl (.inl e)) pr, fun p hn => ?_⟩
          obtain ⟨r2, mo⟩ := r.box (o := .dK (mergeK [] kvs)) (c := .dK (mergeM [] ps)) hn fun g' mo => ⟨_, upd_same, (rf.mono mo).merge .nil⟩
          exact h (g.box p) _ _ mo r2 (boxAt r.h)
        · exact h.elim
      · exact h.elim
  · exact h.elim
end
end Ma
/-! Ma48: {k: v for target in iter if ..}; dicts compared. -/
namespace Ma
open L2 PySem.W PySem.Spec PySem PyProof.Rows
section
variable {J : It} {n : Nat} {G : Hp → Prop} {Y : Nat → Hp → V → Hp → Prop}
theorem dk_it (w : Walk J n G Y) {g : TG} {tt : TT} {tk tv : TE} {vs : List Nat} {σ : L2.St} {H1 : Hp} {D : Addr} {Qd : Hp → Prop} (Pv : Nat → Hp → Prop) (h0 : Pv 0 (upd H1 D (.dK []))) (hG : ∀ i H, i ≤ n → Pv i H → G H)
    (hs : ∀ i x H H', i < n → Pv i H → Y i H x H' → g x (wipe σ vs) H' fun σ2 H2 => wipe σ2 vs = wipe σ vs ∧ tt σ2 H2 fun b H3 =>
      if b = true then tk σ2 H3 fun y H4 => tv σ2 H4 fun z H5 => ∃ kvs k, y = kV k ∧ H5 D = some (.dK kvs) ∧ kvs.length < sizeLine ∧ Pv (i + 1) (upd H5 D (.dK (putK kvs k z))) else Pv (i + 1) H3) (hd : ∀ H, Pv n H → Qd H) :
    ∃ W : Nat → Nat → Hp → Prop, (∃ m, W 0 m (upd H1 D (.dK []))) ∧ ∀ i m H, W i m H →
      (J.stop i H ∧ Qd H) ∨ (J.go i H ∧ ∃ Nx : Hp → Prop, (∀ H', Nx H' → ∃ m', m' < m ∧ W (i + 1) m' H') ∧ ∀ x H', J.yld i H x H' → g x (wipe σ vs) H' fun σ2 H2 => wipe σ2 vs = wipe σ vs ∧ tt σ2 H2 fun b H3 =>
        if b = true then tk σ2 H3 fun y H4 => tv σ2 H4 fun z H5 => ∃ kvs k, y = kV k ∧ H5 D = some (.dK kvs) ∧ kvs.length < sizeLine ∧ Nx (upd H5 D (.dK (putK kvs k z))) else Nx H3) := by
  refine ⟨fun i m H => m = n - i ∧ (i ≤ n ∧ Pv i H), ⟨n, by simp, Nat.zero_le _, h0⟩, fun i m H hW => ?_⟩
  obtain ⟨rfl, hi, p⟩ := hW
  have gg := hG i H hi p
  rcases Nat.lt_or_ge i n with hlt | hge
  · exact .inr ⟨w.goes i H hlt gg, Pv (i + 1), fun H' p' => ⟨n - (i + 1), by omega, rfl, hlt, p'⟩, fun x H' y => hs i x H H' hlt p (w.yields i H x H' hlt gg y)⟩
  · obtain rfl : i = n := by omega
    exact .inl ⟨w.stops H gg, hd H p⟩
end
section
variable {C : MC} {g g1 : Gh} {H H1 : Hp} {s : MS} {σ : L2.St}
def dcLoop (vs : List Nat) (tg : MG) (tt : MT) (kx el : ME) : List M → List (Key × M) → MS → Res (List (Key × M))
  | [], acc, s => .ok acc s
  | x :: xs, acc, s => match tg x ⟨wipeM s.env vs, s.hp⟩ with
    | .ok _ s1 => match tt s1 with
      | .ok true s2 => match kx s2 with
        | .ok y s3 => match keyM y with
          | some k => match el s3 with
            | .ok z s4 => if acc.length < big then dcLoop vs tg tt kx el xs (putG acc k z) ⟨s.env, s4.hp⟩ else .stuck
            | _ => .stuck
          | none => .stuck
        | _ => .stuck
      | .ok false s2 => dcLoop vs tg tt kx el xs acc ⟨s.env, s2.hp⟩
      | _ => .stuck
    | _ => .stuck
def mDc (vs : List Nat) (it : MI) (tg : MG) (tt : MT) (kx el : ME) : ME := fun s => (it s).bind fun xs s1 => (dcLoop vs tg tt kx el xs [] s1).bind fun ms s2 => .ok (.box s2.hp.length) ⟨s2.env, s2.hp ++ [.dK ms]⟩
/-- the new dict, beside all that the machine knows -/
structure SideK (e : En) (g : Gh) (H : Hp) (D : Addr) (vs : List (Key × V)) : Prop where
  at_ : H D = some (.dK vs)
  nf : ¬ g.fz D
  nr : D ∉ g.ro
  ne : e.H D = none
theorem RelH.sideK {T : Tab} {e : En} {hp : List Cell} {D : Addr} {vs ws : List (Key × V)} (r : RelH T e g hp H) (d : SideK e g H D vs) : RelH T e g hp (upd H D (.dK ws)) ∧ Mono g H g (upd H D (.dK ws)) ∧ SideK e g (upd H D (.dK ws)) D ws := by
  have off : ∀ {a : Addr} {u : HO}, H a = some u → (∀ w, u ≠ .dK w) → a ≠ D := fun {a u} h n z => by subst z; rw [d.at_] at h; cases h; exact n _ rfl
  have mo : Mono g H g (upd H D (.dK ws)) := ⟨⟨List.prefix_refl _, fun _ h => h, fun a f => upd_ne fun z => d.nf (z ▸ f), fun a us h => by rw [upd_ne (off h fun w z => by cases z)]; exact h⟩, fun a o u h => by rw [upd_ne (off h fun w z => by cases z)]; exact h⟩
  have nr : ∀ {n : Nat} {a : Addr}, g.ro[n]? = some a → a ≠ D := fun h z => d.nr (z ▸ List.mem_of_getElem? h)
  refine ⟨⟨r.len, r.nd, fun n c a h1 h2 => (r.cell n c a h1 h2).mono mo (upd_ne (nr h2)), r.thaw, fun a f => ?_, fun a h => ?_, fun a o h1 h2 => ?_, r.nfz, r.nro, r.m0.trans mo, r.tb.upd (fun u z => by rw [d.at_] at z; cases z; exact plain_dK) plain_dK.tbl (fun _ => plain_dK), r.tbe⟩, mo, ⟨upd_same, d.nf, d.nr, d.ne⟩⟩
  · obtain ⟨o, q⟩ := r.fzt a f
    exact ⟨o, (upd_ne fun (z : a = D) => d.nf (z ▸ f)).trans q⟩
  · obtain ⟨o, q⟩ := r.rot a h
    exact ⟨o, (upd_ne fun (z : a = D) => d.nr (z ▸ h)).trans q⟩
  · have q := r.frm a o h1 h2
    have z : a ≠ D := fun z => by subst z; rw [d.ne] at h1; cases h1
    exact (upd_ne z).trans q
theorem SideK.later {T : Tab} {e : En} {hp hp' : List Cell} {D : Addr} {vs : List (Key × V)} (d : SideK e g H D vs) (q : RelH T ⟨g, H⟩ g1 hp' H1) : SideK e g1 H1 D vs := by
  have no : ¬ H D = none := fun z => by rw [d.at_] at z; cases z
  refine ⟨q.frm D _ d.at_ d.nr, fun f => ?_, fun h => ?_, d.ne⟩
  · exact (q.nfz D f).elim d.nf fun z => z.elim no d.nr
  · exact (q.nro D h).elim d.nr no
/-- it becomes a box -/
theorem Rel.adopt (r : C.rel g s σ H) {p : Addr} {kvs : List (Key × V)} {kms : List (Key × M)} (d : SideK C.e g H p kvs) (rf : RFs C.T g H kms kvs) : C.rel (g.box p) ⟨s.env, s.hp ++ [.dK kms]⟩ σ H ∧ Mono g H (g.box p) H := by
  have mo : Mono g H (g.box p) H := ⟨⟨List.prefix_append _ _, fun _ h => h, fun _ _ => rfl, fun _ _ h => h⟩, fun _ _ _ h => h⟩
  have look : ∀ {n : Nat} {c' : Cell} {a : Addr}, (s.hp ++ [.dK kms])[n]? = some c' → (g.ro ++ [p])[n]? = some a → (s.hp[n]? = some c' ∧ g.ro[n]? = some a) ∨ (c' = .dK kms ∧ a = p) := fun {n c' a} h1 h2 => by
    rcases Nat.lt_or_ge n s.hp.length with hl | hl
    · rw [List.getElem?_append_left hl] at h1
      rw [List.getElem?_append_left (by rw [r.h.len]; exact hl)] at h2
      exact .inl ⟨h1, h2⟩
    · rw [List.getElem?_append_right hl] at h1
      rw [List.getElem?_append_right (by rw [r.h.len]; exact hl), r.h.len] at h2
      cases hk : n - s.hp.length with
      | zero => rw [hk] at h1 h2; cases h1; cases h2; exact .inr ⟨rfl, rfl⟩
      | succ k => rw [hk] at h1; cases h1
  have mem : ∀ {a : Addr}, a ∈ g.ro ++ [p] → a ∈ g.ro ∨ a = p := fun {a} h => by simpa using h
  refine ⟨r.env mo ⟨by simp [Gh.box, r.h.len], ?_, fun n c' a h1 h2 => ?_, fun n c' a h1 h2 lv f => ?_, r.h.fzt, fun a h => ?_, r.h.frm, r.h.nfz, fun a h => ?_, r.h.m0.trans mo, r.h.tb.box (fun u z => by rw [d.at_] at z; cases z; exact plain_dK), r.h.tbe⟩, mo⟩
  · show (g.ro ++ [p]).Nodup
    rw [List.nodup_append]
    exact ⟨r.h.nd, by simp, fun x hx y hy => by simp at hy; subst hy; exact fun z => d.nr (z ▸ hx)⟩
  · rcases look h1 h2 with ⟨e1, e2⟩ | ⟨rfl, rfl⟩
    · exact (r.h.cell n c' a e1 e2).mono mo rfl
    · exact ⟨kvs, d.at_, rf.mono mo⟩
  · rcases look h1 h2 with ⟨e1, e2⟩ | ⟨rfl, rfl⟩
    · exact r.h.thaw n c' a e1 e2 lv f
    · exact d.nf f
  · rcases mem h with h | rfl
    · exact r.h.rot a h
    · exact ⟨_, d.at_⟩
  · rcases mem h with h | rfl
    · exact r.h.nro a h
    · exact .inr d.ne
def GoK (C : MC) (σ : L2.St) (D : Addr) (r : Res (List (Key × M))) (g : Gh) (H : Hp) (Q : Hp → Prop) : Prop := match r with
  | .ok ms s => ∀ (g' : Gh) (H' : Hp) (vs : List (Key × V)), Mono g H g' H' → C.rel g' s σ H' → SideK C.e g' H' D vs → RFs C.T g' H' ms vs → Q H'
  | _ => False
theorem GoK.later {D : Addr} {r : Res (List (Key × M))} {Q : Hp → Prop} (m : Mono g H g1 H1) (h : GoK C σ D r g H Q) : GoK C σ D r g1 H1 Q := by
  cases r with
  | ok a s => exact fun g' H' v q => h g' H' v (m.trans q)
  | err x s => exact h
  | stuck => exact h
theorem wipe_two (us : List Nat) (τ : L2.St) : wipe (wipe τ us) us = wipe τ us := by
  have key : ∀ (us : List Nat) (τ : L2.St) (j : Nat), (wipe τ us)[j]? = if j ∈ us then (if j < τ.length then some none else none) else τ[j]? := by
    intro us
    induction us with
    | nil => intro τ j; simp [wipe]
    | cons k us ih =>
      intro τ j
      unfold wipe
      rw [List.getElem?_set, ih, wipe_length]
      by_cases hk : k = j
      · subst hk; simp
      · simp [hk, Ne.symm hk]
  apply List.ext_getElem?
  intro j
  rw [key, key, wipe_length]
  split <;> rfl
theorem dcLoop_ne {vs : List Nat} {mg : MG} {mt : MT} {mk me : ME} {x : Exc} {s2 : MS} : ∀ (xs : List M) (acc : List (Key × M)) (s : MS), dcLoop vs mg mt mk me xs acc s ≠ .err x s2
  | [], acc, s, z => by cases z
  | y :: ys, acc, s, z => by
    unfold dcLoop at z
    split at z
    · split at z
      · split at z
        · split at z
          · split at z
            · split at z
              · exact dcLoop_ne ys _ _ z
              · cases z
            · cases z
          · cases z
        · cases z
      · exact dcLoop_ne ys _ _ z
      · cases z
    · cases z
theorem dc_rd {mi : MI} {mg : MG} {mt : MT} {mk me : ME} {vs : List Nat} {g' : TG} {tt : TT} {tk te : TE} (hg : ∀ e v σ H Q, rdGc ⟨C.X, C.T, e, fun _ _ _ _ => False, C.hK⟩ vs mg v σ H Q → g' v σ H Q)
    (ht : ∀ e σ H Q, rdT ⟨C.X, C.T, e, fun _ _ _ _ => False, C.hK⟩ mt σ H Q → tt σ H Q) (hk : ∀ e σ H Q, rdE ⟨C.X, C.T, e, fun _ _ _ _ => False, C.hK⟩ mk σ H Q → tk σ H Q) (he : ∀ e σ H Q, rdE ⟨C.X, C.T, e, fun _ _ _ _ => False, C.hK⟩ me σ H Q → te σ H Q) {σ : L2.St} {H : Hp} {Q : VK}
    (h : rdE C (mDc vs mi mg mt mk me) σ H Q) : tDc (rdI C mi) g' tt tk te vs σ H Q := by
  obtain ⟨g, s, r, q⟩ := h
  refine ⟨g, s, r, ?_⟩
  unfold mDc at q
  unfold GoI
  cases hm : mi s with
  | stuck => rw [hm] at q; exact q.elim
  | err x s1 => rw [hm] at q; exact q
  | ok items s1 =>
    rw [hm] at q
    dsimp only [Res.bind] at q
    intro g0 H0 J mo0 r0 wk D hD
    have q := Go.later mo0 q
    have fin0 : GoK C σ D (dcLoop vs mg mt mk me items [] s1) g0 H0 (fun H' => Q (.ref D) H') := by
      unfold GoK
      cases hl : dcLoop vs mg mt mk me items [] s1 with
      | stuck => rw [hl] at q; exact q.elim
      | err x s2 => exact absurd hl (dcLoop_ne _ _ _)
      | ok ms s2 =>
        rw [hl] at q
        intro g' H' ws mo r' d rs
        obtain ⟨r2, mo2⟩ := r'.adopt d rs
        exact q (g'.box D) H' (.ref D) (mo.trans mo2) r2 (boxAt r'.h)
    have hDr : D ∉ g0.ro := fun z => by obtain ⟨o, e⟩ := r0.h.rot D z; rw [hD] at e; cases e
    have hDf : ¬ g0.fz D := fun z => by obtain ⟨o, e⟩ := r0.h.fzt D z; rw [hD] at e; cases e
    have hDe : C.e.H D = none := (r0.h.lost hD).elim (fun z => z) fun z => absurd (r0.h.m0.ro.subset z) hDr
    have mo1 := mono_laid (o := .dK []) r0.h hD
    have r1 := r0.laid (o := .dK []) hD
    obtain ⟨G, Y, w, hG, hY⟩ := wk
    refine dk_it w (fun i H => ∃ g hp acc ws, Mono g0 H0 g H ∧ C.rel g ⟨s1.env, hp⟩ σ H ∧ SideK C.e g H D ws ∧ RFs C.T g H acc ws ∧ GoK C σ D (dcLoop vs mg mt mk me (items.drop i) acc ⟨s1.env, hp⟩) g H (fun H' => Q (.ref D) H'))
      ⟨g0, s1.hp, [], [], mo1, r1, ⟨upd_same, hDf, hDr, hDe⟩, .nil, fin0.later mo1⟩ (fun i H _ ⟨g, _, _, _, mo, _⟩ => hG g H mo) ?_ ?_
    · rintro i x H1 H2 hi ⟨g1, hp1, acc, ws, mo1, r1, d1, rs1, q1⟩ y
      obtain ⟨m, hm, mo2, r2, rv, same⟩ := hY i g1 H1 ⟨s1.env, hp1⟩ σ x H2 hi mo1 r1 y
      have d2 : SideK C.e g1 H2 D ws := ⟨same _ _ d1.at_, d1.nf, d1.nr, d1.ne⟩
      have q1 := q1.later mo2
      have rs2 := rs1.mono mo2
      rw [drop_of hm] at q1
      unfold dcLoop at q1
      have rt : Rel C.T ⟨g1, H2⟩ g1 ⟨wipeM s1.env vs, hp1⟩ (wipe σ vs) H2 := by
        have z := Rel.wipe (vs := vs) r2
        exact ⟨z.h.self, z.len, z.sl⟩
      refine hg ⟨g1, H2⟩ _ _ _ _ ⟨g1, ⟨wipeM s1.env vs, hp1⟩, m, rt, rv, ?_⟩
      dsimp only at q1
      cases ht1 : mg m ⟨wipeM s1.env vs, hp1⟩ with
      | stuck => rw [ht1] at q1; exact q1.elim
      | err e s2 => rw [ht1] at q1; exact q1.elim
      | ok u s2 =>
        rw [ht1] at q1
        intro σ2 r3 hw
        refine ⟨by rw [hw]; exact wipe_two vs σ, ht ⟨g1, H2⟩ _ _ _ ⟨g1, s2, r3, ?_⟩⟩
        dsimp only at q1
        cases ht2 : mt s2 with
        | stuck => rw [ht2] at q1; exact q1.elim
        | err e s3 => rw [ht2] at q1; exact q1.elim
        | ok k s3 =>
          rw [ht2] at q1
          intro g3 H3 b mo3 r3' eb
          cases eb
          cases k with
          | false =>
            rw [if_neg Bool.false_ne_true]
            have mo3' := r3'.h.m0
            exact ⟨g3, s3.hp, acc, ws, (mo1.trans mo2).trans mo3', r2.env mo3' (r2.h.comp r3'.h), d2.later (hp := hp1) r3'.h, rs2.mono mo3', q1.later mo3'⟩
          | true =>
            rw [if_pos rfl]
            refine hk ⟨g1, H2⟩ _ _ _ ⟨g3, s3, r3', ?_⟩
            dsimp only at q1
            cases ht3 : mk s3 with
            | stuck => rw [ht3] at q1; exact q1.elim
            | err e s4 => rw [ht3] at q1; exact q1.elim
            | ok y s4 =>
              rw [ht3] at q1
              intro g4 H4 yv mo4 r4 ry
              dsimp only at q1
              cases hky : keyM y with
              | none => rw [hky] at q1; exact q1.elim
              | some ky =>
                rw [hky] at q1
                dsimp only at q1
                have ey := keyM_at hky ry
                refine he ⟨g1, H2⟩ _ _ _ ⟨g4, s4, r4, ?_⟩
                cases ht4 : me s4 with
                | stuck => rw [ht4] at q1; exact q1.elim
                | err e s5 => rw [ht4] at q1; exact q1.elim
                | ok z s5 =>
                  rw [ht4] at q1
                  intro g5 H5 zv mo5 r5 rz
                  dsimp only at q1
                  by_cases hb : acc.length < big
                  · rw [if_pos hb] at q1
                    have mo5' := r5.h.m0
                    have rc : RelH C.T C.e g5 s5.hp H5 := r2.h.comp r5.h
                    have d5 := d2.later (hp := hp1) r5.h
                    have rs5 := rs2.mono mo5'
                    obtain ⟨rh6, mo6, d6⟩ := rc.sideK (ws := putK ws ky zv) d5
                    exact ⟨ws, ky, ey, d5.at_, by rw [← rs5.length, sizeLine_eq]; exact hb, g5, s5.hp, putG acc ky z, putK ws ky zv, ((mo1.trans mo2).trans mo5').trans mo6, (r2.env mo5' rc).env mo6 rh6, d6, (rs5.put ky rz).mono mo6, q1.later (mo5'.trans mo6)⟩
                  · rw [if_neg hb] at q1; exact q1.elim
    · rintro H1 ⟨g1, hp1, acc, ws, mo1, r1, d1, rs1, q1⟩
      rw [List.drop_length] at q1
      exact q1 g1 H1 ws (Mono.refl _ _) r1 d1 rs1
variable {tg iter elt kxe : Expr} {ifs : List Expr} {scope : Scope} {own : List (Str × Nat)} {pos spos : Pos} {mi : MI} {mg : MG} {mt : MT} {mk me : ME}
theorem em_dc (hc : C.X.calm = true) (hN : C.X.N.Nodup) (hi : PMi C tg iter mi) (ok : BlkOk C.X.N C.X.env.scope scope own)
    (hg : ∀ (s : Shared) (H : Hp) (D : Addr) (cl : List (Str × Addr)) (fp : List Addr) (e : En), PMc (C.inBlk s H scope D cl fp e) (own.map (·.2)) tg mg)
    (ht : ∀ (s : Shared) (H : Hp) (D : Addr) (cl : List (Str × Addr)) (fp : List Addr) (e : En), PMts (C.inBlk s H scope D cl fp e) ifs mt)
    (hk : ∀ (s : Shared) (H : Hp) (D : Addr) (cl : List (Str × Addr)) (fp : List Addr) (e : En), PMe (C.inBlk s H scope D cl fp e) kxe mk)
    (he : ∀ (s : Shared) (H : Hp) (D : Addr) (cl : List (Str × Addr)) (fp : List Addr) (e : En), PMe (C.inBlk s H scope D cl fp e) elt me)
    (hs : ∀ x, foldedSetIterable iter C.X.env x = pure x := by intro _; rfl) : PMe C (.DictComp kxe elt [⟨tg, iter, ifs, 0⟩] scope pos) (mDc (own.map (·.2)) mi mg mt mk me) :=
  wkE (pe_dc (g := fun v σ H Q => ∃ e, rdGc ⟨C.X, C.T, e, fun _ _ _ _ => False, C.hK⟩ (own.map fun (p : Str × Nat) => p.2) mg v σ H Q) (tt := fun σ H Q => ∃ e, rdT ⟨C.X, C.T, e, fun _ _ _ _ => False, C.hK⟩ mt σ H Q)
    (tk := fun σ H Q => ∃ e, rdE ⟨C.X, C.T, e, fun _ _ _ _ => False, C.hK⟩ mk σ H Q) (tv := fun σ H Q => ∃ e, rdE ⟨C.X, C.T, e, fun _ _ _ _ => False, C.hK⟩ me σ H Q) hc hN hi ok
    (fun s H D cl fp => ⟨fun pins s1 σ H1 v u Q I r ⟨e, q⟩ => (hg s H D cl fp e).run pins s1 σ H1 v u Q I r q⟩)
    (fun s H D cl fp => ⟨fun pins s1 σ H1 Q I ⟨e, q⟩ => (ht s H D cl fp e).run pins s1 σ H1 Q I q⟩)
    (fun s H D cl fp => ⟨fun pins s1 σ H1 Q I ⟨e, q⟩ => (hk s H D cl fp e).run pins s1 σ H1 Q I q⟩)
    (fun s H D cl fp => ⟨fun pins s1 σ H1 Q I ⟨e, q⟩ => (he s H D cl fp e).run pins s1 σ H1 Q I q⟩) hs)
    fun σ H Q h => dc_rd (fun e v σ H Q z => ⟨e, z⟩) (fun e σ H Q z => ⟨e, z⟩) (fun e σ H Q z => ⟨e, z⟩) (fun e σ H Q z => ⟨e, z⟩) h
end
/-! ### d == e, the values ints -/
section
variable {C : MC} {g g1 : Gh} {H H1 : Hp} {s : MS} {σ : L2.St} {T : Tab}
/-- none: a value that is no int; else whether all are there -/
def eqD (lms : List (Key × M)) : List (Key × M) → Option Bool
  | [] => some true
  | (k, .int i) :: r => match valG lms k, eqD lms r with
    | none, some _ => some false
    | some (.int j), some b => some ((i == j) && b)
    | _, _ => none
  | _ => none
theorem eqD_hits {A : Around} {sh : Shared} {lms : List (Key × M)} {lvs : List (Key × V)} {vb : List (Key × Value)} (r2 : RFs T g H lms lvs) (k2 : KV lvs vb) : ∀ {kms : List (Key × M)} {kvs : List (Key × V)} {va : List (Key × Value)} {b : Bool},
    RFs T g H kms kvs → KV kvs va → eqD lms kms = some b → KeqHits A sh vb va b
  | [], _, _, b, .nil, .nil, h => by cases h; exact .nil
  | (k, m) :: kms, (_, v) :: kvs, (k', u) :: va, b, .cons rv rs, .cons hd tl, h => by
    obtain ⟨e1, ru⟩ := hd
    have e1 : k = k' := e1
    subst e1
    have ru : RelV v u := ru
    cases m <;> first | cases h | skip
    rename_i i
    unfold eqD at h
    cases rv
    obtain ⟨t, rfl⟩ := (show ∃ t, u = Value.int i t from ru)
    split at h
    · rename_i b' h1 h2
      cases h
      rcases r2.valG k with ⟨m', vv, f1, f2, f3⟩ | ⟨f1, f2⟩
      · rw [f1] at h1; cases h1
      · have z := k2.val k
        rw [f2] at z
        cases q : valueAt vb k with
        | none => exact .miss q
        | some w => rw [q] at z; exact z.elim
    · rename_i j b' h1 h2
      cases h
      rcases r2.valG k with ⟨m', vv, f1, f2, f3⟩ | ⟨f1, f2⟩
      · rw [f1] at h1
        cases h1
        cases f3
        have z := k2.val k
        rw [f2] at z
        cases q : valueAt vb k with
        | none => rw [q] at z; exact z.elim
        | some w =>
          rw [q] at z
          obtain ⟨t', rfl⟩ := (show ∃ t, w = Value.int j t from z)
          exact .hit q (SeqAt.EqAt.int_int i t j t') (eqD_hits r2 k2 rs tl h2)
      · rw [f1] at h1; cases h1
    · cases h
def oEqK (neg : Bool) (o : M → M → MS → Res M) (x y : M) (s : MS) : Res M := match dictOf s.hp x, dictOf s.hp y with
  | some ks, some ls => match eqD ls ks with
    | some b => .ok (.bl (if neg then !(ks.length == ls.length && b) else (ks.length == ls.length && b))) s
    | none => .stuck
  | none, none => o x y s
  | _, _ => .stuck
theorem op_eqK {o : M → M → MS → Res M} (hu : C.X.A.units < cLine) (h : Op2Ok C (compareOp .Eq) o) : Op2Ok C (compareOp .Eq) (oEqK false o) := by
  intro pins sh σ H g ms m1 m2 x y v u Q I r r1 r2 l1 l2 q
  unfold oEqK at q
  split at q
  · rename_i ks ls h1 h2
    split at q
    · rename_i b hb
      obtain ⟨n, a, kvs, rfl, rfl, hro, e, rf⟩ := dictOf_at r h1 r1
      obtain ⟨n2, a2, kvs2, rfl, rfl, hro2, e2, rf2⟩ := dictOf_at r h2 r2
      cases (show v = Value.ref a from l1)
      cases (show u = Value.ref a2 from l2)
      obtain ⟨_, ya, va, ra, da⟩ := dk_rd I.hok e
      obtain ⟨_, yb, vb, rb, db⟩ := dk_rd I.hok e2
      refine keq_eq (knd := mixKind C.X.prog C.X.w) (r := b) ya yb da db hu (fun _ => eqD_hits rf2 rb rf ra hb) (fin_bl I (q.ret r (.bl _)) ?_)
      rw [rf.length, rf2.length, ra.length, rb.length]
      rfl
    · exact q.elim
  · exact h pins sh σ H g ms m1 m2 x y v u Q I r r1 r2 l1 l2 q
  · exact q.elim
end
end Ma
/-! Ma49: sorted(..) of pairs of ints, of ints; of lists and tuples. -/
namespace Ma
open L2 PySem.W PySem.Spec PySem PyProof.Rows
/-! ### the one sorted list -/
abbrev IP := Int × Int
def insP (p : IP) : List IP → List IP
  | [] => [p]
  | q :: r => if SrtO.lexB q p = true then q :: insP p r else p :: q :: r
def srtP : List IP → List IP
  | [] => []
  | p :: r => insP p (srtP r)
theorem insP_perm (p : IP) : ∀ l : List IP, (insP p l).Perm (p :: l)
  | [] => List.Perm.refl _
  | q :: r => by
    unfold insP
    split
    · exact ((insP_perm p r).cons q).trans (List.Perm.swap p q r)
    · exact List.Perm.refl _
theorem srtP_perm : ∀ l : List IP, (srtP l).Perm l
  | [] => List.Perm.refl _
  | p :: r => (insP_perm p (srtP r)).trans ((srtP_perm r).cons p)
/-- none behind comes before -/
abbrev leP (p q : IP) : Prop := SrtO.lexB q p = false
theorem leP_iff {p q : IP} : leP p q ↔ p.1 < q.1 ∨ (p.1 = q.1 ∧ p.2 ≤ q.2) := by
  unfold leP
  rw [SrtO.lexB_no]
  omega
theorem insP_sorted {p : IP} : ∀ {l : List IP}, l.Pairwise leP → (insP p l).Pairwise leP
  | [], _ => by simp [insP]
  | q :: r, h => by
    obtain ⟨h1, h2⟩ := List.pairwise_cons.mp h
    unfold insP
    split
    · rename_i hl
      refine List.pairwise_cons.mpr ⟨fun x hx => ?_, insP_sorted h2⟩
      rcases List.mem_cons.mp ((insP_perm p r).mem_iff.mp hx) with rfl | hx
      · have := SrtO.lexB_iff.mp hl
        exact leP_iff.mpr (by omega)
      · exact h1 x hx
    · rename_i hl
      have hpq : leP p q := by
        cases e : SrtO.lexB q p with
        | true => exact absurd e hl
        | false => exact e
      refine List.pairwise_cons.mpr ⟨fun x hx => ?_, h⟩
      rcases List.mem_cons.mp hx with rfl | hx
      · exact hpq
      · have a := leP_iff.mp hpq
        have b := leP_iff.mp (h1 x hx)
        exact leP_iff.mpr (by omega)
theorem srtP_sorted : ∀ l : List IP, (srtP l).Pairwise leP
  | [] => by simp [srtP]
  | p :: r => insP_sorted (srtP_sorted r)
theorem sorted_one : ∀ {l m : List IP}, l.Pairwise leP → m.Pairwise leP → l.Perm m → l = m
  | [], m, _, _, h => (List.Perm.eq_nil h.symm).symm
  | x :: l, [], _, _, h => absurd h.length_eq (by simp)
  | x :: l, y :: m, hl, hm, h => by
    obtain ⟨a1, a2⟩ := List.pairwise_cons.mp hl
    obtain ⟨b1, b2⟩ := List.pairwise_cons.mp hm
    have e : x = y := by
      rcases List.mem_cons.mp (h.mem_iff.mp (List.mem_cons_self (a := x) (l := l))) with e | hx
      · exact e
      · rcases List.mem_cons.mp (h.mem_iff.mpr (List.mem_cons_self (a := y) (l := m))) with e | hy
        · exact e.symm
        · have p := leP_iff.mp (a1 y hy)
          have q := leP_iff.mp (b1 x hx)
          exact Prod.ext (by omega) (by omega)
    subst e
    rw [sorted_one a2 b2 h.cons_inv]
/-! ### sorted(t), t a tuple -/
section
variable {prog : Program} {w : World} {A : Around} {E : Value → Shared → Prop} {s : Shared}
theorem sortT {t : Addr} {o : Obj} {vs : List Value} {n : Nat} {ltv : Value → Value → Bool} {Q : Value → Shared → Prop} (O : SrtO.Swo ltv) (ho : s.heap.get? t = some o) (hc : o.cls = .type "tuple") (hd : o.data = .seq vs.toArray n) (hz : vs.length ≤ sizeLine)
    (hS : 2 ≤ vs.length → ∀ (h₁ : Heap) (a : Addr), h₁.get? a = some (seqObj "list" vs.toArray 0) → (∀ b o, s.heap.get? b = some o → b ≠ a ∧ h₁.get? b = some o) → SrtO.SortableO prog w A.in1.in1 { s with heap := h₁ } a vs ltv)
    (h : ∀ (h1 h' : Heap) (out : List Value), SrtO.Srtd ltv out → SrtO.Stb ltv out vs → (∀ b o, s.heap.get? b = some o → h1.get? b = some o) → (∀ b o, h1.get? b = some o → h'.get? b = some o) → (∃ n, h'.get? h1.objs.size = some (seqObj "list" out.toArray n)) → Q (.ref h1.objs.size) { s with heap := h' }) :
    wpAny (model prog w) A (call (.builtin "sorted") [.ref t]) Q E s := by
  refine Calls.call_function_entry kind_sorted plain_sorted entry_sorted (args_sorted1 _) ?_
  unfold Builtin.«sorted»
  refine wpAny_bind (m := checkCount "sorted" 1 1 _) (wpAny_pure ?_)
  refine wpAny_bind (wpAny_collect_seq t (.inr rfl) ho hc hd (fun h1 hk => ?_) (by rw [List.size_toArray]; exact hz))
  have e : vs.toArray.toList = vs := by simp
  rw [e]
  refine wpAny_bind (wpAny_newList ?_ hz)
  have big : ∀ b o, h1.get? b = some o → b ≠ h1.objs.size := fun b o q => Nat.ne_of_lt (Heap.lt_size q)
  have here : (h1.push (seqObj "list" vs.toArray 0)).get? h1.objs.size = some (seqObj "list" vs.toArray 0) := Heap.get?_push_size _ rfl
  have keep : ∀ b o, s.heap.get? b = some o → b ≠ h1.objs.size ∧ (h1.push (seqObj "list" vs.toArray 0)).get? b = some o := fun b o q => ⟨big b o (hk b o q), Heap.get?_push_of_some _ (hk b o q)⟩
  show wpAny _ _ _ _ _ { s with heap := h1.push (seqObj "list" vs.toArray 0) }
  refine wpAny_bind (wpAny_holding (wpAny_call_entry slot_list_sort ⟨_, here, rfl⟩ entry_list_sort (SrtO.list_sort_ord O here hz (fun h2 => hS h2 _ _ here keep) fun out hs hb => ⟨_, rfl, ?_⟩) (args_list_sort _)))
  refine wpAny_pure ⟨_, rfl, h h1 _ out hs hb hk (fun b o q => ?_) (sortedHeap_at here)⟩
  have lt := Heap.lt_size q
  rw [sortedHeap_old (big b o q) (by rw [size_push']; exact Nat.lt_succ_of_lt lt)]
  exact Heap.get?_push_of_some _ q
end
section
variable {X : Cx}
theorem cr_sortedT : CallR X (.builtin "sorted") (fun vs H Q => ∃ (a : Addr) (xs : List V) (k : V → Int × Int), vs = [V.ref a] ∧ SqT X.K H a xs ∧ (∀ x ∈ xs, ∃ t, x = V.ref t ∧ H t = some (.tup [.int (k x).1, .int (k x).2])) ∧
    ∀ ys p, SrtO.Srtd (ltP k) ys → SrtO.Stb (ltP k) ys xs → H p = none → Q (.ref p) (upd H p (.lst ys))) := by
  intro pins s σ H vs us Q I r h
  obtain ⟨a, xs, k, rfl, hs, hx, q⟩ := h
  obtain ⟨its, rv, ht, hz⟩ := I.tuple hs
  obtain ⟨u, rfl, ru⟩ := vals1 r
  obtain rfl : u = Value.ref a := ru
  obtain ⟨e1, e2⟩ := refs_back rv fun x m => by
    obtain ⟨t, e, _⟩ := hx x m
    exact ⟨t, e⟩
  obtain ⟨o, ho, hc, n, hd⟩ := ht
  have hp : ∀ v ∈ its, Srt.IsPair s.heap v (k (backV v)).1 (k (backV v)).2 := fun v hv => by
    obtain ⟨t, rfl⟩ := e2 v hv
    have hm : V.ref t ∈ xs := by rw [e1]; exact List.mem_map.mpr ⟨_, hv, rfl⟩
    obtain ⟨t', e, ht⟩ := hx _ hm
    cases e
    obtain ⟨_, its2, r2, o, ho, hc, n, hd⟩ := I.hok _ _ ht
    obtain ⟨u1, u2, rfl, ri, rj⟩ := vals2 r2
    obtain ⟨t1, rfl⟩ := ri
    obtain ⟨t2, rfl⟩ := rj
    exact ⟨t, o, t1, t2, n, rfl, ho, hc, hd⟩
  refine sortT (SrtO.swo_lex fun u => k (backV u)) ho hc hd (by rw [← rv.length]; exact hz) (fun h2 h₁ a ha kk => ?_) fun h1 h' out s1 s2 k1 k2 hn => ?_
  · refine SrtO.pairs_sortableO (s := { s with heap := h₁ }) (by omega) (fun v hm => (hp v hm).keeps fun b o e _ => (kk b o e).2) fun o e => ?_
    have e' := e.symm.trans ha
    cases e'
    intro c
    exact absurd (Value.type.inj c) (by decide)
  · have h3 : ∀ u ∈ out, ∃ a, u = Value.ref a := fun u hu => e2 u (s2.perm.mem_iff.mp hu)
    obtain ⟨n, hn⟩ := hn
    have hb : SrtO.Stb (ltP k) (out.map backV) xs := by
      rw [e1]
      exact SrtO.Stb.map (ltP_swo k) backV s2
    have I1 : Inv X pins σ H { s with heap := h1 } := I.kept (t' := s.toks) k1
    refine ⟨.ref h1.objs.size, upd H h1.objs.size (.lst (out.map backV)), I1.laid (t' := s.toks) k2 (Nat.le_refl _) ⟨?_, out, n, vals_back h3, hn⟩, rfl, q _ _ (SrtO.srtd_map s1) hb (I1.hok.fresh (Nat.le_refl _))⟩
    rw [hb.perm.length_eq]
    exact hz
end
section
variable {C : MC} {g g1 : Gh} {H H1 : Hp} {s : MS} {σ : L2.St} {T : Tab}
def pairOf : M → Option IP
  | .tup [.int i, .int j] => some (i, j)
  | _ => none
def pairsOf : List M → Option (List IP)
  | [] => some []
  | m :: ms => match pairOf m, pairsOf ms with
    | some p, some ps => some (p :: ps)
    | _, _ => none
def pM (p : IP) : M := .tup [.int p.1, .int p.2]
/-- the two ints of a pair on the heap -/
def kOf (H : Hp) (x : V) : IP := match x with
  | .ref t => match H t with
    | some (.tup [.int i, .int j]) => (i, j)
    | _ => (0, 0)
  | _ => (0, 0)
theorem pairsOf_at : ∀ {ms : List M} {xs : List V} {ps : List IP}, RVs T g H ms xs → pairsOf ms = some ps → (∀ x ∈ xs, ∃ t, x = V.ref t ∧ H t = some (.tup [.int (kOf H x).1, .int (kOf H x).2])) ∧ xs.map (kOf H) = ps
  | [], _, _, .nil, h => by cases h; exact ⟨fun x hx => (nomatch hx), rfl⟩
  | m :: ms, x :: xs, _, .cons r rs, h => by
    unfold pairsOf at h
    split at h
    · rename_i p ps h1 h2
      cases h
      obtain ⟨a1, a2⟩ := pairsOf_at rs h2
      unfold pairOf at h1
      split at h1
      · rename_i i j
        cases h1
        cases r with
        | @tup a _ vs e rt =>
          cases rt with
          | cons ra rb =>
            cases rb with
            | cons rc rd =>
              cases rd; cases ra; cases rc
              have k : kOf H (.ref a) = (i, j) := by unfold kOf; dsimp only; rw [e]
              refine ⟨fun y hy => ?_, by rw [List.map_cons, a2, k]⟩
              rcases List.mem_cons.mp hy with rfl | hy
              · exact ⟨a, rfl, by rw [k]; exact e⟩
              · exact a1 y hy
      · cases h1
    · cases h
theorem pairs_rv : ∀ {ys : List V}, (∀ y ∈ ys, ∃ t, y = V.ref t ∧ H t = some (.tup [.int (kOf H y).1, .int (kOf H y).2])) → RVs T g H ((ys.map (kOf H)).map pM) ys
  | [], _ => .nil
  | y :: ys, h => by
    obtain ⟨t, e, ht⟩ := h y (List.mem_cons_self ..)
    refine .cons ?_ (pairs_rv fun z hz => h z (List.mem_cons_of_mem _ hz))
    generalize kOf H y = k at ht ⊢
    subst e
    exact .tup ht (.cons (.int _) (.cons (.int _) .nil))
def cSort (ms : List M) (s : MS) : Res M := match seqA s ms with
  | some xs => match pairsOf xs with
    | some ps => .ok (.lst ((srtP ps).map pM)) s
    | none => .stuck
  | none => .stuck
abbrev rSortA (K : PySem.W.Frag) : RC := fun vs H Q => (∃ (a : Addr) (xs : List V) (k : V → Int × Int), vs = [V.ref a] ∧ SqT K H a xs ∧ (∀ x ∈ xs, ∃ t, x = V.ref t ∧ H t = some (.tup [.int (k x).1, .int (k x).2])) ∧
    ∀ ys p, SrtO.Srtd (ltP k) ys → SrtO.Stb (ltP k) ys xs → H p = none → Q (.ref p) (upd H p (.lst ys))) ∨ rSortedPO K vs H Q
theorem cr_sortA {X : Cx} : CallR X (.builtin "sorted") (rSortA X.K) := CallR.alt cr_sortedT cr_sortedPO
theorem ok_sort : CallOk C (rSortA C.X.K) cSort := fun σ H g s ms xs Q r rs h => by
  unfold cSort at h
  split at h
  · rename_i ys hy
    split at h
    · rename_i ps hp
      obtain ⟨q, vs, rfl, hq, rv⟩ := seqA_at r rs hy
      obtain ⟨a1, a2⟩ := pairsOf_at rv hp
      have fin : ∀ zs p, SrtO.Srtd (ltP (kOf H)) zs → SrtO.Stb (ltP (kOf H)) zs vs → H p = none → Q (.ref p) (upd H p (.lst zs)) := fun zs p s1 s2 hn => by
        have e : zs.map (kOf H) = srtP ps := by
          refine sorted_one (List.pairwise_map.mpr s1) (srtP_sorted ps) (((s2.perm.map _).trans ?_).trans (srtP_perm ps).symm)
          rw [a2]
        have rz : RVs C.T g H ((srtP ps).map pM) zs := by
          rw [← e]
          exact pairs_rv fun y hy => a1 y (s2.perm.mem_iff.mp hy)
        exact h.newL r rz hn
      rcases hq with hq | hq
      · exact .inr ⟨q, vs, kOf H, rfl, hq, a1, fin⟩
      · exact .inl ⟨q, vs, kOf H, rfl, hq, a1, fin⟩
    · exact h.elim
  · exact h.elim
end
end Ma
/-! Ma50: str(i), join, texts with values in them, enumerate, zip. -/
namespace Ma
open L2 PySem.W PySem.Spec PySem PyProof.Rows
section
variable {C : MC} {g g1 : Gh} {H H1 : Hp} {s : MS} {σ : L2.St} {ex eo ea eb : Expr} {es : List Expr} {a b : ME} {ma : MA} {pos p apos tpos : Pos} {x : Str} {T : Tab}
/-! ### texts with values in them -/
/-! ### enumerate, zip -/
def enumM (ms : List M) : List M := ms.zipIdx.map fun p => .tup [.int (p.2 : Nat), p.1]
def iEnum (a : MA) : MI := fun s => (a s).bind fun ms s1 => match ms with
  | [.lst xs] => .ok (enumM xs) s1
  | _ => .stuck
theorem rdA_it {ma : MA} {f : List M → MS → Res (List M)} {R : It → Hp → Prop} (h : rdI C (fun s => (ma s).bind f) σ H R) : rdA C ma σ H fun xs H1 => ∃ ms s1 g1, C.rel g1 s1 σ H1 ∧ RVs C.T g1 H1 ms xs ∧ GoI C σ (f ms s1) g1 H1 R := by
  obtain ⟨g, s, r, q⟩ := h
  refine ⟨g, s, r, ?_⟩
  dsimp only at q
  cases hm : ma s with
  | stuck => rw [hm] at q; exact q.elim
  | err x s1 => rw [hm] at q; exact q
  | ok ms s1 => rw [hm] at q; exact fun g' H' v mo r' rv => ⟨ms, s1, g', r', rv, GoI.later mo q⟩
theorem wk_pair {items : List M} {J : It} {G : Hp → Prop} {f1 f2 : Nat → Option V} (w : Walk J items.length G (YPair f1 f2)) (hG : ∀ g1 H1, Mono g H g1 H1 → G H1)
    (hi : ∀ i x y, i < items.length → f1 i = some x → f2 i = some y → ∃ m1 m2, items[i]? = some (.tup [m1, m2]) ∧ RV C.T g H m1 x ∧ RV C.T g H m2 y) : Wk C g H items J := by
  refine ⟨G, _, w, hG, fun i g1 H1 s σ x H2 hlt mo rel y => ?_⟩
  obtain ⟨t, v1, v2, rfl, hn, rfl, e1, e2⟩ := y
  obtain ⟨m1, m2, e, r1, r2⟩ := hi i v1 v2 hlt e1 e2
  have ml := mono_laid (o := .tup [v1, v2]) rel.h hn
  have m := mo.trans ml
  exact ⟨_, e, ml, rel.laid hn, .tup upd_same (.cons (r1.mono m) (.cons (r2.mono m) .nil)), fun a o h => by rw [upd_ne (ne_of_none h hn)]; exact h⟩
theorem im_enum {elts : List Expr} {kk : Nat} (ha : PMa C [ex] ma) (hm : C.X.mg "enumerate" = none) (hg : Gl C.X "enumerate" := by rfl) (hs : starEach [ex] C.X.env = [(false, eval ex C.X.env)] := by rfl) :
    PMi C (.Tuple elts kk tpos) (.Call (.Name "enumerate" p) [ex] [] pos) (iEnum ma) := by
  refine ⟨fun pins sh σ H R I h => (pi_enum hg hm ha hs).run pins sh σ H R I ?_⟩
  obtain ⟨g, s, r, q⟩ := rdA_it h
  refine ⟨g, s, r, q.imp ?_⟩
  rintro xs H1 ⟨ms, s1, g1, r1, rs, q1⟩
  split at q1
  · rename_i ys
    cases rs with
    | cons ra rb =>
      cases rb
      cases ra with
      | @lst a _ vs f e rs =>
        refine ⟨a, vs, rfl, .inl (.inl e), q1 g1 H1 _ (Mono.refl _ _) r1 ?_⟩
        have hl : (enumM ys).length = vs.length := by simp [enumM, rs.length]
        refine wk_pair (G := fun H => SqL C.X.K H a vs) (hl ▸ walk_enum) (fun g2 H2 mo2 => .inl (.inl ((mo2.fh _ f).trans e))) fun i x y hi e1 e2 => ?_
        cases e1
        have hj : i < ys.length := by rw [hl] at hi; rw [rs.length]; exact hi
        obtain ⟨v, hv, rv⟩ := rs.get (List.getElem?_eq_getElem hj)
        rw [hv] at e2
        cases e2
        exact ⟨_, _, by simp [enumM, hj], .int _, rv⟩
  · exact q1.elim
end
end Ma
/-! Ma51: small things that a text's readings name. -/
namespace Ma
open L2 PySem.W PySem.Spec PySem PyProof.Rows
theorem room1 {u : Nat} (h : u + 64 < cLine) : u + 1 < cLine := by omega
theorem room0 {u : Nat} (h : u + 64 < cLine) : u < cLine := by omega
section
variable {C : MC} {g g1 : Gh} {H H1 : Hp} {s : MS} {σ : L2.St} {ex : Expr} {a : ME} {pos : Pos} {T : Tab}
abbrev mAt (a : ME) (o : M → MS → Res M) : ME := fun s => (a s).bind o
abbrev mItems (a : ME) : ME := fun s => (a s).bind oItems
theorem op_neK {o : M → M → MS → Res M} (hu : C.X.A.units < cLine) (h : Op2Ok C (compareOp .NotEq) o) : Op2Ok C (compareOp .NotEq) (oEqK true o) := by
  intro pins sh σ H g ms m1 m2 x y v u Q I r r1 r2 l1 l2 q
  unfold oEqK at q
  split at q
  · rename_i ks ls h1 h2
    split at q
    · rename_i b hb
      obtain ⟨n, a, kvs, rfl, rfl, hro, e, rf⟩ := dictOf_at r h1 r1
      obtain ⟨n2, a2, kvs2, rfl, rfl, hro2, e2, rf2⟩ := dictOf_at r h2 r2
      cases (show v = Value.ref a from l1)
      cases (show u = Value.ref a2 from l2)
      obtain ⟨_, ya, va, ra, da⟩ := dk_rd I.hok e
      obtain ⟨_, yb, vb, rb, db⟩ := dk_rd I.hok e2
      refine keq_ne (knd := mixKind C.X.prog C.X.w) (r := b) ya yb da db hu (fun _ => eqD_hits rf2 rb rf ra hb) (fin_bl I (q.ret r (.bl _)) ?_)
      rw [rf.length, rf2.length, ra.length, rb.length]
      rfl
    · exact q.elim
  · exact h pins sh σ H g ms m1 m2 x y v u Q I r r1 r2 l1 l2 q
  · exact q.elim
end
end Ma
/-! Ma52: list(range(n)), bool(x) by an own `__len__`. -/
namespace Ma
open L2 PySem.W PySem.Spec PySem PyProof.Rows
section
variable {C : MC} {g g1 : Gh} {H H1 : Hp} {s : MS} {σ : L2.St} {ea eb ex : Expr} {es : List Expr} {a b : ME} {ma : MA} {pos p p2 pos2 : Pos} {x c name f : Str} {k : Nat} {F : Fn} {pins : List (Addr × Obj)} {sh : Shared} {T : Tab}
def pTru : M → Option M
  | .int i => if 0 ≤ i ∧ i < 9223372036854775808 then some (.bl (i != 0)) else none
  | _ => none
theorem RVs.upTo (n : Nat) : RVs T g H (Ma.upTo 0 n) ((List.range n).map fun i => V.int (0 + (i : Nat))) := by
  unfold Ma.upTo
  induction (List.range n) with
  | nil => exact .nil
  | cons i r ih => exact .cons (.int _) ih
def mListRange (a : ME) : ME := fun s => (a s).bind fun x s1 => match x with
  | .int n => if 0 ≤ n ∧ n ≤ 1048576 then .ok (.lst (upTo 0 n.toNat)) s1 else .stuck
  | _ => .stuck
theorem em_listRange (hc : C.X.calm = true) (hm : C.X.mg "list" = none) (hm2 : C.X.mg "range" = none) (ha : PMe C ex a) (hg : Gl C.X "list" := by rfl) (hg2 : Gl C.X "range" := by rfl)
    (na : starEach [ex] C.X.env = (false, eval ex C.X.env) :: starEach [] C.X.env := by rfl)
    (nb : starEach [.Call (.Name "range" p2) [ex] [] pos2] C.X.env = (false, eval (.Call (.Name "range" p2) [ex] [] pos2) C.X.env) :: starEach [] C.X.env := by rfl) :
    PMe C (.Call (.Name "list" p) [.Call (.Name "range" p2) [ex] [] pos2] [] pos) (mListRange a) :=
  wkE (pe_listRg hc hg hm (prg_1 hg2 hm2 ha na) nb) fun σ H Q h => by
    obtain ⟨g, s, r, q⟩ := rdE_bind h
    refine ⟨g, s, r, q.imp ?_⟩
    rintro x H1 ⟨m, s1, g1, r1, rv, q1⟩
    split at q1
    · rename_i n
      by_cases hn : 0 ≤ n ∧ n ≤ 1048576
      · rw [if_pos hn] at q1
        cases rv
        obtain ⟨h0, h1⟩ := hn
        refine ⟨n, rfl, ⟨by omega, by omega, by omega, by omega, by omega⟩, fun l hl => ?_⟩
        have e : (n - 0).toNat = n.toNat := by rw [Int.sub_zero]
        refine q1.newL r1 ?_ hl
        unfold rgV
        rw [e]
        exact RVs.upTo _
      · rw [if_neg hn] at q1; exact q1.elim
    · exact q1.elim
end
end Ma
/-! Ma53: dict displays. -/
namespace Ma
open L2 PySem.W PySem.Spec PySem PyProof.Rows
section
variable {C : MC} {g g1 : Gh} {H H1 : Hp} {s : MS} {σ : L2.St} {ea eb ex : Expr} {es : List Expr} {a b : ME} {pos p : Pos} {T : Tab} {ps : List (ME × ME)} {keys : List (Option Expr)} {values : List Expr}
abbrev rdPs (C : MC) (ps : List (ME × ME)) : List (TE × TE) := ps.map fun q => (rdE C q.1, rdE C q.2)
structure PMp (C : MC) (pos : Pos) (keys : List (Option Expr)) (values : List Expr) (ps : List (ME × ME)) : Prop where
  run : PPs C.X pos keys values (rdPs C ps)
theorem PMp.nil : PMp C pos [] [] [] := ⟨pps_nil⟩
theorem PMp.cons (ha : PMe C ea a) (hb : PMe C eb b) (h : PMp C pos keys values ps) : PMp C pos (some ea :: keys) (eb :: values) ((a, b) :: ps) := ⟨pps_cons ha hb h.run⟩
end
end Ma
/-! Ma54: a built-in value compared with an own instance: the own `__eq__` is asked; in of lists by it. -/
namespace Ma
open L2 PySem.W PySem.Spec PySem PyProof.Rows
end Ma
/-! Ma55: (a, b, ..) = a tuple or a list. -/
namespace Ma
open L2 PySem.W PySem.Spec PySem PyProof.Rows
section
variable {C : MC} {g g1 : Gh} {H H1 : Hp} {s : MS} {σ : L2.St} {pos p : Pos} {x c name f : Str}
def gUnpN (is : List Nat) : MG := fun w s => match w with
  | .lst ms => match setM is ms s.env with
    | some env' => .ok () ⟨env', s.hp⟩
    | none => .stuck
  | w => gTupN is w s
theorem setM_len : ∀ {is : List Nat} {ms : List M} {env env' : List (Option M)}, setM is ms env = some env' → ms.length = is.length
  | [], [], _, _, _ => rfl
  | [], _ :: _, _, _, z => by cases z
  | _ :: _, [], _, _, z => by cases z
  | _ :: is, _ :: ms, _, _, z => congrArg Nat.succ (setM_len (is := is) (ms := ms) z)
theorem gm_unpN {es : List Expr} {k : Nat} {is : List Nat} {n : Nat} (hc : C.X.calm = true) (h : PGs C.X es (gNs is)) (hl : is.length = n := by rfl)
    (hn : (assignEach es C.X.env).length = n := by rfl) (hst : (assignEach es C.X.env).findIdx? (·.1) = none := by rfl) : PMg C (.Tuple es k pos) (gUnpN is) := by
  refine ⟨fun pins sh σ H v u Q I l q => ?_⟩
  obtain ⟨g, s, w, r, rv, q1⟩ := q
  by_cases hw : ∃ ms, w = .lst ms
  · obtain ⟨ms, rfl⟩ := hw
    unfold gUnpN at q1
    dsimp only at q1
    cases he : setM is ms s.env with
    | none => rw [he] at q1; exact q1.elim
    | some env' =>
      rw [he] at q1
      cases rv with
      | @lst pa _ vs fz e rs =>
        exact (pg_unl (n := n) hc h hn hst).run pins sh σ H _ u Q I l ⟨pa, vs, rfl, .inl (.inl e), by rw [← rs.length, setM_len he, hl], ns_of (env := s.env) (hp := s.hp) r rs he fun σ' r' _ => q1 g H σ' (Mono.refl _ _) r'⟩
  · have e : gUnpN is w s = gTupN is w s := by
      cases w <;> first | rfl | exact absurd ⟨_, rfl⟩ hw
    rw [e] at q1
    exact (gm_tupN hc h hl hn hst).run pins sh σ H v u Q I l ⟨g, s, w, r, rv, q1⟩
end
end Ma
/-! Ma56: what a law's head tells of own classes: methods, properties, making, fields. -/
namespace Ma
open L2 PySem.W PySem.Spec PySem PyProof.Rows
/-- the head's hook, defs at any address -/
def obsP (fa : List He.Fa) (fn : List He5.DefA) (ni : List IniD) (ex : Frag → Bool) (K : Frag) : AlM :=
  ((fa.all fun f => f.ok K) && ((fn.all fun d => d.ok K) && ex K), fn.map fun d => He5.fnA K (d.at_ K), ni.map fun d => iniW K d.cls)
def valP (fn : List He5.DefA) (ni : List IniD) : AlM := (true, fn.map He5.DefA.val, ni.map IniD.val)
def SaysP (fa : List He.Fa) (fn : List He5.DefA) (ni : List IniD) (ex : Frag → Bool) (K : Frag) : Prop := obsP fa fn ni ex K = valP fn ni
section
variable {fa : List He.Fa} {fn : List He5.DefA} {ni : List IniD} {ex : Frag → Bool} {K : Frag}
theorem SaysP.d (c : SaysP fa fn ni ex K) : He5.SaysA fa fn K := by
  have h1 : ((fa.all fun f => f.ok K) && ((fn.all fun d => d.ok K) && ex K)) = true := congrArg (fun z : AlM => z.1) c
  have h2 : (fn.map fun d => He5.fnA K (d.at_ K)) = fn.map He5.DefA.val := congrArg (fun z : AlM => z.2.1) c
  obtain ⟨a, b⟩ := Bool.and_eq_true_iff.mp h1
  obtain ⟨b, _⟩ := Bool.and_eq_true_iff.mp b
  show (((fa.all fun f => f.ok K) && fn.all fun d => d.ok K), fn.map fun d => He5.fnA K (d.at_ K)) = (true, fn.map He5.DefA.val)
  rw [h2, a, b]; rfl
theorem SaysP.more (c : SaysP fa fn ni ex K) : ex K = true := by
  have h1 : ((fa.all fun f => f.ok K) && ((fn.all fun d => d.ok K) && ex K)) = true := congrArg (fun z : AlM => z.1) c
  exact (Bool.and_eq_true_iff.mp (Bool.and_eq_true_iff.mp h1).2).2
theorem SaysP.ini (c : SaysP fa fn ni ex K) {d : IniD} (h : d ∈ ni) : iniW K d.cls = d.val := by
  have h2 : (ni.map fun d => iniW K d.cls) = ni.map IniD.val := congrArg (fun z : AlM => z.2.2) c
  obtain ⟨i, hi, e⟩ := List.mem_iff_getElem.mp h
  have h3 : (ni.map fun d => iniW K d.cls)[i]? = (ni.map IniD.val)[i]? := by rw [h2]
  rw [List.getElem?_map, List.getElem?_map, List.getElem?_eq_getElem hi, e] at h3
  exact Option.some.inj h3
end
/-! ### a class's facts as Bools -/
section
variable {K : Frag} {C : Addr}
def clsB (K : Frag) (C : Addr) : Bool := plainGet K C Str.empty && (hasDictIn K C && (plainOver K C && eqb (findIn K (.ref C) "__setattr__") (some (some (.builtin "object.__setattr__")))))
theorem clsB_ok (h : clsB K C = true) : Cls K C := by
  obtain ⟨h1, h⟩ := Bool.and_eq_true_iff.mp h
  obtain ⟨h2, h⟩ := Bool.and_eq_true_iff.mp h
  obtain ⟨h3, h4⟩ := Bool.and_eq_true_iff.mp h
  exact ⟨h1, h2, h3, eqb_ok h4⟩
def insB (K : Frag) (C : Addr) : Bool := clsB K C && (eqb (findIn K (.ref C) "__class__") (some (some (.builtin "object.__class__"))) && (eqb (specialIn K (.builtin "object.__class__") "__get__") (some (some (.builtin "getset_descriptor.__get__"))) && (decide (takesIn K (.builtin "object.__class__") = some true) && decide (mroIn K C (.type "object") = some true))))
theorem insB_ok (h : insB K C = true) : InsK K C := by
  obtain ⟨h1, h⟩ := Bool.and_eq_true_iff.mp h
  obtain ⟨h2, h⟩ := Bool.and_eq_true_iff.mp h
  obtain ⟨h3, h⟩ := Bool.and_eq_true_iff.mp h
  obtain ⟨h4, h5⟩ := Bool.and_eq_true_iff.mp h
  exact ⟨clsB_ok h1, eqb_ok h2, eqb_ok h3, of_decide_eq_true h4, of_decide_eq_true h5⟩
def mkB (K : Frag) (C : Addr) : Bool := makesIn K C && (eqb (findIn K (.ref C) "__init__") (some (some (.ref (He.ma K C "__init__")))) && (isFn K (.ref (He.ma K C "__init__")) && keepIn K (.ref C)))
theorem mkB_ok (h : mkB K C = true) : Mk K C (He.ma K C "__init__") := by
  obtain ⟨h1, h⟩ := Bool.and_eq_true_iff.mp h
  obtain ⟨h2, h⟩ := Bool.and_eq_true_iff.mp h
  obtain ⟨h3, h4⟩ := Bool.and_eq_true_iff.mp h
  exact ⟨h1, eqb_ok h2, h3, h4⟩
def propB (K : Frag) (C : Addr) (f : Str) : Bool := eqb (findIn K (.ref C) f) (some (some (.ref (He.ma K C f)))) && (eqb (specialIn K (.ref (He.ma K C f)) "__get__") (some (some (.builtin "property.__get__"))) &&
  (decide (takesIn K (.ref (He.ma K C f)) = some true) && (match recIn K (He.ma K C f) "property" with
    | some (.ref _ :: _) => true
    | _ => false)))
theorem propB_ok {f : Str} (h : propB K C f = true) : PropOf K C f (He.ma K C f) (He5.wf K C "property" f) := by
  obtain ⟨h1, h⟩ := Bool.and_eq_true_iff.mp h
  obtain ⟨h2, h⟩ := Bool.and_eq_true_iff.mp h
  obtain ⟨h3, h4⟩ := Bool.and_eq_true_iff.mp h
  refine ⟨eqb_ok h1, eqb_ok h2, of_decide_eq_true h3, ?_⟩
  unfold He5.wf
  split at h4
  · rename_i g rest e
    rw [e]
    exact ⟨rest, rfl⟩
  · cases h4
def noB (K : Frag) (C : Addr) (f : Str) : Bool := eqb (findIn K (.ref C) f) (some none)
theorem noB_ok {f : Str} (h : noB K C f = true) : NoAttr K C f := eqb_ok h
end
section
variable {tb : List (Addr × Str)} {K : Frag} {cs : List Str} {c : Str} {P : Program} {w : World} {mg : Str → Option Value} {base : Heap} {k : Nat} {F : Fn}
theorem knT_of (hc : cs.contains c = true) (hg : mg c = some (.ref (He.ga K c))) (h : mkB K (He.ga K c) = true) (fp : FnP P w mg base ⟨K, adOf K cs, tb⟩ k (He.ma K (He.ga K c) "__init__") F) : KnT P w mg base ⟨K, adOf K cs, tb⟩ c k F :=
  ⟨_, _, adOf_mem hc, hg, mkB_ok h, fp⟩
theorem prK_of {f : Str} (h0 : clsB K (He.ga K c) = true) (h : propB K (He.ga K c) f = true) (fp : FnP P w mg base ⟨K, adOf K cs, tb⟩ k (He5.wf K (He.ga K c) "property" f) F) : PrK ⟨K, adOf K cs, tb⟩ c f P w mg base k F := ⟨fun A e => by
  rw [adOf_at (show adOf K cs c = some A from e)]
  exact ⟨clsB_ok h0, _, _, propB_ok h, fp⟩⟩
theorem fldC_of {f : Str} (h0 : clsB K (He.ga K c) = true) (h : noB K (He.ga K c) f = true) : FldC ⟨K, adOf K cs, tb⟩ c f := ⟨fun A e => by
  rw [adOf_at (show adOf K cs c = some A from e)]
  exact ⟨clsB_ok h0, noB_ok h⟩⟩
end
end Ma
/-! Ma57: data that can be shown and compared, with sizes. -/
namespace Ma
open L2 PySem.W PySem.Spec PySem PyProof.Rows
/-- plain signs alone -/
def lowS (x : Str) : Prop := ∀ c ∈ x.cps.toList, c < 128
theorem cps_append (a b : Str) : (a ++ b).cps.toList = a.cps.toList ++ b.cps.toList := by
  show (a.cps ++ b.cps).toList = _
  simp
theorem lowS_append {a b : Str} (ha : lowS a) (hb : lowS b) : lowS (a ++ b) := fun c h => by
  rw [cps_append, List.mem_append] at h
  exact h.elim (ha c) (hb c)
theorem lowS_int (i : Int) : lowS (Str.ofString (toString i)) := fun c h => by
  have e := signs_ofString (toString i)
  rw [e] at h
  obtain ⟨ch, hm, rfl⟩ := List.mem_map.mp h
  rcases int_sign i ch hm with h1 | rfl
  · have := digit_range h1; omega
  · decide
def lowB (x : Str) : Bool := x.cps.toList.all fun c => decide (c < 128)
theorem lowS_of {x : Str} (h : lowB x = true) : lowS x := fun c hc => of_decide_eq_true (List.all_eq_true.mp h c hc)
theorem lowS_empty : lowS Str.empty := fun c h => by
  have e : (Str.empty).cps.toList = [] := rfl
  rw [e] at h; cases h
theorem lowS_join {sep : Str} (hs : lowS sep) : ∀ {ts : List Str}, (∀ t ∈ ts, lowS t) → lowS (Str.join sep ts)
  | [], _ => by rw [join_nil]; exact lowS_empty
  | [x], h => by rw [join_one]; exact h x (by simp)
  | x :: y :: r, h => by
    rw [join_cons_cons]
    exact lowS_append (lowS_append (h x (by simp)) hs) (lowS_join hs fun t ht => h t (by simp [ht]))
theorem lowS_from : ∀ {ts : List Str} {k : Nat} {acc : Str}, lowS acc → (∀ t ∈ ts, lowS t) → lowS (textFrom k acc ts)
  | [], k, acc, ha, _ => ha
  | t :: ts, k, acc, ha, h => by
    refine lowS_from (k := k + 1) (lowS_append (lowS_append ha ?_) (h t (by simp))) fun u hu => h u (by simp [hu])
    split
    · exact lowS_of (by decide +kernel)
    · exact lowS_of (by decide +kernel)
theorem lowS_list {ts : List Str} (h : ∀ t ∈ ts, lowS t) : lowS (listText ts) := lowS_append (lowS_from (lowS_of (by decide +kernel)) h) (lowS_of (by decide +kernel))
theorem lowS_tuple {ts : List Str} (h : ∀ t ∈ ts, lowS t) : lowS (tupleText ts) := by
  unfold tupleText
  refine lowS_append (lowS_append (lowS_of (by decide +kernel)) (lowS_join (lowS_of (by decide +kernel)) h)) ?_
  split
  · exact lowS_of (by decide +kernel)
  · exact lowS_of (by decide +kernel)
theorem reprChar_low : ∀ c : Fin 128, (∀ x ∈ Builtin.Str.reprChar 34 c.val, x < 128) ∧ ∀ x ∈ Builtin.Str.reprChar 39 c.val, x < 128 := by decide +kernel
theorem lowS_repr {x : Str} (h : lowS x) : lowS (reprText x) := by
  have q : reprQuote x = 34 ∨ reprQuote x = 39 := by unfold reprQuote; split <;> simp
  have go : ∀ (l : List Nat) (acc : Array Nat), (∀ c ∈ acc.toList, c < 128) → (∀ c ∈ l, c < 128) → ∀ c ∈ (l.foldl (fun out c => out ++ (Builtin.Str.reprChar (reprQuote x) c).toArray) acc).toList, c < 128 := by
    intro l
    induction l with
    | nil => intro acc ha _; exact ha
    | cons p l ih =>
      intro acc ha hl
      refine ih _ (fun c hc => ?_) fun t ht => hl t (by simp [ht])
      rw [Array.toList_append, List.mem_append] at hc
      rcases hc with hc | hc
      · exact ha c hc
      · have hp := hl p (by simp)
        have e := reprChar_low ⟨p, hp⟩
        have hc : c ∈ Builtin.Str.reprChar (reprQuote x) p := by simpa using hc
        rcases q with q | q
        · rw [q] at hc; exact e.1 c hc
        · rw [q] at hc; exact e.2 c hc
  intro c hc
  unfold reprText at hc
  have hc : c ∈ ((x.cps.foldl (fun out c => out ++ (Builtin.Str.reprChar (reprQuote x) c).toArray) #[reprQuote x]).push (reprQuote x)).toList := hc
  have ql : reprQuote x < 128 := by rcases q with q | q <;> rw [q] <;> decide
  rw [Array.toList_push, List.mem_append, ← Array.foldl_toList] at hc
  rcases hc with hc | hc
  · exact go x.cps.toList _ (fun c hc => by simp at hc; rw [hc]; exact ql) h c hc
  · simp at hc; rw [hc]; exact ql
/-- data of depth at most k and weight at most w, all of it plain -/
structure Okd (d : PyData) (k w : Nat) : Prop where
  sh : d.showable = true
  nd : d.hasDict = false
  dep : d.depth ≤ k
  lay : d.canLay0 = true
  leaf : d.leavesShort 64 = true
  wt : d.weight ≤ w
  low : lowS d.shown
theorem Okd.le {d : PyData} {k w k' w' : Nat} (h : Okd d k w) (hk : k ≤ k') (hw : w ≤ w') : Okd d k' w' := ⟨h.sh, h.nd, Nat.le_trans h.dep hk, h.lay, h.leaf, Nat.le_trans h.wt hw, h.low⟩
theorem log2_small {i : Int} (h : i.natAbs < 10 ^ 40) : i.natAbs.log2 < 1920 := by
  by_cases h0 : i.natAbs = 0
  · rw [h0]; decide
  · have h2 : i.natAbs < 2 ^ 1920 := Nat.lt_of_lt_of_le h (by decide +kernel)
    exact (Nat.log2_lt h0).mpr h2
theorem Okd.int {i : Int} (h : i.natAbs < 10 ^ 40) : Okd (.int i) 0 140 := by
  refine ⟨decide_eq_true (log2_small h), rfl, Nat.le_refl _, rfl, decide_eq_true ?_, ?_, lowS_int i⟩
  rotate_left
  · simp only [PyData.weight]
    split
    · omega
    · rename_i h0
      have h2 : i.natAbs < 2 ^ 139 := Nat.lt_of_lt_of_le h (by decide +kernel)
      have h3 := (Nat.log2_lt (n := i.natAbs) (k := 139) (by simpa using h0)).mpr h2
      omega
  have e := int_text_length_le10 (a := i) (k := 40) (by decide) h
  show (Str.ofString (toString i)).length ≤ 64
  rw [PySem.ofString_length]; omega
theorem Okd.bl (b : Bool) : Okd (.bool b) 0 0 := ⟨rfl, rfl, Nat.le_refl _, rfl, rfl, Nat.le_refl _, by cases b <;> exact lowS_of (by decide +kernel)⟩
theorem Okd.non : Okd .none 0 0 := ⟨rfl, rfl, Nat.le_refl _, rfl, rfl, Nat.le_refl _, lowS_of (by decide +kernel)⟩
theorem strOk_low {x : Str} (h : lowS x) : PyData.strOk x = true := by
  unfold PyData.strOk
  rw [← Array.all_toList]
  exact List.all_eq_true.mpr fun c hc => decide_eq_true (by have := h c hc; omega)
theorem Okd.str {x : Str} (h : lowS x) : Okd (.str x) 0 x.length :=
  ⟨rfl, rfl, Nat.le_refl _, strOk_low h, List.all_eq_true.mpr fun c hc => decide_eq_true (by have := h c hc; omega), Nat.le_refl _, lowS_repr h⟩
structure Oks (ds : List PyData) (k w : Nat) : Prop where
  sh : PyData.showableAll ds = true
  nd : PyData.hasDictAll ds = false
  dep : PyData.depthAll ds ≤ k
  lay : PyData.canLayAll0 ds = true
  leaf : PyData.leavesShortAll 64 ds = true
  wt : PyData.weightAll ds ≤ w
  low : ∀ t ∈ PyData.shownAll ds, lowS t
theorem Oks.nil {k w : Nat} : Oks [] k w := ⟨rfl, rfl, Nat.zero_le _, rfl, rfl, Nat.zero_le _, fun t h => by simp [PyData.shownAll] at h⟩
theorem Oks.cons {d : PyData} {ds : List PyData} {k w v : Nat} (h : Okd d k w) (r : Oks ds k v) : Oks (d :: ds) k (w + 1 + v) := by
  refine ⟨?_, ?_, ?_, ?_, ?_, ?_, ?_⟩
  · simp [PyData.showableAll, h.sh, r.sh]
  · simp [PyData.hasDictAll, h.nd, r.nd]
  · have h1 := h.dep; have h2 := r.dep
    simp only [PyData.depthAll]
    omega
  · simp [PyData.canLayAll0, h.lay, r.lay]
  · simp [PyData.leavesShortAll, h.leaf, r.leaf]
  · have h1 := h.wt; have h2 := r.wt
    simp only [PyData.weightAll]
    omega
  · intro t ht
    simp only [PyData.shownAll, List.mem_cons] at ht
    rcases ht with rfl | ht
    · exact h.low
    · exact r.low t ht
theorem Oks.le {ds : List PyData} {k w k' w' : Nat} (h : Oks ds k w) (hk : k ≤ k') (hw : w ≤ w') : Oks ds k' w' := ⟨h.sh, h.nd, Nat.le_trans h.dep hk, h.lay, h.leaf, Nat.le_trans h.wt hw, h.low⟩
theorem Oks.all {k w : Nat} : ∀ {ds : List PyData}, (∀ d ∈ ds, Okd d k w) → Oks ds k (ds.length * (w + 1))
  | [], _ => Oks.nil
  | d :: ds, h => by
    have e : (d :: ds).length * (w + 1) = w + 1 + ds.length * (w + 1) := by rw [List.length_cons, Nat.succ_mul]; omega
    rw [e]
    exact Oks.cons (h d (by simp)) (Oks.all fun x hx => h x (by simp [hx]))
theorem Okd.list {ds : List PyData} {k w : Nat} (h : Oks ds k w) : Okd (.list ds) (k + 1) w := ⟨h.sh, h.nd, Nat.succ_le_succ h.dep, h.lay, h.leaf, h.wt, lowS_list h.low⟩
theorem Okd.tuple {ds : List PyData} {k w : Nat} (h : Oks ds k w) : Okd (.tuple ds) (k + 1) w := ⟨h.sh, h.nd, Nat.succ_le_succ h.dep, h.lay, h.leaf, h.wt, lowS_tuple h.low⟩
theorem Okd.len {d : PyData} {k w : Nat} (h : Okd d k w) : d.shown.length ≤ 66 * w + 64 := by
  have e := PyData.shown_le 64 (by decide) d h.leaf
  have := h.wt
  have e2 : 66 * d.weight ≤ 66 * w := Nat.mul_le_mul_left _ this
  omega
theorem cRepr_seq {m : M} {s : MS} {d : PyData} {k w : Nat} (hd : datT s.hp m = some d) (hs : isSeqD d = true) (h : Okd d k w) (hk : k ≤ 64) (hw : w ≤ 200000) : cRepr [m] s = .ok (.str d.shown) s := by
  have e : (isSeqD d && d.showable && !d.hasDict && decide (d.depth ≤ 64) && decide (d.shown.length ≤ sizeLine)) = true := by
    have l := h.len
    have h1 : d.depth ≤ 64 := Nat.le_trans h.dep hk
    have h2 : d.shown.length ≤ sizeLine := by rw [sizeLine_eq]; omega
    rw [hs, h.sh, h.nd, decide_eq_true h1, decide_eq_true h2]; rfl
  cases m with
  | int i =>
    have hd : some (PyData.int i) = some d := hd
    cases hd
    cases hs
  | _ =>
    unfold cRepr
    dsimp only
    rw [hd]
    dsimp only
    rw [if_pos e]
theorem oEqD_str {x y : Str} {neg : Bool} {s : MS} (hx : lowS x) (hy : lowS y) : oEqD neg (.str x) (.str y) s = .ok (.bl (if neg then !(x == y) else (x == y))) s := by
  have e : ∀ z : Str, lowS z → SeqAt.shaped (.str z) = true := fun z hz => by
    unfold SeqAt.shaped
    rw [show PyData.canLay0 (.str z) = true from strOk_low hz]; rfl
  unfold oEqD
  simp only [datT, dat]
  rw [e x hx, e y hy]
  simp [PyData.eqv]
end Ma
/-! Ma58: pairs of ints as rows, as dicts, sorted. -/
namespace Ma
open L2 PySem.W PySem.Spec PySem PyProof.Rows
/-- a dict of ints -/
abbrev dm (ps : List IP) : List (Key × M) := ps.map fun p => (.inl p.1, .int p.2)
abbrev rm (ps : List IP) : List M := ps.map pM
def dP (p : IP) : PyData := .tuple [.int p.1, .int p.2]
abbrev keysP (ps : List IP) : List Int := ps.map (·.1)
def getP (ps : List IP) (k : Int) : Option Int := (ps.find? fun p => p.1 == k).map (·.2)
def updP (ps : List IP) (k v : Int) : List IP := ps.map fun p => if p.1 = k then (p.1, v) else p
theorem datL_rm : ∀ ps : List IP, datL (rm ps) = some (ps.map dP)
  | [] => rfl
  | p :: ps => by
    have e : dat (pM p) = some (dP p) := rfl
    show (match dat (pM p), datL (rm ps) with | some d, some ds => some (d :: ds) | _, _ => none) = _
    rw [e, datL_rm ps]; rfl
theorem pairsOf_rm : ∀ ps : List IP, pairsOf (rm ps) = some ps
  | [] => rfl
  | p :: ps => by
    show (match pairOf (pM p), pairsOf (rm ps) with | some p, some ps => some (p :: ps) | _, _ => none) = _
    rw [pairsOf_rm ps]; rfl
theorem pairsM_rm : ∀ ps : List IP, pairsM (rm ps) = some (dm ps)
  | [] => rfl
  | p :: ps => by
    show (match pairM (pM p), pairsM (rm ps) with | some p, some ps => some (p :: ps) | _, _ => none) = _
    rw [pairsM_rm ps]; rfl
theorem getP_mem {k v : Int} : ∀ {ps : List IP}, getP ps k = some v → (k, v) ∈ ps
  | [], h => by simp [getP] at h
  | p :: ps, h => by
    by_cases hk : p.1 = k
    · simp [getP, List.find?_cons, hk] at h
      subst hk h; simp
    · have e : getP (p :: ps) k = getP ps k := by simp [getP, List.find?_cons, hk]
      rw [e] at h
      exact List.mem_cons_of_mem _ (getP_mem h)
theorem getP_of {k v : Int} : ∀ {ps : List IP}, (keysP ps).Nodup → (k, v) ∈ ps → getP ps k = some v
  | [], _, h => by simp at h
  | p :: ps, hn, h => by
    rw [keysP, List.map_cons, List.nodup_cons] at hn
    rcases List.mem_cons.mp h with rfl | h
    · simp [getP, List.find?_cons]
    · have hk : p.1 ≠ k := fun e => hn.1 (e ▸ List.mem_map.mpr ⟨(k, v), h, rfl⟩)
      have e : getP (p :: ps) k = getP ps k := by simp [getP, List.find?_cons, hk]
      rw [e]
      exact getP_of hn.2 h
theorem getP_none {k : Int} {ps : List IP} : getP ps k = none ↔ k ∉ keysP ps := by
  constructor
  · intro h hm
    obtain ⟨p, hp, rfl⟩ := List.mem_map.mp hm
    simp only [getP, Option.map_eq_none_iff, List.find?_eq_none] at h
    exact h p hp (by simp)
  · intro h
    cases e : getP ps k with
    | none => rfl
    | some v => exact absurd (List.mem_map.mpr ⟨(k, v), getP_mem e, rfl⟩) h
theorem getP_perm {ps qs : List IP} (h : ps.Perm qs) (hn : (keysP ps).Nodup) (k : Int) : getP ps k = getP qs k := by
  have hq : (keysP qs).Nodup := (h.map _).nodup_iff.mp hn
  cases e : getP qs k with
  | some v => exact getP_of hn (h.mem_iff.mpr (getP_mem e))
  | none =>
    rw [getP_none] at e ⊢
    exact fun hm => e ((h.map _).mem_iff.mp hm)
theorem any_dm (k : Int) (ps : List IP) : ((dm ps).any fun kv => decide (kv.1 = (.inl k : Key))) = decide (k ∈ keysP ps) := by
  rw [Bool.eq_iff_iff, List.any_eq_true, decide_eq_true_iff, List.mem_map]
  constructor
  · rintro ⟨kv, hm, e⟩
    obtain ⟨p, hp, rfl⟩ := List.mem_map.mp hm
    exact ⟨p, hp, Sum.inl.inj (of_decide_eq_true e)⟩
  · rintro ⟨p, hp, rfl⟩
    exact ⟨_, List.mem_map.mpr ⟨p, hp, rfl⟩, decide_eq_true rfl⟩
theorem putG_new {ps : List IP} {k v : Int} (h : k ∉ keysP ps) : putG (dm ps) (.inl k) (.int v) = dm (ps ++ [(k, v)]) := by
  unfold putG
  rw [any_dm, if_neg (by simpa using h)]
  simp [dm]
theorem mergeM_dm : ∀ {qs ps : List IP}, (keysP (ps ++ qs)).Nodup → mergeM (dm ps) (dm qs) = dm (ps ++ qs)
  | [], ps, _ => by simp [mergeM]
  | q :: qs, ps, h => by
    have hq : q.1 ∉ keysP ps := by
      intro hm
      rw [keysP, List.map_append, List.nodup_append] at h
      exact h.2.2 q.1 hm q.1 (by simp) rfl
    show mergeM (putG (dm ps) (.inl q.1) (.int q.2)) (dm qs) = _
    rw [putG_new hq]
    have e : ps ++ q :: qs = (ps ++ [(q.1, q.2)]) ++ qs := by simp
    rw [e] at h ⊢
    exact mergeM_dm h
/-! ### sorted -/
def Srt (ps : List IP) : Prop := ps.Pairwise fun p q => p.1 < q.1
theorem Srt.nodup {ps : List IP} (h : Srt ps) : (keysP ps).Nodup := by
  unfold keysP List.Nodup
  rw [List.pairwise_map]
  exact h.imp fun {a b} q => by omega
theorem Srt.one : ∀ {ps qs : List IP}, Srt ps → Srt qs → ps.Perm qs → ps = qs
  | [], qs, _, _, h => (List.nil_perm.mp h).symm
  | p :: ps, [], _, _, h => (List.cons_ne_nil _ _ (List.perm_nil.mp h)).elim
  | p :: ps, q :: qs, h1, h2, h => by
    obtain ⟨a1, b1⟩ := List.pairwise_cons.mp h1
    obtain ⟨a2, b2⟩ := List.pairwise_cons.mp h2
    have e : p = q := by
      have m1 : p ∈ q :: qs := h.mem_iff.mp (by simp)
      have m2 : q ∈ p :: ps := h.mem_iff.mpr (by simp)
      rcases List.mem_cons.mp m1 with e | m1
      · exact e
      · rcases List.mem_cons.mp m2 with e | m2
        · exact e.symm
        · have := a1 q m2; have := a2 p m1; omega
    subst e
    rw [Srt.one b1 b2 ((List.perm_cons p).mp h)]
theorem Srt.upd {ps : List IP} (h : Srt ps) (k v : Int) : Srt (updP ps k v) := by
  unfold Srt updP
  rw [List.pairwise_map]
  refine h.imp fun {a b} q => ?_
  have e1 : (if a.1 = k then (a.1, v) else a).1 = a.1 := by split <;> rfl
  have e2 : (if b.1 = k then (b.1, v) else b).1 = b.1 := by split <;> rfl
  rw [e1, e2]; exact q
theorem srtP_pw : ∀ l : List IP, (srtP l).Pairwise leP
  | [] => List.Pairwise.nil
  | p :: r => insP_sorted (srtP_pw r)
theorem srtP_srt {ps : List IP} (hn : (keysP ps).Nodup) : Srt (srtP ps) := by
  have h1 := srtP_pw ps
  have h2 : (keysP (srtP ps)).Nodup := ((srtP_perm ps).map _).nodup_iff.mpr hn
  unfold keysP List.Nodup at h2
  rw [List.pairwise_map] at h2
  exact (h1.and h2).imp fun {a b} ⟨x, y⟩ => by
    rcases leP_iff.mp x with z | z
    · exact z
    · exact absurd z.1 y
end Ma
/-! Ma59: the machine's loops by invariants. -/
namespace Ma
open L2 PySem.W PySem.Spec PySem PyProof.Rows
theorem seq_nx {a b : MStm} {s s1 : MS} (h : a s = .ok .nx s1) : sSeq a b s = b s1 := by unfold sSeq; rw [h]; rfl
theorem seq_of {a b : MStm} {s s1 : MS} {r : Res Fl} (h : a s = .ok .nx s1) (h2 : b s1 = r) : sSeq a b s = r := (seq_nx h).trans h2
theorem set_of {i : Nat} {e : ME} {s s1 : MS} {m : M} (h : e s = .ok m s1) : sSet i e s = .ok .nx ⟨s1.env.set i (some m), s1.hp⟩ := by unfold sSet; rw [h]; rfl
theorem fn_of {ma : MA} {F : Fn} {s s1 : MS} {ms : List M} {m : M} {hp : List Cell} (h : ma s = .ok ms s1) (hf : F ms s1.hp = .ok m hp) : mFn ma F s = .ok m ⟨s1.env, hp⟩ := by unfold mFn; rw [h]; show upF _ _ = _; rw [hf]; rfl
theorem mcons_of {a : ME} {b : MA} {s s1 s2 : MS} {x : M} {xs : List M} (h : a s = .ok x s1) (h2 : b s1 = .ok xs s2) : mCons a b s = .ok (x :: xs) s2 := by unfold mCons; rw [h]; show (b s1).bind _ = _; rw [h2]; rfl
theorem if_of {t : MT} {a b : MStm} {s s1 : MS} {k : Bool} (h : t s = .ok k s1) : sIf t a b s = if k = true then a s1 else b s1 := by unfold sIf; rw [h]; rfl
theorem lc_map {vs : List Nat} {tg : MG} {tt : MT} {el : ME} {f : M → M} : ∀ {xs acc : List M} {s : MS}, acc.length + xs.length ≤ big →
    (∀ x ∈ xs, ∃ s1 s2 e3, tg x ⟨wipeM s.env vs, s.hp⟩ = .ok () s1 ∧ tt s1 = .ok true s2 ∧ el s2 = .ok (f x) ⟨e3, s.hp⟩) → lcLoop vs tg tt el xs acc s = .ok (acc ++ xs.map f) s
  | [], acc, s, _, _ => by rw [lcLoop, List.map_nil, List.append_nil]
  | x :: xs, acc, s, hl, h => by
    obtain ⟨s1, s2, e3, h1, h2, h3⟩ := h x (by simp)
    rw [List.length_cons] at hl
    have hb : acc.length < big := by omega
    rw [lcLoop, h1]
    dsimp only
    rw [h2]
    dsimp only
    rw [h3]
    dsimp only
    rw [if_pos hb]
    refine (lc_map (f := f) (by simp only [List.length_append, List.length_cons, List.length_nil]; omega) fun y hy => h y (by simp [hy])).trans ?_
    rw [List.map_cons, List.append_assoc]; rfl
theorem mlc_of {vs : List Nat} {it : MI} {tg : MG} {tt : MT} {el : ME} {f : M → M} {xs : List M} {s s1 : MS} (hi : it s = .ok xs s1) (hl : xs.length ≤ big)
    (h : ∀ x ∈ xs, ∃ s2 s3 e3, tg x ⟨wipeM s1.env vs, s1.hp⟩ = .ok () s2 ∧ tt s2 = .ok true s3 ∧ el s3 = .ok (f x) ⟨e3, s1.hp⟩) : mLc vs it tg tt el s = .ok (.lst (xs.map f)) s1 := by
  unfold mLc
  rw [hi]
  show Res.bind (lcLoop vs tg tt el xs [] s1) _ = _
  rw [lc_map (f := f) (by simpa using hl) h]
  rfl
theorem dc_rows {vs : List Nat} {tg : MG} {tt : MT} {kx el : ME} : ∀ {ps acc : List IP} {s : MS}, acc.length + ps.length ≤ big → (keysP (acc ++ ps)).Nodup →
    (∀ p ∈ ps, ∃ s1 s2 e3 e4, tg (pM p) ⟨wipeM s.env vs, s.hp⟩ = .ok () s1 ∧ tt s1 = .ok true s2 ∧ kx s2 = .ok (.int p.1) ⟨e3, s.hp⟩ ∧ el ⟨e3, s.hp⟩ = .ok (.int p.2) ⟨e4, s.hp⟩) →
    dcLoop vs tg tt kx el (rm ps) (dm acc) s = .ok (dm (acc ++ ps)) s
  | [], acc, s, _, _, _ => by show dcLoop vs tg tt kx el [] _ s = _; rw [dcLoop, List.append_nil]
  | p :: ps, acc, s, hl, hn, h => by
    obtain ⟨s1, s2, e3, e4, h1, h2, h3, h4⟩ := h p (by simp)
    rw [List.length_cons] at hl
    have hb : (dm acc).length < big := by rw [List.length_map]; omega
    show dcLoop vs tg tt kx el (pM p :: rm ps) (dm acc) s = _
    rw [dcLoop, h1]
    dsimp only
    rw [h2]
    dsimp only
    rw [h3]
    show (match el ⟨e3, s.hp⟩ with | .ok z s4 => if (dm acc).length < big then dcLoop vs tg tt kx el (rm ps) (putG (dm acc) (.inl p.1) z) ⟨s.env, s4.hp⟩ else .stuck | _ => .stuck) = _
    rw [h4]
    dsimp only
    rw [if_pos hb]
    have hq : p.1 ∉ keysP acc := by
      intro hm
      rw [keysP, List.map_append, List.nodup_append] at hn
      exact hn.2.2 p.1 hm p.1 (by simp) rfl
    rw [putG_new hq]
    have e : acc ++ p :: ps = (acc ++ [(p.1, p.2)]) ++ ps := by simp
    rw [e] at hn ⊢
    exact dc_rows (by simp only [List.length_append, List.length_cons, List.length_nil]; omega) hn fun y hy => h y (by simp [hy])
theorem wh_inv {t : MT} {b : MStm} (I : Nat → MS → Prop) (step : ∀ k s, I (k + 1) s → ∃ s1 s2, t s = .ok true s1 ∧ b s1 = .ok .nx s2 ∧ I k s2) (stop : ∀ s, I 0 s → t s = .ok false s) :
    ∀ {n fuel : Nat} {s : MS}, I n s → n < fuel → ∃ s', sWh t b fuel s = .ok .nx s' ∧ I 0 s'
  | _, 0, _, _, h => absurd h (Nat.not_lt_zero _)
  | 0, fuel + 1, s, h, _ => ⟨s, by rw [sWh]; dsimp only; rw [stop s h]; rfl, h⟩
  | n + 1, fuel + 1, s, h, hl => by
    obtain ⟨s1, s2, h1, h2, h3⟩ := step n s h
    obtain ⟨s', e, h4⟩ := wh_inv I step stop (fuel := fuel) h3 (by omega)
    refine ⟨s', ?_, h4⟩
    rw [sWh]; dsimp only; rw [h1]; show (b s1).bind _ = _; rw [h2]; exact e
theorem blsOf_map {α : Type} (f : α → Bool) : ∀ xs : List α, blsOf (xs.map fun x => M.bl (f x)) = some (xs.map f)
  | [] => rfl
  | x :: xs => by
    show (blsOf (xs.map fun x => M.bl (f x))).map (f x :: ·) = _
    rw [blsOf_map f xs]; rfl
theorem body_nx {n len : Nat} {b : MStm} {args : List M} {hp : List Cell} {s' : MS} (h : b ⟨args.map some ++ List.replicate (len - n) none, hp⟩ = .ok .nx s') : bodyF n len b args hp = .ok .non s'.hp := by unfold bodyF; rw [h]
theorem body_rt {n len : Nat} {b : MStm} {args : List M} {hp : List Cell} {s' : MS} {m : M} (h : b ⟨args.map some ++ List.replicate (len - n) none, hp⟩ = .ok (.rt m) s') : bodyF n len b args hp = .ok m s'.hp := by unfold bodyF; rw [h]
theorem ret_of {e : ME} {s s1 : MS} {m : M} (h : e s = .ok m s1) : sRet e s = .ok (.rt m) s1 := by unfold sRet; rw [h]; rfl
theorem call_of {ma : MA} {o : List M → MS → Res M} {s s1 : MS} {ms : List M} {r : Res M} (h : ma s = .ok ms s1) (ho : o ms s1 = r) : mCall ma o s = r := by unfold mCall; rw [h]; exact ho
theorem m2_of {o : M → M → MS → Res M} {a b : ME} {s s1 s2 : MS} {x y : M} {r : Res M} (h : a s = .ok x s1) (h2 : b s1 = .ok y s2) (ho : o x y s2 = r) : m2 o a b s = r := by unfold m2; rw [h]; show (b s1).bind _ = _; rw [h2]; exact ho
theorem b_of {a : ME} {s s1 : MS} {b : Bool} (h : a s = .ok (.bl b) s1) : mB a s = .ok b s1 := by unfold mB; rw [h]; rfl
theorem not_of {t : MT} {s s1 : MS} {b : Bool} (h : t s = .ok b s1) : mNot t s = .ok (!b) s1 := by unfold mNot; rw [h]; rfl
theorem mone {a : ME} {s s1 : MS} {x : M} (h : a s = .ok x s1) : mCons a mNil s = .ok [x] s1 := mcons_of h rfl
theorem for_of {it : MI} {tg : MG} {b : MStm} {s s1 : MS} {xs : List M} {r : Res Fl} (h : it s = .ok xs s1) (h2 : sFor tg b xs s1 = r) : sForI it tg b s = r := by unfold sForI; rw [h]; exact h2
theorem andv_t {a b : ME} {s s1 : MS} (h : a s = .ok (.bl true) s1) : mAndV a b s = b s1 := by unfold mAndV; rw [h]; rfl
theorem andv_f {a b : ME} {s s1 : MS} (h : a s = .ok (.bl false) s1) : mAndV a b s = .ok (.bl false) s1 := by unfold mAndV; rw [h]; rfl
theorem at_of {a : ME} {o : M → MS → Res M} {s s1 : MS} {x : M} (h : a s = .ok x s1) : mAt a o s = o x s1 := by unfold mAt; rw [h]; rfl
theorem or_f {t u : MT} {s s1 : MS} (h : t s = .ok false s1) : mOr t u s = u s1 := by unfold mOr; rw [h]; rfl
theorem and_t {t u : MT} {s s1 : MS} (h : t s = .ok true s1) : mAnd t u s = u s1 := by unfold mAnd; rw [h]; rfl
theorem and_f {t u : MT} {s s1 : MS} (h : t s = .ok false s1) : mAnd t u s = .ok false s1 := by unfold mAnd; rw [h]; rfl
theorem mv_of {i : Nat} {s : MS} {m : M} (h : s.env[i]? = some (some m)) : mv i s = .ok m s := by unfold mv; rw [h]
theorem par2_of {i j : Nat} {ma : MA} {s s1 : MS} {u v : M} (h : ma s = .ok [u, v] s1) : sPar2 i j ma s = .ok .nx ⟨(s1.env.set i (some u)).set j (some v), s1.hp⟩ := by unfold sPar2; rw [h]; rfl
theorem par3_of {i j l : Nat} {ma : MA} {s s1 : MS} {u v w : M} (h : ma s = .ok [u, v, w] s1) : sPar3 i j l ma s = .ok .nx ⟨((s1.env.set i (some u)).set j (some v)).set l (some w), s1.hp⟩ := by unfold sPar3; rw [h]; rfl
end Ma
/-! Ma60: raise X(..). -/
namespace Ma
open L2 PySem.W PySem.Spec PySem PyProof.Rows
section
variable {C : MC} {g g1 : Gh} {H H1 : Hp} {s : MS} {σ : L2.St} {ex : Expr} {es : List Expr} {ma : MA} {pos p pos' : Pos} {x n : Str} {A : Addr} {fs : List Str} {pt : List Pt}
/-- its instances may be raised -/
structure RaiK (K : Frag) (A : Addr) : Prop where
  sub : subIn K (.ref A) (.type "BaseException") = some true
  ty : typeIn K (.ref A) = some (.type "type")
theorem RaiK.raises {X : Cx} (k : RaiK X.K A) : Raises X (.ref A) := raises_own k.sub k.ty
/-- raise X(e, ..), X without an `__init__` -/
def sRai (n : Str) (ma : MA) : MStm := fun s => (ma s).bind fun ms s1 => if ms.length ≤ big then .err ⟨n, [], []⟩ s1 else .stuck
theorem pmk_exc (E : ExK C.T.K A) (R : RaiK C.T.K A) (hm : C.X.mg x = some (.ref A)) (ha : PMa C (ex :: es) ma)
    (hg : Gl C.X x := by rfl) (hdb : (x == ("__debug__" : Str)) = false := by decide) (he : starEach (ex :: es) C.X.env = (false, eval ex C.X.env) :: starEach es C.X.env := by rfl) (hpl : (backTo pos (starEach es C.X.env)).any (·.1) = false := by rfl) :
    PMk C.X (.Call (.Name x p) (ex :: es) [] pos) (fun σ H Q => rdA C ma σ H fun vs H1 => vs.length ≤ big ∧ Q (.ref A) none H1) := by
  intro pins sh σ H Q I h
  refine wpAny_Call_Name_kw (ld_glob I hg hm ?_ hdb)
  refine callWith_K (h₀ := C.X.base) I.ok.mod.kin (C.hK ▸ E.kp) (thn (ha.run pos pins sh σ H _ I h) fun us s1 hh => ?_) he hpl
  obtain ⟨vs, H1, I1, rv, hl, q⟩ := hh
  refine ⟨I1.kIn, ?_⟩
  have kin : C.T.K.In s1.heap := C.hK ▸ I1.kIn
  obtain ⟨nm, N, qn, bs, bm, hdct, sn, sub, ab, col, dd, k0, k1, k2, k3, k5, hc, hbm⟩ := excInit_of kin E.ex
  have hlen : us.length ≤ sizeLine := by
    have e2 : vs.length = us.length := rv.length
    have e3 : big ≤ sizeLine := by decide +kernel
    omega
  obtain ⟨hp, gs, d, t, os⟩ := s1
  show wpAny _ _ (call (.ref A) us) _ _ _
  refine call_B PySem.F.excBase_ValueError hbm hc (looks_findIn kin E.ini) hlen fun h' keep hex ht => ?_
  exact ⟨hp.objs.size + 1, _, _, ⟨hp, gs, d, t, os⟩, H1, .ref A, none, rfl, I1, keep, by simp [Heap.get?], hex, ⟨rfl, rfl⟩, rfl, rfl, I1.hok.fresh (Nat.le_succ _), rfl, I1.bare, RaiK.raises (X := C.X) (C.hK ▸ R), q⟩
theorem sm_rai (hc : C.X.calm = true) (tk : Takes C.X C.W) (E : ExK C.T.K A) (R : RaiK C.T.K A) (ad : C.T.ad n = some A) (hm : C.X.mg x = some (.ref A)) (ha : PMa C (ex :: es) ma)
    (hg : Gl C.X x := by rfl) (hdb : (x == ("__debug__" : Str)) = false := by decide) (he : starEach (ex :: es) C.X.env = (false, eval ex C.X.env) :: starEach es C.X.env := by rfl) (hpl : (backTo pos (starEach es C.X.env)).any (·.1) = false := by rfl) :
    PMs C (.Raise (some (.Call (.Name x p) (ex :: es) [] pos)) none pos') (sRai n ma) :=
  wkS (ps_raise hc tk (pmk_exc E R hm ha hg hdb he hpl)) fun D σ H h => by
    obtain ⟨g, s, r, q⟩ := rdA_bindS h
    refine ⟨g, s, r, q.imp ?_⟩
    rintro xs H1 ⟨ms, s1, g1, r1, rs, q1⟩
    by_cases hl : ms.length ≤ big
    · rw [if_pos hl] at q1
      exact ⟨by rw [← rs.length]; exact hl, q1 g1 H1 σ (.ref A) none (Mono.refl _ _) r1 ⟨A, ad, rfl, rfl, rfl⟩⟩
    · rw [if_neg hl] at q1; exact q1.elim
/-- raise X(e, ..), X with an `__init__` -/
def raiM (n : Str) (fs : List Str) (pt : List Pt) (ms : List M) (s : MS) : Res Fl := (exiM n fs pt ms s).bind fun _ s1 => .err ⟨n, fs, ms⟩ s1
def sRaiI (n : Str) (fs : List Str) (pt : List Pt) (ma : MA) : MStm := fun s => (ma s).bind (raiM n fs pt)
theorem pmk_exi (G : KnI C.X.prog C.X.w C.X.mg C.T n fs pt) (R : ∀ A, C.T.ad n = some A → RaiK C.T.K A) (hr : RoomG 2 C.X.A) (hx : C.X.ex = []) (h0 : C.X.H_0 = C.e.H) (ha : PMa C (ex :: es) ma)
    (hg : Gl C.X n := by rfl) (hdb : (n == ("__debug__" : Str)) = false := by decide) (he : starEach (ex :: es) C.X.env = (false, eval ex C.X.env) :: starEach es C.X.env := by rfl) (hpl : (backTo pos (starEach es C.X.env)).any (·.1) = false := by rfl) :
    PMk C.X (.Call (.Name n p) (ex :: es) [] pos) (fun σ H Q => rdA C ma σ H fun vs H1 => ∃ g s ms zs, C.rel g s σ H1 ∧ RVs C.T g H1 ms vs ∧ ms.length = fs.length ∧ textsM s.hp ms pt = some zs ∧ (zs.map (·.length)).sum ≤ sizeLine ∧
      ∀ (A dx : Addr), C.T.ad n = some A → H1 dx = none → Q (.ref A) (some dx) (upd H1 dx (.xd (fs.zip vs)))) := by
  obtain ⟨A, ad, hm, hk, hc⟩ := G.ex
  intro pins sh σ H Q I h
  refine wpAny_Call_Name_kw (ld_glob I hg hm ?_ hdb)
  refine callWith_K (h₀ := C.X.base) I.ok.mod.kin (C.hK ▸ hk) (thn (ha.run pos pins sh σ H _ I h) fun us s1 hh => ?_) he hpl
  obtain ⟨vs, H1, I1, rv, g1, ms1, ms, zs, r, rs, hl, ht, hz, q⟩ := hh
  refine ⟨I1.kIn, ?_⟩
  have e0 := I1.env0
  obtain ⟨mb, hb1, hb2⟩ := e0.mod.blt
  have kb : ∀ b o, C.X.base.get? b = some o → s1.heap.get? b = some o := fun b o z => (e0.bs b o z).1
  have hul : us.length = fs.length := by rw [← rv.length, ← rs.length]; exact hl
  show wpAny _ _ (call (.ref A) us) _ _ _
  refine wpAny_call (hc mb hb2 C.X.A s1 us zs _ hr (C.hK ▸ I1.kIn) (e0.mod.glob.keeps kb) (hb1.keeps kb) (e0.mod.nolimit.keeps kb) hul (texts_at I1 r rs rv ht) hz fun dx t s2 mA keep h1 h2 hm2 lt hgn ho => ?_)
  have hne : H1 (s1.heap.objs.size + 1) = none := I1.hok.fresh (Nat.le_succ _)
  have hnd1 : H1 dx = none := I1.hok.fresh (Nat.le_trans (Nat.le_succ _) (Nat.le_of_lt lt))
  have ne : dx ≠ s1.heap.objs.size + 1 := fun z => Nat.lt_irrefl _ (z ▸ lt)
  have I2 := two_laid (fs := fs.zip vs) (t' := s2.toks) I1 keep (Nat.le_succ _) lt h1 h2 fun f => by rw [hm2 f]; exact zip_rel rv f
  obtain ⟨hp2, gs2, d2, tk2, os2⟩ := s2
  dsimp only at hgn ho I2 keep h1 h2
  subst hgn; subst ho
  have I3 : Inv C.X pins σ (upd (upd H1 (s1.heap.objs.size + 1) (XO (.ref A) (some dx) (s1.heap.objs.size + 1))) dx (.xd (fs.zip vs))) ⟨hp2, s1.gens, d2, tk2, s1.os⟩ := ⟨I2.ok, I2.os, I2.bare, I2.base, I2.loc, I2.cell, I2.free, I2.freeC, I2.pin, I2.hok, I2.len⟩
  have fresh : Fr0 C.X.H_0 (s1.heap.objs.size + 1) := fun o e => by
    rw [h0] at e
    rcases r.h.lost hne with z | z
    · rw [e] at z; cases z
    · obtain ⟨u, y⟩ := r.h.rot _ (r.h.m0.ro.subset z)
      rw [hne] at y; cases y
  obtain ⟨G', gs', ga, J⟩ := I3.untrack (a := s1.heap.objs.size + 1) (by rw [upd_ne ne.symm]; exact upd_same) fresh hx
  have eH : delH (upd (upd H1 (s1.heap.objs.size + 1) (XO (.ref A) (some dx) (s1.heap.objs.size + 1))) dx (.xd (fs.zip vs))) (s1.heap.objs.size + 1) = upd H1 dx (.xd (fs.zip vs)) := by
    funext b
    by_cases hb : b = s1.heap.objs.size + 1
    · rw [hb, delH_same, upd_ne ne.symm, hne]
    · rw [delH_ne hb]
      by_cases hb2 : b = dx
      · rw [hb2, upd_same, upd_same]
      · rw [upd_ne hb2, upd_ne hb2, upd_ne hb]
  rw [eH] at J
  refine ⟨s1.heap.objs.size + 1, _, _, _, _, .ref A, some dx, rfl, J, gs', ga, h1, ⟨rfl, rfl⟩, rfl, rfl, ?_, rfl, J.bare, RaiK.raises (X := C.X) (C.hK ▸ R A ad), q A dx ad hnd1⟩
  rw [upd_ne ne.symm]; exact hne
theorem sm_raiI (hc : C.X.calm = true) (tk : Takes C.X C.W) (G : KnI C.X.prog C.X.w C.X.mg C.T n fs pt) (R : ∀ A, C.T.ad n = some A → RaiK C.T.K A) (hr : RoomG 2 C.X.A) (ha : PMa C (ex :: es) ma) (hx : C.X.ex = [] := by rfl) (h0 : C.X.H_0 = C.e.H := by rfl)
    (hg : Gl C.X n := by rfl) (hdb : (n == ("__debug__" : Str)) = false := by decide) (he : starEach (ex :: es) C.X.env = (false, eval ex C.X.env) :: starEach es C.X.env := by rfl) (hpl : (backTo pos (starEach es C.X.env)).any (·.1) = false := by rfl) :
    PMs C (.Raise (some (.Call (.Name n p) (ex :: es) [] pos)) none pos') (sRaiI n fs pt ma) :=
  wkS (ps_raise hc tk (pmk_exi G R hr hx h0 ha hg hdb he hpl)) fun D σ H h => by
    obtain ⟨g, s, r, q⟩ := rdA_bindS h
    refine ⟨g, s, r, q.imp ?_⟩
    rintro vs H1 ⟨ms, s1, g1, r1, rs, q1⟩
    unfold raiM exiM at q1
    by_cases hl : ms.length = fs.length
    · rw [if_pos hl] at q1
      cases ht : textsM s1.hp ms pt with
      | none => rw [ht] at q1; exact q1.elim
      | some zs =>
        rw [ht] at q1
        dsimp only at q1
        by_cases hz : (zs.map (·.length)).sum ≤ sizeLine
        · rw [if_pos hz] at q1
          refine ⟨g1, s1, ms, zs, r1, rs, hl, ht, hz, fun A dx ad hn => ?_⟩
          have mo := mono_laid (o := .xd (fs.zip vs)) r1.h hn
          exact q1 g1 _ σ (.ref A) (some dx) mo (r1.laid hn) ⟨A, ad, rfl, vs, by rw [← rs.length]; exact hl.symm, upd_same, rs.mono mo⟩
        · rw [if_neg hz] at q1; exact q1.elim
    · rw [if_neg hl] at q1; exact q1.elim
end
end Ma
/-! Ma61: a lambda made: its code object is kept in its maker's table. -/
namespace Ma
open L2 PySem.Spec PySem PyProof.Rows
section
variable {X : Cx} {pins : List (Addr × Obj)} {σ : L2.St} {H : Hp} {s : Shared}
/-- the layer's heap behind the making: the same, or one more code object in the table -/
def Tabbed (H : Hp) (P : Addr) (q : Str) (H1 : Hp) (c' : Addr) : Prop := H1 = H ∨ ∃ ps more, H P = some (.tbl ps) ∧ H c' = none ∧ H1 = upd (upd H P (.tbl (ps ++ more))) c' (LamX.CodeO c' q)
theorem lam_new {c P : Addr} {q : Str} {params : Arguments} {body : Expr} {scope : Scope} {pos : Pos} {E Q : Value → Shared → Prop}
    (I : Inv X pins σ H s) (TB : LamX.TabB X.base X.mg c P) (hcode : X.env.code = .ref c) (hq : X.env.qual ++ "<lambda>" = q) (t : LamX.TabS H P q)
    (hdef : defaultsOf params X.env = ([], [])) (hfree : ∀ y ∈ scope.names, y.2 = .free → ∃ c, X.env.cells.lookup y.1 = some c)
    (h : ∀ (f c' : Addr) (pm ctv : Value) (H1 : Hp) (s' : Shared), Inv X pins σ H1 s' → Tabbed H P q H1 c' → LamX.TabS H1 P q →
      s'.heap.get? f = some (PySem.W.kla_obj "<lambda>" q params body scope (cloFrom X.env.cells scope.names []) pm c' ctv) → H1 f = none → f ∉ frs X.stack → H1 c' = some (LamX.CodeO c' q) → Q (.ref f) s') :
    wpAny (model X.prog X.w) X.A (eval (.Lambda params body scope pos) X.env) Q E s := by
  subst hq
  obtain ⟨ps, hP, tri, look⟩ := t
  refine PySem.W.kla_eval hdef ?_
  have hP' : s.heap.get? P = some { cls := .none, data := .fields ps } := I.hok P _ hP
  have outF : ∀ f, s.heap.objs.size ≤ f → f ∉ frs X.stack := fun f hf z => (List.mem_cons.mp (I.stkSub _ z)).elim
    (fun e => by have h1 := I.lt; rw [← e] at h1; exact absurd (Nat.lt_of_lt_of_le h1 hf) (Nat.lt_irrefl _)) fun e => I.nofs hf e
  cases hc : codeAmong pos ps.toList with
  | none =>
    refine PySem.W.kla_makeFunction (mg := X.mg) (c := c) (P := P) (ps := ps) (closure_ok hfree) I.ok.glob (I.mod.glob.keeps I.bk) hcode (TB.code.keeps I.bk) hP' tri hc TB.gP (TB.bm.keeps I.bk) ?_
    intro c' ctv h' tk hx hge hlt ⟨c2, oc, vs, t, e2, hoc, hd, hv⟩ htb
    cases e2
    have nC : H c' = none := I.hok.fresh hge
    have nPc : P ≠ c' := ne_of_none hP nC
    have J := LamX.inv_table (t' := tk) (more := #[rawInt pos.line, rawInt pos.col, .ref c'])
      (h' := h'.push (PySem.W.kla_obj "<lambda>" (X.env.qual ++ "<lambda>") params body scope (cloFrom X.env.cells scope.names []) ((X.mg "__name__").getD .none) c' ctv)) I hP
      (fun b o hb e => Heap.get?_push_of_some _ (hx b o hb e)) (Heap.get?_push_of_some _ htb) hge ⟨oc, vs, t, Heap.get?_push_of_some _ hoc, hd, hv⟩
    have sz : s.heap.objs.size ≤ h'.objs.size := by omega
    refine h h'.objs.size c' _ ctv _ _ J (.inr ⟨ps, _, hP, nC, rfl⟩) ?_ (Heap.get?_push_size _ rfl) ?_ (outF _ sz) upd_same
    · refine ⟨_, by rw [upd_ne nPc]; exact upd_same, ?_, fun p' cv hcv => ?_⟩
      · rw [Array.toList_append]
        exact PySem.TriplesOk_snoc _ _ _ _ tri
      · rw [Array.toList_append] at hcv
        rcases LamX.among_app _ tri hcv with z | z
        · obtain ⟨c0, e1, e2⟩ := look p' cv z
          have d1 : c0 ≠ c' := fun y => by rw [y, nC] at e2; cases e2
          have d2 : c0 ≠ P := fun y => by rw [y, hP] at e2; exact LamX.codeO_ne ps (Option.some.inj e2).symm
          exact ⟨c0, e1, by rw [upd_ne d1, upd_ne d2]; exact e2⟩
        · exact ⟨c', z, upd_same⟩
    · have d1 : h'.objs.size ≠ c' := by omega
      have d2 : h'.objs.size ≠ P := Nat.ne_of_gt (Nat.lt_of_lt_of_le (Heap.lt_size hP') sz)
      rw [upd_ne d1, upd_ne d2]
      exact I.hok.fresh sz
  | some cv =>
    obtain ⟨c', rfl, hco⟩ := look pos cv hc
    refine PySem.W.kla_makeFunctionHit (mg := X.mg) (c := c) (P := P) (ps := ps) (closure_ok hfree) I.ok.glob (I.mod.glob.keeps I.bk) hcode (TB.code.keeps I.bk) hP' tri hc (TB.bm.keeps I.bk) ?_
    intro ctv h' tk hx hsz
    exact h h'.objs.size c' _ ctv H _ (I.kept fun b o e => Heap.get?_push_of_some _ (hx b o e)) (.inl rfl) ⟨ps, hP, tri, look⟩ (Heap.get?_push_size _ rfl) (I.hok.fresh hsz) (outF _ hsz) hco
end
section
variable {T : Tab} {e : En} {g : Gh} {H H1 : Hp} {hp : List Cell} {P c' : Addr} {q : Str}
/-- what the machine knows stands behind the making -/
theorem RelH.tabbed (r : RelH T e g hp H) (hm : (P, q) ∈ T.tb) (hu : ∀ p ∈ T.tb, p.1 = P → p.2 = q) (z : Tabbed H P q H1 c') (t1 : LamX.TabS H1 P q) : RelH T e g hp H1 ∧ Mono g H g H1 := by
  rcases z with rfl | ⟨ps, more, hP, nC, rfl⟩
  · exact ⟨r, Mono.refl _ _⟩
  have nPc : P ≠ c' := ne_of_none hP nC
  obtain ⟨_, pro, pfz⟩ := r.tb.tab _ hm
  have same : ∀ {a : Addr} {o : HO}, H a = some o → a ≠ P → upd (upd H P (.tbl (ps ++ more))) c' (LamX.CodeO c' q) a = some o := fun {a o} h1 h2 => by
    rw [upd_ne (ne_of_none h1 nC), upd_ne h2]; exact h1
  have some_ : ∀ {a : Addr} {o : HO}, H a = some o → ∃ u, upd (upd H P (.tbl (ps ++ more))) c' (LamX.CodeO c' q) a = some u := fun {a o} h1 => by
    by_cases h2 : a = P
    · subst h2; exact ⟨_, by rw [upd_ne nPc, upd_same]⟩
    · exact ⟨_, same h1 h2⟩
  have offP : ∀ {a : Addr} {o : HO}, H a = some o → NoTbl o → a ≠ P := fun {a o} h1 h2 z => by
    subst z; rw [hP] at h1; exact h2 ps (Option.some.inj h1).symm
  have mo : Mono g H g (upd (upd H P (.tbl (ps ++ more))) c' (LamX.CodeO c' q)) := ⟨⟨List.prefix_refl _, fun _ h => h, fun a f => by
      obtain ⟨u, q⟩ := r.fzt a f
      rw [q]; exact same q fun z => pfz (z ▸ f), fun a vs h => same h (offP h (by first | exact Plain.tbl (by assumption) | assumption | exact fun _ z => by cases z | exact fun _ z => by unfold XO at z; cases z))⟩, fun a o u h => same h (offP h (by first | exact Plain.tbl (by assumption) | assumption | exact fun _ z => by cases z | exact fun _ z => by unfold XO at z; cases z))⟩
  refine ⟨⟨r.len, r.nd, fun n c a h1 h2 => ?_, r.thaw, fun a f => ?_, fun a h => ?_, fun a o h1 h2 => ?_, r.nfz, r.nro, r.m0.trans mo, ⟨fun p hp => ?_, fun a xs z => ?_, fun a ha u z => ?_⟩, r.tbe⟩, mo⟩
  · have y := r.cell n c a h1 h2
    by_cases h3 : a = P
    · cases c with
      | dead => trivial
      | lst ms => exact absurd h3 (let ⟨_, e1, _⟩ := y; offP e1 (by first | exact Plain.tbl (by assumption) | assumption | exact fun _ z => by cases z | exact fun _ z => by unfold XO at z; cases z))
      | dK ms => exact absurd h3 (let ⟨_, e1, _⟩ := y; offP e1 (by first | exact Plain.tbl (by assumption) | assumption | exact fun _ z => by cases z | exact fun _ z => by unfold XO at z; cases z))
      | dF ms => exact absurd h3 (let ⟨_, _, e1, _⟩ := y; offP e1 (by first | exact Plain.tbl (by assumption) | assumption | exact fun _ z => by cases z | exact fun _ z => by unfold XO at z; cases z))
      | ins x ms => exact absurd h3 (let ⟨_, _, _, _, e1, _⟩ := y; offP e1 (by first | exact Plain.tbl (by assumption) | assumption | exact fun _ z => by cases z | exact fun _ z => by unfold XO at z; cases z))
    · obtain ⟨u, e1⟩ := r.rot a (List.mem_of_getElem? h2)
      exact y.mono mo (by rw [e1]; exact same e1 h3)
  · obtain ⟨u, e1⟩ := r.fzt a f; exact some_ e1
  · obtain ⟨u, e1⟩ := r.rot a h; exact some_ e1
  · exact same (r.frm a o h1 h2) fun z => h2 (z ▸ r.tbe _ hm)
  · obtain ⟨⟨xs, a1, a2, a3⟩, b2, b3⟩ := r.tb.tab p hp
    refine ⟨?_, b2, b3⟩
    by_cases h3 : p.1 = P
    · rw [hu p hp h3, h3]; exact t1
    · refine ⟨xs, same a1 h3, a2, fun pos cv hc => ?_⟩
      obtain ⟨c, e1, e2⟩ := a3 pos cv hc
      refine ⟨c, e1, same e2 (offP e2 fun ps z => by unfold LamX.CodeO at z; cases z)⟩
  · by_cases h3 : a = c'
    · subst h3; rw [upd_same] at z; unfold LamX.CodeO at z; cases z
    · by_cases h4 : a = P
      · exact ⟨_, hm, h4.symm⟩
      · rw [upd_ne h3, upd_ne h4] at z; exact r.tb.only a xs z
  · by_cases h3 : a = c'
    · subst h3
      obtain ⟨o, y⟩ := r.rot a ha
      rw [nC] at y; cases y
    · by_cases h4 : a = P
      · subst h4
        rw [upd_ne h3, upd_same] at z
        cases z
        exact ⟨fun _ _ z => (by unfold LamX.CodeO at z; cases z), fun _ z => (by cases z)⟩
      · rw [upd_ne h3, upd_ne h4] at z; exact r.tb.roc a ha u z
end
end Ma
/-! Ma62: the lambda called by the def that got it. -/
namespace Ma
open L2 PySem.Spec PySem PyProof.Rows
/-- the lambda at f, whose maker's slots are envc; slot i holds it -/
def mLam (i : Nat) (f : Addr) (envc : List (Option M)) (m : ME) : ME := fun s => match s.env[i]? with
  | some (some (.raw b)) => if b = f then (match m ⟨envc, s.hp⟩ with
      | .ok v s1 => .ok v ⟨s.env, s1.hp⟩
      | .err x s1 => .err x ⟨s.env, s1.hp⟩
      | .stuck => .stuck) else .stuck
  | _ => .stuck
/-- where a lambda's body stands -/
abbrev cLam (X : Cx) (T : Tab) (A : Around) (outer : List Env) (s : Shared) (H : Hp) (E : XK) (scope : Scope) (f c' : Addr) (gb : Gh) (hK : X.K = T.K) : MC :=
  ⟨LamX.lamCx X A outer s H E scope f c', T, ⟨gb, H⟩, fun cls d _ H' => E cls d H', hK⟩
theorem lam_takes {X : Cx} {T : Tab} {A : Around} {outer : List Env} {s : Shared} {H : Hp} {E : XK} {scope : Scope} {f c' : Addr} {gb : Gh} {hK : X.K = T.K} : Takes (cLam X T A outer s H E scope f c' gb hK).X (cLam X T A outer s H E scope f c' gb hK).W := takes_of rfl rfl rfl rfl
section
variable {X : Cx} {pins : List (Addr × Obj)} {σ : L2.St} {H : Hp} {s : Shared} {T : Tab} {hK : X.K = T.K}
theorem em_lam {Eg : XK} {Ng : List Str} {qg q : Str} {sg : Scope} {g f c' : Addr} {cdg pm ctv : Value} {params : Arguments} {body : Expr} {scope : Scope} {k i : Nat} {a : Str} {pn : List (Addr × Obj)} {xe : Value → Shared → Prop} {W : WX} {p1 p2 : Pos} {gh : Gh} {hp0 : List Cell} {envc : List (Option M)} {m : ME} {e0 : En}
    (I : Inv X pins σ H s) (L : LamX.LamS X.env.scope scope) (hf : s.heap.get? f = some (PySem.W.kla_obj "<lambda>" q params body scope (cloFrom X.env.cells scope.names []) pm c' ctv)) (hq : X.env.qual ++ "<lambda>" = q) (hfn : H f = none) (hfr : f ∉ frs X.stack)
    (hco : H c' = some (LamX.CodeO c' q)) (r0 : Rel T e0 gh ⟨envc, hp0⟩ σ H)
    (hbind : bindArgs (PySem.W.kla_fn "<lambda>" q params body scope (cloFrom X.env.cells scope.names []) pm (.ref c') ctv) ⟨[], []⟩ = pure [])
    (tk : Takes ((cxOf (L2.CX X.prog X.w) X.prog X.w T.K X.mg X.base Ng qg sg g cdg X.A X.stack s H Eg).tr pn xe) W) (hr : RoomG (k + 1) (X.A.deeper (envOfC qg sg s.heap.objs.size g cdg)))
    (hbody : ∀ (A : Around) (outer : List Env) (s : Shared) (H : Hp) (E : XK) (gb : Gh), RoomG k (A.deeper (LamX.lamEnv X scope s.heap.objs.size f c')) → PMe (cLam X T A outer s H E scope f c' gb hK) body m)
    (hN : Ng[i]? = some a) (hv : Vis sg a) (hd : (a == ("__debug__" : Str)) = false := by decide) (hcd : (a == ("__classdict__" : Str)) = false := by decide) :
    PMe ⟨(cxOf (L2.CX X.prog X.w) X.prog X.w T.K X.mg X.base Ng qg sg g cdg X.A X.stack s H Eg).tr pn xe, T, ⟨gh, H⟩, W, rfl⟩ (.Call (.Name a p1) [] [] p2) (mLam i f envc m) := by
  subst hq
  refine ⟨fun pinsZ sZ σZ HZ Q IZ ⟨gZ, mZ, rZ, go⟩ => ?_⟩
  unfold mLam at go
  split at go
  case h_2 => exact go.elim
  case h_1 b hi =>
    by_cases hbf : b = f
    case neg => rw [if_neg hbf] at go; exact go.elim
    subst hbf
    rw [if_pos rfl] at go
    obtain ⟨v0, hv0, rv0⟩ := rZ.get hi
    cases rv0
    have hcZ : HZ c' = some (LamX.CodeO c' (X.env.qual ++ "<lambda>")) := rZ.h.frm c' _ hco fun z => (r0.h.tb.roc c' z _ hco).code _ _ rfl
    have got := (pe_var (pos := p1) (i := i) hN hv hd hcd).run pinsZ sZ σZ HZ (fun v H1 => v = .ref b ∧ H1 = HZ) IZ ⟨.ref b, hv0, rfl, rfl⟩
    refine wpAny_Call_Name_kw (thn got fun u s1 ⟨v, H1, I1, r1, ev, eH⟩ => ?_)
    subst ev
    rw [eH] at I1
    obtain rfl : u = Value.ref b := r1
    have of1 := I1.base.keep b _ hf hfn hfr (fun z => nomatch (show b ∈ ([] : List Addr) from z))
    refine PySem.W.callWith_F0 ⟨_, _, _, _, of1⟩ ?_
    have un : Un (frs X.stack) [] H HZ s.heap s1.heap := I1.base
    obtain ⟨⟨oc, vs, t, hoc, hdc, hvc⟩, _, _⟩ := I1.hok c' _ hcZ
    have rc : codeAny (model X.prog X.w) (X.A.deeper (envOfC qg sg s.heap.objs.size g cdg)) (.call (.ref b) ⟨[], []⟩)
        (CR (L2.CX X.prog X.w) (envOfC qg sg s.heap.objs.size g cdg :: X.stack) X.prog X.w HZ s1 Q fun cls d H' => W cls d σZ H') s1 := by
      refine PySem.W.kla_callFunE hr.depth of1 rfl L.co L.gen rfl ⟨c', oc, vs, t, rfl, hoc, hdc, hvc⟩ ?_
      rw [hbind]
      refine wpAny_pure (wpAny_newFunctionEnv (fun y hy => (L.own y hy).2) (fun y hy => absurd hy (by simp)) ?_ L.kind)
      intro h₁ hns hsb
      refine ⟨I1.nolimit.fresh _ hsb, ?_⟩
      show codeAny _ _ (.expr body (LamX.lamEnv X scope s1.heap.objs.size b c')) _ _
      have e00 : Env0 X.prog X.w X.K X.mg X.base (X.A.deeper (envOfC qg sg s.heap.objs.size g cdg)) (envOfC qg sg s.heap.objs.size g cdg :: X.stack) s1 HZ := by rw [hK]; exact I1.env0
      have J := LamX.lam_start2 (E := fun cls d H' => W cls d σZ H') (f := b) (c' := c') (tk := s1.toks + ([] : List (Str × Value)).length) I L e00 hr.hd un hns fun b' o e => hsb.extBut b' o (Nat.ne_of_lt (Heap.lt_size e)) (Heap.get?_push_of_some _ e)
      have rl : Rel T ⟨gZ, HZ⟩ gZ ⟨envc, mZ.hp⟩ σ HZ := ⟨rZ.h.self, r0.len, fun j m' v' h1 h2 => by
        obtain ⟨x, e, z⟩ := r0.sl j m' v' h1 h2
        exact ⟨x, e, z.mono rZ.h.m0⟩⟩
      have ht : rdE (cLam X T (X.A.deeper (envOfC qg sg s.heap.objs.size g cdg)) (envOfC qg sg s.heap.objs.size g cdg :: X.stack) s1 HZ (fun cls d H' => W cls d σZ H') scope b c' gZ hK) m σ HZ Q := by
        refine ⟨gZ, ⟨envc, mZ.hp⟩, rl, ?_⟩
        cases hm : m ⟨envc, mZ.hp⟩ with
        | stuck => rw [hm] at go; exact go.elim
        | ok v s2 => rw [hm] at go; exact fun g' H' x mo r2 rv => go g' H' x mo (rZ.env mo (rZ.h.comp r2.h)) rv
        | err x s2 => rw [hm] at go; exact fun g' H' cls d mo r2 xr => go g' H' cls d mo (rZ.env mo (rZ.h.comp r2.h)) xr
      refine PySem.W.kla_codeExpr (wpAny_mono ((hbody _ _ s1 HZ _ gZ (hr.down _)).run [] _ _ HZ Q J ht) ?_ fun e s' hq => hq)
      rintro v s' ⟨w', H', J', rv, q⟩
      exact ⟨w', H', J'.os, J'.bare, J'.base, J'.hok, rv, q⟩
    refine wpAny_call (codeAny_mono rc fun r s' hq => ?_)
    cases r with
    | error e => exact tk e s' (XE.of_call I1 (fun _ _ _ z => z) hq)
    | ok fl =>
      cases fl with
      | ret u => exact I1.after hq
      | next => exact hq.elim
      | brk => exact hq.elim
      | cont => exact hq.elim
end
end Ma
/-! Ma63: within an except suite: the exception at hand; defs called there that do not raise. -/
namespace Ma
open L2 PySem.Spec PySem PyProof.Rows
/-- the object at a is a pinned exception of the class c -/
structure PinX (C : MC) (a : Addr) (c : Str) : Prop where
  ex : ∃ (A : Addr) (d : Option Addr) (oe : Obj), C.T.ad c = some A ∧ L2.ExcC C.X.K A ∧ (a, oe) ∈ C.X.pn ∧ Zc (.ref A) d oe ∧ (∃ vs, oe.data = .fields vs) ∧
    ∀ g s σ H, C.rel g s σ H → match d with
      | none => True
      | some dx => ∃ fs, H dx = some (.xd fs)
def rIsP (C : MC) (a : Addr) (c : Str) : RC := fun xs H Q => ∃ (A : Addr) (g : Gh) (s : MS) (σ : L2.St) (v : V) (u : Value) (b : Bool), xs = [.ref a, v] ∧ C.T.ad c = some A ∧ C.rel g s σ H ∧ ClsV v u ∧ PySem.W.kitOne C.X.K (.ref A) u = some b ∧ Q (.bl b) H
theorem call_isP {C : MC} {a : Addr} {c : Str} (p : PinX C a c) : CallR C.X (.builtin "isinstance") (rIsP C a c) := by
  intro pins s σ H xs us Q I r h
  obtain ⟨A', g, ms, σ', v, w, b, rfl, ad', rel, hv, hk, q⟩ := h
  obtain ⟨A, d, oe, ad, E, hm, hz, ⟨vs, hd⟩, hx⟩ := p.ex
  have eA : A' = A := Option.some.inj (ad'.symm.trans ad)
  subst eA
  cases r with
  | cons rx rr =>
    cases rr with
    | cons rt rr =>
      cases rr
      cases rx
      obtain rfl := hv.eq rt
      obtain ⟨hget, _⟩ := I.pin (a, oe) (List.mem_append_left _ hm)
      have J : ∃ od, PySem.W.InstAt s.heap a oe A' od := by
        cases d with
        | none => exact ⟨none, hget, hz.1, by unfold PySem.W.notCls; rw [hd] <;> rfl, by rw [hz.2]; trivial⟩
        | some dx =>
          obtain ⟨fs, e⟩ := hx g ms σ' H rel
          obtain ⟨mA, hns, _⟩ := (show ObjOk C.X.prog C.X.w H s.heap dx (.xd fs) from I.hok dx _ e)
          obtain ⟨od, ho, _⟩ := lookIn_ns hns
          exact ⟨some od, hget, hz.1, by unfold PySem.W.notCls; rw [hd] <;> rfl, by rw [hz.2]; exact ho⟩
      obtain ⟨od, J⟩ := J
      have hcl : (PySem.W.clsIn C.X.K A').isSome = true := by
        have h := E.hd
        unfold PySem.W.hasDictIn at h
        cases hc : PySem.W.clsIn C.X.K A' with
        | none => rw [hc] at h; simp at h
        | some _ => rfl
      exact PySem.W.kia_one (PySem.W.kitx_exc (ox := oe) (od := od) hcl E.hg E.hk E.hs E.ha E.hn E.ht E.hm) I.kIn J hk (fun z => nomatch z) fun tk => ⟨.bl b, H, I.kept (t' := tk) fun _ _ z => z, rfl, q⟩
def cIsP (a : Addr) (c : Str) (isi : Tg → Tg → Option Bool) (ms : List M) (s : MS) : Res M := match ms with
  | [.raw b, k] => if b = a then (match clOf k with
    | some u => match isi (.own c) u with
      | some r => .ok (.bl r) s
      | none => .stuck
    | none => .stuck) else .stuck
  | _ => .stuck
theorem ok_isP {C : MC} {a : Addr} {c : Str} {isi : Tg → Tg → Option Bool} (p : PinX C a c) (hk : ∀ t u b, isi t u = some b → ∀ tv uv, t.At C.T tv → u.At C.T uv → PySem.W.kitOne C.X.K tv uv = some b) :
    CallOk C (rIsP C a c) (cIsP a c isi) := fun σ H g s ms ys Q r rs h => by
  obtain ⟨A, d, oe, ad, _⟩ := p.ex
  unfold cIsP at h
  split at h
  case h_2 => exact h.elim
  case h_1 b k =>
    by_cases hb : b = a
    case neg => rw [if_neg hb] at h; exact h.elim
    subst hb
    rw [if_pos rfl] at h
    split at h
    case h_2 => exact h.elim
    case h_1 u hu =>
      split at h
      case h_2 => exact h.elim
      case h_1 x hx =>
        cases rs with
        | cons r1 r2 =>
          cases r2 with
          | cons r2 r3 =>
            cases r3
            cases r1
            obtain ⟨cv, hc, hu2⟩ := clOf_at hu r2
            exact ⟨A, g, s, σ, _, cv, x, rfl, ad, r, hc, hk _ _ _ hx _ _ ⟨A, ad, rfl⟩ hu2, h.same r (.bl x)⟩
/-! ### a field of the exception at hand -/
/-- the same, with its fields -/
structure PinF (C : MC) (a : Addr) (x : Exc) : Prop extends PinX C a x.c where
  fld : ∀ (A : Addr), C.T.ad x.c = some A → L2.XfC C.X.K A
  has : ∃ (A : Addr) (d : Option Addr) (oe : Obj), C.T.ad x.c = some A ∧ (a, oe) ∈ C.X.pn ∧ Zc (.ref A) d oe ∧ (∃ vs, oe.data = .fields vs) ∧
    match d with
      | none => x.ns = []
      | some dx => ∃ vs, x.ns.length = vs.length ∧ ∀ g s σ H, C.rel g s σ H → H dx = some (.xd (x.ns.zip vs)) ∧ RVs C.T g H x.ms vs
def mXf (a : Addr) (x : Exc) (f : Str) (e : ME) : ME := fun s => (e s).bind fun v s1 => match v with
  | .raw b => if b = a then (match (x.ns.zip x.ms).lookup f with
    | some m => .ok m s1
    | none => .stuck) else .stuck
  | _ => .stuck
theorem lookup_rel {T : Tab} {g : Gh} {H : Hp} {f : Str} {m : M} : ∀ {ns : List Str} {ms : List M} {vs : List V}, RVs T g H ms vs → (ns.zip ms).lookup f = some m → ∃ v, (ns.zip vs).lookup f = some v ∧ RV T g H m v
  | [], _, _, _, h => by simp at h
  | _ :: _, [], _, _, h => by simp at h
  | n :: ns, _ :: ms, _ :: vs, .cons r rs, h => by
    simp only [List.zip_cons_cons, List.lookup_cons] at h ⊢
    by_cases e : (f == n) = true
    · rw [e] at h ⊢; cases h; exact ⟨_, rfl, r⟩
    · have e2 : (f == n) = false := by simpa using e
      rw [e2] at h ⊢; exact lookup_rel rs h
theorem em_xfP {C : MC} {a : Addr} {x : Exc} {f : Str} {ex : Expr} {e : ME} {pos : Pos} (p : PinF C a x) (hno : ∀ A, C.T.ad x.c = some A → PySem.W.findIn C.X.K (.ref A) f = some none) (he : PMe C ex e)
    (hb : attributeBase ex f C.X.env (eval ex C.X.env) = eval ex C.X.env := by rfl) : PMe C (.Attribute ex f pos) (mXf a x f e) := by
  refine ⟨fun pins s σ H Q I ⟨g, ms, r, q⟩ => ?_⟩
  obtain ⟨A, d, oe, ad, hm, hz, ⟨ws, hd⟩, hx⟩ := p.has
  have T := p.fld A ad
  refine attr_of hb (thn (he.run pins s σ H _ I ⟨g, ms, r, Go.bind (R := C.V1) q⟩) fun u s1 ⟨v, H1, I1, l1, m1, ms1, g1, mo1, r1, rv1, q1⟩ => ?_)
  split at q1
  case h_2 => exact q1.elim
  case h_1 b =>
    by_cases hb : b = a
    case neg => rw [if_neg hb] at q1; exact q1.elim
    subst hb
    rw [if_pos rfl] at q1
    cases rv1
    obtain rfl : u = Value.ref b := l1
    cases hl : (x.ns.zip x.ms).lookup f with
    | none => rw [hl] at q1; exact q1.elim
    | some m =>
      rw [hl] at q1
      obtain ⟨ha, _⟩ := I1.pin (b, oe) (List.mem_append_left _ hm)
      cases d with
      | none =>
        have z : x.ns = [] := hx
        rw [z] at hl; simp at hl
      | some dx =>
        obtain ⟨vs, _, hx⟩ := hx
        obtain ⟨e1, rs⟩ := hx g1 ms1 σ H1 r1
        obtain ⟨v, e2, rv⟩ := lookup_rel rs hl
        obtain ⟨mA, hns, hr⟩ := (show ObjOk C.X.prog C.X.w H1 s1.heap dx (.xd (x.ns.zip vs)) from I1.hok dx _ e1)
        obtain ⟨od, ho, hlk⟩ := lookIn_ns hns
        obtain ⟨u, hu, ru⟩ := RelO.some_of (v := v) (o := mA f) (by rw [← e2]; exact hr f)
        have J : PySem.W.InstAt s1.heap b oe A (some od) := ⟨ha, hz.1, by unfold PySem.W.notCls; rw [hd] <;> rfl, by rw [hz.2]; exact ho⟩
        exact HandSPX.exc_get I1.kIn J T.ga T.gg T.exC (PySem.W.findObj_own T.hdC (hno A ad) rfl (by rw [hlk, hu])) (handed_of ru) ⟨v, H1, I1.tok _, ru, q1.ret r1 rv⟩
/-! ### defs that do not raise, called in an except suite -/
/-- where such a def's body stands -/
abbrev cAtH (P : Program) (w : World) (mg : Str → Option Value) (base : Heap) (T : Tab) (N : List Str) (qual : Str) (scope : Scope) (f : Addr) (cd : Value) (A : Around) (outer : List Env) (s : Shared) (H : Hp) (E : XK) (g : Gh) (p : Addr × Obj) : MC :=
  ⟨L2H.cxH (L2.CX P w) P w T.K mg base N qual scope f cd A outer s H E p, T, ⟨g, H⟩, fun _ _ _ _ => False, rfl⟩
/-- the exception handed over -/
structure Hand (T : Tab) (g : Gh) (H : Hp) (p : Addr × Obj) (c : Str) : Prop where
  ex : ∃ (A : Addr) (d : Option Addr), T.ad c = some A ∧ L2.ExcC T.K A ∧ Zc (.ref A) d p.2 ∧ (∃ vs, p.2.data = .fields vs) ∧ match d with
    | none => True
    | some dx => dx ∉ g.ro ∧ ∃ fs, H dx = some (.xd fs)
theorem Hand.pin {P : Program} {w : World} {mg : Str → Option Value} {base : Heap} {T : Tab} {N : List Str} {qual : Str} {scope : Scope} {f : Addr} {cd : Value} {A : Around} {outer : List Env} {s : Shared} {H : Hp} {E : XK} {g : Gh} {p : Addr × Obj} {c : Str} (h : Hand T g H p c) :
    PinX (cAtH P w mg base T N qual scope f cd A outer s H E g p) p.1 c := by
  obtain ⟨A, d, ad, E, hz, hd, hx⟩ := h.ex
  refine ⟨A, d, p.2, ad, E, List.mem_cons_self, hz, hd, fun g' s' σ' H' r => ?_⟩
  cases d with
  | none => trivial
  | some dx =>
    obtain ⟨nr, fs, e⟩ := hx
    exact ⟨fs, r.h.frm dx _ e nr⟩
/-- a def of one argument, the exception at hand -/
structure FnW (P : Program) (w : World) (mg : Str → Option Value) (base : Heap) (T : Tab) (k : Nat) (f : Addr) (F : Addr → Str → Fn) : Prop where
  run : ∀ (A : Around) (outer : List Env) (s : Shared) (H : Hp) (p : Addr × Obj) (c : Str) (g : Gh) (hp : List Cell) (Q : VK), L2H.RoomH k A → L2H.PinOk outer H s p → Env0 P w T.K mg base A outer s H → Hand T g H p c → RelH T ⟨g, H⟩ g hp H →
    GoF T g H (F p.1 c [.raw p.1] hp) Q (fun _ _ _ => False) → codeAny (model P w) A (.call (.ref f) ⟨[.ref p.1], []⟩) (CR (L2.CX P w) outer P w H s Q fun _ _ _ => False) s
theorem fnW_of {P : Program} {w : World} {mg : Str → Option Value} {base : Heap} {T : Tab} {x qual : Str} {st : Stmt} {f : Addr} {fd : FuncData} {N : List Str} {y : Str} {k : Nat} {b : Addr → Str → MStm} (F : Fun T.K x qual st f fd) (S : FnScope N [y] (defScope st)) (hbd : L2.Binds T.K fd [y] [])
    (hb : ∀ (cdv : Value) (A : Around) (outer : List Env) (s : Shared) (H : Hp) (g : Gh) (p : Addr × Obj) (c : Str), (A.deeper (envOfC qual (defScope st) s.heap.objs.size f cdv)).units + 65 < cLine → Hand T g H p c → PMb (cAtH P w mg base T N qual (defScope st) f cdv A outer s H (fun _ _ _ => False) g p) (defBody st) (b p.1 c)) :
    FnW P w mg base T (k + 1) f (fun a c => bodyF 1 N.length (b a c)) := by
  refine ⟨fun A outer s H p c g hp Q hr hpin e0 hh rh go => ?_⟩
  obtain ⟨oc, od, kV, doc, pm, an, cdv, ct, osl, rfl, lk, hcd⟩ := F.ex
  have inK : T.K.In s.heap := e0.mod.kin.keeps (fun b o q => (e0.bs b o q).1)
  have nl : s.heap.NoLimit := e0.mod.nolimit.keeps (fun b o q => (e0.bs b o q).1)
  have kinds : ∀ z ∈ [y].zip [Value.ref p.1], (defScope st).names.lookup z.1 = some .local ∨ ((defScope st).names.lookup z.1 = some .cell ∧ ((cellsFrom (s.heap.objs.size + 1) (defScope st).names []).lookup z.1).isSome = true) := by
    rintro ⟨n, v⟩ hy
    exact (S.par n (List.of_mem_zip hy).1).imp id fun q => ⟨q, PySem.W.cellsFrom_some _ _ _ (.inl q)⟩
  have bd := hbd s [.ref p.1] inK rfl
  refine codeAny_call_function hr.depth (inK _ _ lk) rfl S.co S.gen rfl (PySem.W.codeRec_of inK hcd) (bd _ _ _ _ (wpAny_newFunctionEnv_cells S.kind kinds fun env he s1 ic => ?_))
  subst he
  refine ⟨nl.keeps ic.toInCall.keep, codeAny_func ?_⟩
  have J := L2H.inv_startH (CX := L2.CX P w) (E := fun _ _ _ => False) (vs := [V.ref p.1]) S hpin e0 rfl (.cons rfl .nil) ic
  have hun : (A.deeper (envOfC qual (defScope st) s.heap.objs.size f cdv)).units + 65 < cLine := by have := (hr.deeper (envOfC qual (defScope st) s.heap.objs.size f cdv)).un; omega
  have hbody := hb cdv A outer s H g p c hun hh
  have hnl : 1 ≤ N.length := by
    have := congrArg List.length S.pre
    rw [List.length_take, List.length_singleton] at this
    omega
  have fin : ∀ {σ' : L2.St} {H' : Hp} {v : V} {u : Value} {s' : Shared}, Inv (cAtH P w mg base T N qual (defScope st) f cdv A outer s H (fun _ _ _ => False) g p).X [] σ' H' s' → RelV v u → Q v H' → CE outer P w H s Q u s' :=
    fun J rv q => ⟨_, _, J.os, J.bare, J.base, J.hok, rv, q⟩
  have start_rel : Rel T ⟨g, H⟩ g ⟨[some (.raw p.1)] ++ List.replicate (N.length - 1) none, hp⟩ (L2.start N [V.ref p.1]) H := by
    refine ⟨rh, by unfold L2.start; simp, fun i m v h1 h2 => ?_⟩
    have h1 : ([some (M.raw p.1)] ++ List.replicate (N.length - 1) none)[i]? = some (some m) := h1
    unfold L2.start at h2
    cases i with
    | zero => simp at h1 h2; subst h1; exact ⟨_, h2.symm, .raw _⟩
    | succ i =>
      rw [List.getElem?_append_right (by simp), List.getElem?_replicate] at h1
      split at h1 <;> cases h1
  have goal : rdS (cAtH P w mg base T N qual (defScope st) f cdv A outer s H (fun _ _ _ => False) g p) (b p.1 c) { nx := fun _ H' => Q .non H', rt := Q } (L2.start N [V.ref p.1]) H := by
    refine ⟨g, ⟨[some (.raw p.1)] ++ List.replicate (N.length - 1) none, hp⟩, start_rel, ?_⟩
    have go : GoF T g H (bodyF 1 N.length (b p.1 c) [.raw p.1] hp) Q (fun _ _ _ => False) := go
    unfold bodyF at go
    have em : ([M.raw p.1].map some ++ List.replicate (N.length - 1) none : List (Option M)) = [some (.raw p.1)] ++ List.replicate (N.length - 1) none := rfl
    rw [em] at go
    cases hm : b p.1 c ⟨[some (.raw p.1)] ++ List.replicate (N.length - 1) none, hp⟩ with
    | stuck => rw [hm] at go; exact go.elim
    | err x s1 => rw [hm] at go; exact fun g' H' σ' cls d mo rl xr => go g' H' cls d rl.h xr
    | ok fl s1 =>
      rw [hm] at go
      cases fl with
      | nx => exact fun g' H' σ' mo rl => go g' H' .non rl.h .non
      | rt m => exact fun g' H' σ' v mo rl rv => go g' H' v rl.h rv
      | bk => exact go.elim
      | ct => exact go.elim
  refine wpAny_mono (hbody.run [] s1 (L2.start N [V.ref p.1]) H _ J goal) (fun fl s' hs => ?_) fun e s' hs => hs
  cases fl with
  | ret u =>
    obtain ⟨v, σ', H', J', rv, q⟩ := hs
    exact fin J' rv q
  | next =>
    obtain ⟨σ', H', J', q⟩ := hs
    exact fin (v := V.non) (u := Value.none) J' rfl q
  | brk => exact hs.elim fun _ z => z.elim fun _ y => y.2.elim
  | cont => exact hs.elim fun _ z => z.elim fun _ y => y.2.elim
end Ma
/-! Ma64: try: return e / except X as n: .., where the suite looks at the exception alone. -/
namespace Ma
open L2 PySem.Spec PySem PyProof.Rows
/-- what the text's name x holds: such a def -/
structure KnW (P : Program) (w : World) (mg : Str → Option Value) (base : Heap) (T : Tab) (x : Str) (k : Nat) (F : Addr → Str → Fn) : Prop where
  ex : ∃ f : Addr, FnW P w mg base T k f F ∧ mg x = some (.ref f) ∧ PySem.W.keepIn T.K (.ref f) = true
/-- the exception at hand, at the suite's start -/
structure Caught (T : Tab) (gc : Gh) (Hc : Hp) (x : Exc) (a : Addr) (oe : Obj) : Prop where
  ex : ∃ (A : Addr) (d : Option Addr), T.ad x.c = some A ∧ L2.ExcC T.K A ∧ L2.XfC T.K A ∧ Zc (.ref A) d oe ∧ (∃ vs, oe.data = .fields vs) ∧ match d with
    | none => x.ns = [] ∧ x.ms = []
    | some dx => dx ∉ gc.ro ∧ ∃ vs, x.ns.length = vs.length ∧ Hc dx = some (.xd (x.ns.zip vs)) ∧ RVs T gc Hc x.ms vs
/-- where the suite stands -/
abbrev cSu (C : MC) (a : Addr) (oe : Obj) (pn : List (Addr × Obj)) (gc : Gh) (Hc : Hp) : MC := ⟨C.X.suite a ((a, oe) :: pn), C.T, ⟨gc, Hc⟩, fun _ _ _ _ => False, C.hK⟩
section
variable {C : MC} {a : Addr} {oe : Obj} {pn : List (Addr × Obj)} {gc : Gh} {Hc : Hp} {x : Exc}
theorem Caught.pin (h : Caught C.T gc Hc x a oe) : PinF (cSu C a oe pn gc Hc) a x := by
  obtain ⟨A, d, ad, E, XF, hz, hd, hx⟩ := h.ex
  refine ⟨⟨A, d, oe, ad, C.hK ▸ E, List.mem_cons_self, hz, hd, fun g' s' σ' H' r => ?_⟩, fun A' ad' => ?_, A, d, oe, ad, List.mem_cons_self, hz, hd, ?_⟩
  · cases d with
    | none => trivial
    | some dx =>
      obtain ⟨nr, vs, _, e, _⟩ := hx
      exact ⟨_, r.h.frm dx _ e nr⟩
  · rw [show C.T.ad x.c = some A from ad] at ad'
    cases ad'
    exact C.hK ▸ XF
  · cases d with
    | none => exact hx.1
    | some dx =>
      obtain ⟨nr, vs, l, e, rs⟩ := hx
      exact ⟨vs, l, fun g' s' σ' H' r => ⟨r.h.frm dx _ e nr, rs.mono r.h.m0⟩⟩
theorem Caught.hand (h : Caught C.T gc Hc x a oe) {g' : Gh} {s' : MS} {σ' : L2.St} {H' : Hp} (r : (cSu C a oe pn gc Hc).rel g' s' σ' H') : Hand C.T g' H' (a, oe) x.c := by
  obtain ⟨A, d, ad, E, XF, hz, hd, hx⟩ := h.ex
  refine ⟨A, d, ad, E, hz, hd, ?_⟩
  cases d with
  | none => trivial
  | some dx =>
    obtain ⟨nr, vs, l, e, rs⟩ := hx
    have e' : H' dx = some (.xd (x.ns.zip vs)) := r.h.frm dx _ e nr
    exact ⟨fun z => (r.h.tb.roc dx z _ e').xd _ rfl, _, e'⟩
def mWord (i : Nat) (a : Addr) (c : Str) (F : Addr → Str → Fn) : ME := fun s => match s.env[i]? with
  | some (some (.raw b)) => if b = a then upF s.env (F a c [.raw a] s.hp) else .stuck
  | _ => .stuck
/-- f(n), n the exception at hand -/
theorem em_word {k i : Nat} {f n : Str} {F : Addr → Str → Fn} {p p2 pos : Pos} (h : Caught C.T gc Hc x a oe) (G : KnW C.X.prog C.X.w C.X.mg C.X.base C.T f k F) (hr : RoomG k C.X.A)
    (hN : C.X.N[i]? = some n) (hv : Vis C.X.env.scope n) (hg : Gl C.X f := by rfl) (hdb : (f == ("__debug__" : Str)) = false := by decide) (hdn : (n == ("__debug__" : Str)) = false := by decide) (hcd : (n == ("__classdict__" : Str)) = false := by decide)
    (he : starEach [.Name n p2] (C.X.suite a ((a, oe) :: pn)).env = (false, eval (.Name n p2) (C.X.suite a ((a, oe) :: pn)).env) :: starEach [] (C.X.suite a ((a, oe) :: pn)).env := by rfl) (hpl : (backTo pos (starEach [] (C.X.suite a ((a, oe) :: pn)).env)).any (·.1) = false := by rfl) :
    PMe (cSu C a oe pn gc Hc) (.Call (.Name f p) [.Name n p2] [] pos) (mWord i a x.c F) := by
  obtain ⟨fa, FW, hm, hk⟩ := G.ex
  refine ⟨fun pins s σ H Q I ⟨g, ms, r, q⟩ => wpAny_Call_Name_kw (ld_glob I hg hm ?_ hdb)⟩
  unfold mWord at q
  split at q
  case h_2 => exact q.elim
  case h_1 b hi =>
    by_cases hb : b = a
    case neg => rw [if_neg hb] at q; exact q.elim
    subst hb
    rw [if_pos rfl] at q
    obtain ⟨v, hv2, rv⟩ := r.get hi
    cases rv
    have ha : PA (C.X.suite b ((b, oe) :: pn)) [.Name n p2] _ := pa_cons (pe_var (pos := p2) (i := i) hN hv hdn hcd) pa_nil
    refine PySem.W.callWith_K (h₀ := C.X.base) I.ok.mod.kin (C.hK ▸ hk) (thn (ha.run pos pins s σ H (fun vs H1 => vs = [V.ref b] ∧ H1 = H) I ⟨.ref b, hv2, rfl, rfl⟩) fun us s1 hh => ?_) he hpl
    obtain ⟨vs, H1, I1, r1, ev, eH⟩ := hh
    subst ev
    rw [eH] at I1
    refine ⟨I1.kIn, ?_⟩
    cases r1 with
    | cons ru rn =>
      cases rn
      obtain rfl := ru
      show wpAny _ _ (call (.ref fa) [.ref b]) _ _ _
      have P1 := I1.pin (b, oe) (List.mem_append_left _ List.mem_cons_self)
      have hpin : L2H.PinOk C.X.stack H s1 (b, oe) := ⟨P1.1, P1.2.1, fun hm => (List.mem_cons.mp (I1.stkSub b hm)).elim P1.2.2.1 P1.2.2.2.1, P1.2.2.2.2⟩
      have e0 : Env0 C.X.prog C.X.w C.T.K C.X.mg C.X.base (C.X.A.mark (some (.ref b))) C.X.stack s1 H := C.hK ▸ I1.env0
      have hr2 : L2H.RoomH k (C.X.A.mark (some (.ref b))) := ⟨hr.dp, hr.un⟩
      have gf : GoF C.T g H (F b x.c [.raw b] ms.hp) Q (fun _ _ _ => False) := by
        cases hf : F b x.c [.raw b] ms.hp with
        | stuck => rw [hf] at q; exact q.elim
        | ok m hp => rw [hf] at q; exact fun g' H' v rl rv => q g' H' v rl.m0 (r.env rl.m0 (r.h.comp rl)) rv
        | err y hp => rw [hf] at q; exact fun g' H' cls d rl xr => q g' H' cls d rl.m0 (r.env rl.m0 (r.h.comp rl)) xr
      refine wpAny_call (codeAny_mono (FW.run _ C.X.stack s1 H (b, oe) x.c g ms.hp Q hr2 hpin e0 (h.hand r) r.h.self gf) fun res s' hq => ?_)
      cases res with
      | error e =>
        obtain ⟨_, _, _, _, _, _, _, _, _, _, _, _, z⟩ := (hq : L2.CX C.X.prog C.X.w C.X.stack H s1 (fun _ _ _ => False) e s')
        exact z.elim
      | ok fl =>
        cases fl with
        | ret u => exact I1.after hq
        | next => exact hq.elim
        | brk => exact hq.elim
        | cont => exact hq.elim
end
/-- what a def that says what a call comes to gives: the call's value, or what its suite makes of the exception -/
def sSaid (n : Nat) (v : Exc → Option M) (b : ME) : MStm := fun s => match b s with
  | .ok m s1 => .ok (.rt m) s1
  | .err x s1 => match v x with
    | some m => if n ≤ s1.env.length then .ok (.rt m) ⟨s1.env.map fun _ => none, s1.hp⟩ else .stuck
    | none => .stuck
  | .stuck => .stuck
theorem sm_said {C : MC} {xn n : Str} {CS : Addr} {i l : Nat} {body suite : List Stmt} {b₀ : Stmt} {np pos pos' : Pos} {b : ME} {v : Exc → Option M} {u : Addr → Exc → MStm}
    (hs : C.X.stack = C.X.env :: C.X.outer) (hf : C.X.env.frame = some C.X.env.locals) (hN : C.X.N.Nodup) (hi : C.X.N[i]? = some n) (hln : C.X.env.kindOf n = some .local) (hc : Names C.X xn (.ref CS)) (tk : Takes C.X C.W)
    (hb : ∀ (W : WX) (pn : List (Addr × Obj)) (xe : Value → Shared → Prop), Takes (C.X.tr pn xe) W → PMb ⟨C.X.tr pn xe, C.T, C.e, W, C.hK⟩ body (sRet b))
    (hsub : ∀ x m A, v x = some m → C.T.ad x.c = some A → PySem.W.exmOne C.X.K (.ref A) (.ref CS) = some true ∧ L2.ExcC C.T.K A ∧ L2.XfC C.T.K A)
    (hsu : ∀ (a : Addr) (oe : Obj) (pn : List (Addr × Obj)) (gc : Gh) (Hc : Hp) (x : Exc) (m : M), v x = some m → Caught C.T gc Hc x a oe → PMb (cSu C a oe pn gc Hc) (b₀ :: suite) (u a x))
    (hu : ∀ (a : Addr) (x : Exc) (s : MS) (m : M), v x = some m → l ≤ s.env.length → ∃ e', e'.length = s.env.length ∧ u a x ⟨s.env.set i (some (.raw a)), s.hp⟩ = .ok (.rt m) ⟨e', s.hp⟩) :
    PMs C (.Try body [.ExceptHandler (some (.Name xn np)) (some n) (b₀ :: suite) pos'] [] [] pos) (sSaid l v b) := by
  let ts : Addr → Value → Option Addr → TS := fun a cls d D σ H => ∃ (x : Exc) (m : M) (gc : Gh) (sm : MS) (A : Addr), v x = some m ∧ C.T.ad x.c = some A ∧ cls = .ref A ∧ (match d with
      | none => x.ns = [] ∧ x.ms = []
      | some dx => dx ∉ gc.ro ∧ ∃ vs, x.ns.length = vs.length ∧ H dx = some (.xd (x.ns.zip vs)) ∧ RVs C.T gc H x.ms vs) ∧ L2.ExcC C.T.K A ∧ L2.XfC C.T.K A ∧
    Rel C.T ⟨gc, H⟩ gc sm σ H ∧ ∀ oe pn, GoS (cSu C a oe pn gc H) (u a x sm) gc H D
  refine wkS (ps_try_as (i := i) (tb := fun W => rdS ⟨C.X.tr [] (fun _ _ => False), C.T, C.e, W, C.hK⟩ (sRet b)) (ts := ts) (c := .ref CS) hs hf hN hi hln hc tk (fun W pn xe tkW _ => hb W pn xe tkW) (fun a oe cls d pn hz hd => ?_)) fun D σ H ⟨g, s, r, q⟩ => ?_
  · refine ⟨fun pins s σ H D I h => ?_⟩
    obtain ⟨x, m, gc, sm, A, hv, ad, ec, hx, E, XF, rl, go⟩ := h
    subst ec
    exact (hsu a oe pn gc H x m hv ⟨A, d, ad, E, XF, hz, hd, hx⟩).run pins s σ H D I ⟨gc, sm, rl, go oe pn⟩
  · refine ⟨g, s, r, ?_⟩
    unfold sSaid at q
    unfold sRet
    cases hb : b s with
    | stuck => rw [hb] at q; exact q.elim
    | ok m s1 => rw [hb] at q; exact q
    | err x s1 =>
      rw [hb] at q
      dsimp only at q
      cases hv : v x with
      | none => rw [hv] at q; exact q.elim
      | some m =>
        rw [hv] at q
        dsimp only at q
        by_cases hil : l ≤ s1.env.length
        case neg => rw [if_neg hil] at q; exact q.elim
        rw [if_pos hil] at q
        intro g' H' σ' cls d mo rl xr
        obtain ⟨A, ad, ec, hd⟩ := xr
        obtain ⟨h1, E, XF⟩ := hsub x m A hv ad
        refine ⟨true, by rw [ec]; exact h1, fun _ a ha => ?_, fun z => by cases z⟩
        obtain ⟨e', le, eu⟩ := hu a x s1 m hv hil
        refine ⟨x, m, g', ⟨s1.env.set i (some (.raw a)), s1.hp⟩, A, hv, ad, ec, ?_, E, XF, ?_, ?_⟩
        · cases d with
          | none => exact hd
          | some dx =>
            obtain ⟨vs, l, e, rs⟩ := hd
            exact ⟨fun z => (rl.h.tb.roc dx z _ e).xd _ rfl, vs, l, e, rs⟩
        · exact Rel.put ⟨rl.h.self, rl.len, rl.sl⟩ (.raw a)
        · intro oe pn
          rw [eu]
          intro g2 H2 σ2 w m2 r2 rv
          refine q g2 H2 σ2 w (mo.trans m2) ⟨rl.h.comp r2.h, ?_, fun j y z h1 h2 => ?_⟩ rv
          · have := r2.len
            show (s1.env.map fun _ => (none : Option M)).length = _
            rw [List.length_map, ← le]; exact this
          · have h1 : (s1.env.map fun _ => (none : Option M))[j]? = some (some y) := h1
            rw [List.getElem?_map] at h1
            cases e : s1.env[j]? with
            | none => rw [e] at h1; cases h1
            | some _ => rw [e] at h1; cases h1
end Ma
/-! Ma65: said(lambda: e): what e comes to, told by a def that calls it in a try. -/
namespace Ma
open L2 PySem.Spec PySem PyProof.Rows
section
variable {P : Program} {w : World} {mg : Str → Option Value} {base : Heap} {T : Tab}
/-- the code object of the def at f -/
def CodeOf (K : PySem.W.Frag) (f : Addr) (cdv : Value) : Prop := ∃ (oc : Value) (od : Option Addr) (fd : FuncData) (osl : Array (Option Value)), K.lookup f = some ⟨oc, od, .func fd, osl⟩ ∧ fd.code = cdv
/-- a def run where its caller stands -/
theorem fn_run {x qual : Str} {st : Stmt} {f : Addr} {fd : FuncData} {N ps : List Str} {k : Nat} {b : MStm} {A : Around} {outer : List Env} {s : Shared} {H : Hp} {args : Args} {us : List Value} {vs : List V} {Q : VK} {E : XK} {g : Gh} {hp : List Cell} {as : List M}
    (F : Fun T.K x qual st f fd) (S : FnScope N ps (defScope st)) (hr : RoomG (k + 1) A) (e0 : Env0 P w T.K mg base A outer s H) (hbd : BindsTo s fd args (ps.zip us)) (r : Vals vs us) (hl : vs.length = ps.length)
    (rh : RelH T ⟨g, H⟩ g hp H) (rs : RVs T g H as vs) (go : GoF T g H (bodyF ps.length N.length b as hp) Q E)
    (hb : ∀ cdv : Value, CodeOf T.K f cdv → RoomG k (A.deeper (envOfC qual (defScope st) s.heap.objs.size f cdv)) → PMb (cAt P w mg base T N qual (defScope st) f cdv A outer s H E g) (defBody st) b) :
    codeAny (model P w) A (.call (.ref f) args) (CR (L2.CX P w) outer P w H s Q E) s := by
  obtain ⟨oc, od, kV, doc, pm, an, cdv, ct, osl, rfl, lk, hcd⟩ := F.ex
  have inK : T.K.In s.heap := e0.mod.kin.keeps (fun b o q => (e0.bs b o q).1)
  have nl : s.heap.NoLimit := e0.mod.nolimit.keeps (fun b o q => (e0.bs b o q).1)
  have kinds : ∀ y ∈ ps.zip us, (defScope st).names.lookup y.1 = some .local ∨ ((defScope st).names.lookup y.1 = some .cell ∧ ((cellsFrom (s.heap.objs.size + 1) (defScope st).names []).lookup y.1).isSome = true) := by
    rintro ⟨n, v⟩ hy
    exact (S.par n (List.of_mem_zip hy).1).imp id fun q => ⟨q, PySem.W.cellsFrom_some _ _ _ (.inl q)⟩
  refine codeAny_call_function hr.depth (inK _ _ lk) rfl S.co S.gen rfl (PySem.W.codeRec_of inK hcd) (hbd _ _ _ _ (wpAny_newFunctionEnv_cells S.kind kinds fun env he s1 ic => ?_))
  subst he
  refine ⟨nl.keeps ic.toInCall.keep, codeAny_func ?_⟩
  have J : Inv (cAt P w mg base T N qual (defScope st) f cdv A outer s H E g).X [] (L2.start N vs) H s1 := inv_start S hr.hd e0 hl r ic
  have hbody := hb cdv ⟨_, _, _, _, lk, rfl⟩ (hr.down _)
  have hnl : ps.length ≤ N.length := by
    have := congrArg List.length S.pre
    rw [List.length_take] at this
    omega
  have fin : ∀ {σ' : L2.St} {H' : Hp} {v : V} {u : Value} {s' : Shared}, Inv (cAt P w mg base T N qual (defScope st) f cdv A outer s H E g).X [] σ' H' s' → RelV v u → Q v H' → CE outer P w H s Q u s' :=
    fun J rv q => ⟨_, _, J.os, J.bare, J.base, J.hok, rv, q⟩
  have start_rel : Rel T ⟨g, H⟩ g ⟨as.map some ++ List.replicate (N.length - ps.length) none, hp⟩ (L2.start N vs) H := by
    refine ⟨rh, ?_, fun i m v h1 h2 => ?_⟩
    · unfold L2.start
      simp [rs.length, hl]
    · have h1 : (as.map some ++ List.replicate (N.length - ps.length) none)[i]? = some (some m) := h1
      unfold L2.start at h2
      by_cases hi : i < as.length
      · rw [List.getElem?_append_left (by simpa using hi), List.getElem?_map] at h1
        rw [List.getElem?_append_left (by simpa [← rs.length] using hi), List.getElem?_map] at h2
        cases ha : as[i]? with
        | none => rw [ha] at h1; cases h1
        | some m' =>
          rw [ha] at h1
          cases h1
          obtain ⟨x, hx, rx⟩ := rs.get ha
          rw [hx] at h2
          cases h2
          exact ⟨x, rfl, rx⟩
      · rw [List.getElem?_append_right (by simpa using Nat.le_of_not_lt hi), List.getElem?_replicate] at h1
        split at h1 <;> cases h1
  have goal : rdS (cAt P w mg base T N qual (defScope st) f cdv A outer s H E g) b { nx := fun _ H' => Q .non H', rt := Q } (L2.start N vs) H := by
    refine ⟨g, ⟨as.map some ++ List.replicate (N.length - ps.length) none, hp⟩, start_rel, ?_⟩
    unfold bodyF at go
    cases hm : b ⟨as.map some ++ List.replicate (N.length - ps.length) none, hp⟩ with
    | stuck => rw [hm] at go; exact go.elim
    | err x s1 => rw [hm] at go; exact fun g' H' σ' cls d mo rl xr => go g' H' cls d rl.h xr
    | ok fl s1 =>
      rw [hm] at go
      cases fl with
      | nx => exact fun g' H' σ' mo rl => go g' H' .non rl.h .non
      | rt m => exact fun g' H' σ' v mo rl rv => go g' H' v rl.h rv
      | bk => exact go.elim
      | ct => exact go.elim
  refine wpAny_mono (hbody.run [] s1 (L2.start N vs) H _ J goal) (fun fl s' hs => ?_) fun e s' hs => hs
  cases fl with
  | ret u =>
    obtain ⟨v, σ', H', J', rv, q⟩ := hs
    exact fin J' rv q
  | next =>
    obtain ⟨σ', H', J', q⟩ := hs
    exact fin (v := V.non) (u := Value.none) J' rfl q
  | brk => exact hs.elim fun _ z => z.elim fun _ y => y.2.elim
  | cont => exact hs.elim fun _ z => z.elim fun _ y => y.2.elim
end
def retE (ml : ME) : ME := mTup (mCons (mc (.str "returned")) (mCons ml mNil))
theorem retE_of {ml : ME} {s s1 : MS} {r : M} (h : ml s = .ok r s1) : retE ml s = .ok (.tup [.str "returned", r]) s1 := by
  unfold retE mTup mCons
  show Res.bind (Res.bind (mCons ml mNil s) _) _ = _
  unfold mCons
  rw [h]
  show (if [M.str "returned", r].length ≤ big then Res.ok (M.tup [M.str "returned", r]) s1 else Res.stuck) = _
  exact if_pos (show 2 ≤ big by decide)
theorem retE_err {ml : ME} {s s1 : MS} {x : Exc} (h : ml s = .err x s1) : retE ml s = .err x s1 := by
  unfold retE mTup mCons
  show Res.bind (Res.bind (mCons ml mNil s) _) _ = _
  unfold mCons
  rw [h]
  rfl
theorem mLam_of {f : Addr} {envc : List (Option M)} {m : ME} {s : MS} (h : s.env[0]? = some (some (.raw f))) : mLam 0 f envc m s = (match m ⟨envc, s.hp⟩ with
      | .ok v s1 => .ok v ⟨s.env, s1.hp⟩
      | .err x s1 => .err x ⟨s.env, s1.hp⟩
      | .stuck => .stuck) := by
  unfold mLam
  rw [h]
  dsimp only
  rw [if_pos rfl] <;> rfl
/-- the def that tells what a call comes to -/
structure KnS (P : Program) (w : World) (mg : Str → Option Value) (base : Heap) (T : Tab) (x : Str) (k : Nat) (v : Exc → Option M) : Prop where
  ex : ∃ (f : Addr) (fd : FuncData) (st : Stmt) (N : List Str) (a : Str), Fun T.K x x st f fd ∧ FnScope N [a] (defScope st) ∧ L2.Binds T.K fd [a] [] ∧ mg x = some (.ref f) ∧ PySem.W.keepIn T.K (.ref f) = true ∧ N[0]? = some a ∧ 3 ≤ N.length ∧ Vis (defScope st) a ∧
    (a == ("__debug__" : Str)) = false ∧ (a == ("__classdict__" : Str)) = false ∧
    ∀ (cdv : Value) (A : Around) (outer : List Env) (s : Shared) (H : Hp) (E : XK) (g : Gh) (ml : ME), RoomG k (A.deeper (envOfC x (defScope st) s.heap.objs.size f cdv)) →
      (∀ (W : WX) (pn : List (Addr × Obj)) (xe : Value → Shared → Prop) (p1 p2 : Pos), Takes ((cAt P w mg base T N x (defScope st) f cdv A outer s H E g).X.tr pn xe) W → PMe ⟨(cAt P w mg base T N x (defScope st) f cdv A outer s H E g).X.tr pn xe, T, ⟨g, H⟩, W, rfl⟩ (.Call (.Name a p1) [] [] p2) ml) →
      PMb (cAt P w mg base T N x (defScope st) f cdv A outer s H E g) (defBody st) (sSaid 3 v (retE ml))
def mSaid (v : Exc → Option M) (m : ME) : ME := fun s => match m s with
  | .ok r s1 => .ok (.tup [.str "returned", r]) ⟨s.env, s1.hp⟩
  | .err x s1 => match v x with
    | some r => .ok r ⟨s.env, s1.hp⟩
    | none => .stuck
  | .stuck => .stuck
/-- the code object of the def that makes lambdas, and its table -/
structure LamK (C : MC) (q : Str) : Prop where
  ex : ∃ c P0 : Addr, (P0, q) ∈ C.T.tb ∧ (∀ p ∈ C.T.tb, p.1 = P0 → p.2 = q) ∧ LamX.TabB C.X.base C.X.mg c P0 ∧ C.X.env.code = .ref c ∧ C.X.env.qual ++ "<lambda>" = q
theorem em_said {C : MC} {x q : Str} {k j : Nat} {v : Exc → Option M} {params : Arguments} {body : Expr} {scope : Scope} {p lpos pos : Pos} {m : ME} (Lk : LamK C q) (G : KnS C.X.prog C.X.w C.X.mg C.X.base C.T x k v) (hr : RoomG (k + 1) C.X.A) (tk : Takes C.X C.W)
    (L : LamX.LamS C.X.env.scope scope) (hj : j + 1 ≤ k)
    (hbody : ∀ (A : Around) (outer : List Env) (s : Shared) (H : Hp) (E : XK) (f c' : Addr) (gb : Gh), RoomG j (A.deeper (LamX.lamEnv C.X scope s.heap.objs.size f c')) → PMe (cLam C.X C.T A outer s H E scope f c' gb C.hK) body m)
    (hdef : defaultsOf params C.X.env = ([], []) := by rfl) (hbind : ∀ (q : Str) (cl : List (Str × Addr)) (pm cv ctv : Value), bindArgs (PySem.W.kla_fn "<lambda>" q params body scope cl pm cv ctv) ⟨[], []⟩ = pure [] := by intros; rfl)
    (hg : Gl C.X x := by rfl) (hdb : (x == ("__debug__" : Str)) = false := by decide) :
    PMe C (.Call (.Name x p) [.Lambda params body scope lpos] [] pos) (mSaid v m) := by
  obtain ⟨c, P0, hT, hu, TB, hcode, hq⟩ := Lk.ex
  obtain ⟨fa, fd, st, N, a, F, S, hbd, hm, hk, hN0, hN1, hva, hda, hca, hS⟩ := G.ex
  refine ⟨fun pins sh σ H Q I ⟨g, s, r, go⟩ => wpAny_Call_Name_kw (ld_glob I hg hm ?_ hdb)⟩
  refine PySem.W.callWith_K (h₀ := C.X.base) I.ok.mod.kin (C.hK ▸ hk) ?_ (by rfl) (by rfl)
  show wpAny _ _ (spliced ((false, eval (.Lambda params body scope lpos) C.X.env) :: backTo pos (starEach [] C.X.env))) _ _ sh
  refine Calls.spliced_cons (lam_new I TB hcode hq (r.h.tb.tab _ hT).1 hdef (L.has I.ok) fun f c' pm ctv H1 s' I1 tz t1 hf hfn hfr hco => ?_)
  refine Calls.spliced_nil ⟨I1.kIn, ?_⟩
  obtain ⟨rh1, mo1⟩ := r.h.tabbed hT hu tz t1
  have r1 : C.rel g ⟨s.env, s.hp⟩ σ H1 := r.env mo1 rh1
  have e0 : Env0 C.X.prog C.X.w C.T.K C.X.mg C.X.base C.X.A C.X.stack s' H1 := C.hK ▸ I1.env0
  have inK : C.T.K.In s'.heap := C.hK ▸ I1.kIn
  have gf : GoF C.T g H1 (bodyF 1 N.length (sSaid 3 v (retE (mLam 0 f s.env m))) [.raw f] s.hp) Q (fun cls d H' => C.W cls d σ H') := by
    have e1 : ([M.raw f].map some ++ List.replicate (N.length - 1) none : List (Option M))[0]? = some (some (.raw f)) := rfl
    have e2 : 3 ≤ ([M.raw f].map some ++ List.replicate (N.length - 1) none : List (Option M)).length := by simp; omega
    have e3 := mLam_of (f := f) (envc := s.env) (m := m) (s := ⟨[M.raw f].map some ++ List.replicate (N.length - 1) none, s.hp⟩) e1
    unfold bodyF sSaid
    unfold mSaid at go
    cases hms : m ⟨s.env, s.hp⟩ with
    | stuck => rw [show m s = .stuck from hms] at go; exact go.elim
    | ok rv s1 =>
      rw [show m s = .ok rv s1 from hms] at go
      dsimp only at e3
      rw [hms] at e3
      rw [retE_of e3]
      exact fun g' H' w' rl rw' => go g' H' w' (mo1.trans rl.m0) (r1.env rl.m0 (r1.h.comp rl)) rw'
    | err x s1 =>
      rw [show m s = .err x s1 from hms] at go
      dsimp only at e3 go
      rw [hms] at e3
      rw [retE_err e3]
      dsimp only
      cases hv : v x with
      | none => rw [hv] at go; exact go.elim
      | some rv =>
        rw [hv] at go
        dsimp only
        rw [if_pos e2]
        exact fun g' H' w' rl rw' => go g' H' w' (mo1.trans rl.m0) (r1.env rl.m0 (r1.h.comp rl)) rw'
  have bd := hbd s' [.ref f] inK rfl
  refine wpAny_call (codeAny_mono (fn_run (us := [.ref f]) (vs := [V.ref f]) (as := [.raw f]) (E := fun cls d H' => C.W cls d σ H') (args := ⟨[.ref f], []⟩) F S hr e0 bd (.cons rfl .nil) rfl r1.h.self (.cons (.raw f) .nil) gf fun cdv _ hr2 => ?_) fun res s2 hq2 => ?_)
  · refine hS cdv C.X.A C.X.stack s' H1 _ g (mLam 0 f s.env m) hr2 fun W pn xe p1 p2 tkW => ?_
    exact em_lam (k := j) (hp0 := s.hp) (e0 := C.e) I1 L hf hq hfn hfr hco r1 (hbind _ _ _ _ _) tkW (hr2.less hj) (fun A outer s H E gb hr3 => hbody A outer s H E f c' gb hr3) hN0 hva hda hca
  · cases res with
    | error e => exact tk e s2 (XE.of_call I1 (fun _ _ _ z => z) hq2)
    | ok fl =>
      cases fl with
      | ret u => exact I1.after hq2
      | next => exact hq2.elim
      | brk => exact hq2.elim
      | cont => exact hq2.elim
end Ma
/-! Ma66: what a law's head tells of defs that make lambdas; raise of known classes; a list times an int. -/
namespace Ma
open L2 PySem.W PySem.Spec PySem PyProof.Rows
/-! ### the hook -/
def isTab (o : Obj) : Bool := match o with
  | ⟨.none, none, .fields vs, sl⟩ => vs.isEmpty && sl.isEmpty
  | _ => false
theorem isTab_ok {o : Obj} (h : isTab o = true) : o = tabObj #[] := by
  unfold isTab at h
  split at h
  · obtain ⟨h1, h2⟩ := Bool.and_eq_true_iff.mp h
    rw [Array.isEmpty_iff.mp h1, Array.isEmpty_iff.mp h2]
  · cases h
theorem isTab_tab : isTab (tabObj #[]) = true := rfl
/-- the def at f: its code object, its table -/
def tabOf (K : Frag) (f : Addr) : Addr × Addr := match K.lookup f with
  | some ⟨_, _, .func fd, _⟩ => match fd.code with
    | .ref c => match K.lookup c with
      | some ⟨_, _, .fields vs, _⟩ => match (vs[11]? : Option Value) with
        | some (.ref P) => (c, P)
        | _ => (0, 0)
      | _ => (0, 0)
    | _ => (0, 0)
  | _ => (0, 0)
theorem tabOf_code {K : Frag} {f : Addr} (h : codeHdIn K (tabOf K f).1 (tabOf K f).2 = true) {cdv : Value} (c : CodeOf K f cdv) : cdv = .ref (tabOf K f).1 := by
  obtain ⟨oc, od, fd, osl, lk, rfl⟩ := c
  have nz : ∀ x : Addr, codeHdIn K x x = true → False := fun x z => by
    unfold codeHdIn at z
    split at z
    · simp only [Bool.and_eq_true] at z
      have := z.2
      simp at this
    · cases z
  unfold tabOf at h ⊢
  rw [lk] at h ⊢
  dsimp only at h ⊢
  split at h
  · rename_i c hc
    split at h
    · rename_i vs _ hl
      split at h
      · rename_i P hp
        rw [hc]
      · exact (nz _ h).elim
    · exact (nz _ h).elim
  · exact (nz _ h).elim
def nodB : List Addr → Bool
  | [] => true
  | a :: r => !r.contains a && nodB r
theorem nodB_ok : ∀ {l : List Addr}, nodB l = true → l.Nodup
  | [], _ => List.nodup_nil
  | a :: r, h => by
    obtain ⟨h1, h2⟩ := Bool.and_eq_true_iff.mp h
    refine List.nodup_cons.mpr ⟨fun z => ?_, nodB_ok h2⟩
    rw [List.contains_iff_mem.mpr z] at h1
    cases h1
/-- the heap's part, without the empty tables -/
def frT (g : Addr → Option Obj) (as : List Addr) : Frag := (He.frG g as).filter fun p => !isTab p.2
theorem frG_mem {g : Addr → Option Obj} {as : List Addr} {p : Addr × Obj} (h : p ∈ He.frG g as) : g p.1 = some p.2 := by
  unfold He.frG at h
  obtain ⟨a, _, e⟩ := List.mem_filterMap.mp h
  cases q : g a with
  | none => rw [q] at e; cases e
  | some o => rw [q] at e; cases e; exact q
theorem mem_of_lookA {a : Addr} {o : Obj} : ∀ {l : List (Addr × Obj)}, l.lookup a = some o → (a, o) ∈ l
  | [], h => by simp at h
  | p :: r, h => by
    rw [List.lookup_cons] at h
    by_cases e : (a == p.1) = true
    · rw [e] at h
      cases h
      rw [show a = p.1 from beq_iff_eq.mp e]
      exact List.mem_cons_self
    · have e2 : (a == p.1) = false := by simpa using e
      rw [e2] at h
      exact List.mem_cons_of_mem _ (mem_of_lookA h)
theorem frT_mem {g : Addr → Option Obj} {as : List Addr} {a : Addr} {o : Obj} (h : (frT g as).lookup a = some o) : g a = some o ∧ isTab o = false := by
  have hm := mem_of_lookA h
  unfold frT at hm
  obtain ⟨h1, h2⟩ := List.mem_filter.mp hm
  exact ⟨frG_mem h1, by simpa using h2⟩
theorem frT_in {as : List Addr} {h : Heap} : (frT h.get? as).In h := fun _ _ e => (frT_mem e).1
def tabsB (tbs : Frag → List (Addr × Addr)) (g : Addr → Option Obj) (K : Frag) : Bool := nodB ((tbs K).map (·.2)) && (tbs K).all fun p => codeHdIn K p.1 p.2 && (match g p.2 with
  | some o => isTab o
  | none => false)
def obsT (fa : List He.Fa) (fn : List He5.DefA) (ni : List IniD) (ex : Frag → Bool) (tbs : Frag → List (Addr × Addr)) (g : Addr → Option Obj) (K : Frag) : AlM :=
  ((obsP fa fn ni ex K).1 && tabsB tbs g K, (obsP fa fn ni ex K).2)
structure TabsK (tbs : Frag → List (Addr × Addr)) (K : Frag) (h : Heap) : Prop where
  nd : ((tbs K).map (·.2)).Nodup
  hd : ∀ p ∈ tbs K, codeHdIn K p.1 p.2 = true
  at_ : ∀ p ∈ tbs K, h.get? p.2 = some (tabObj #[])
  no : ∀ p ∈ tbs K, K.lookup p.2 = none
/-! ### a def that makes lambdas -/
structure LamF (base : Heap) (mg : Str → Option Value) (T : Tab) (f : Addr) (q : Str) : Prop where
  ex : ∃ c P0 : Addr, (∀ cdv, CodeOf T.K f cdv → cdv = .ref c) ∧ (P0, q) ∈ T.tb ∧ (∀ p ∈ T.tb, p.1 = P0 → p.2 = q) ∧ LamX.TabB base mg c P0
theorem lamK_of {P : Program} {w : World} {mg : Str → Option Value} {base : Heap} {T : Tab} {N : List Str} {qual q : Str} {scope : Scope} {f : Addr} {cd : Value} {A : Around} {outer : List Env} {s : Shared} {H : Hp} {E : XK} {g : Gh}
    (h : LamF base mg T f q) (hc : CodeOf T.K f cd) (hq : (envOfC qual scope s.heap.objs.size f cd).qual ++ "<lambda>" = q) : LamK (cAt P w mg base T N qual scope f cd A outer s H E g) q := by
  obtain ⟨c, P0, h1, h2, h3, h4⟩ := h.ex
  exact ⟨c, P0, h2, h3, h4, h1 cd hc, hq⟩
theorem lamF_of {base : Heap} {mg : Str → Option Value} {K : Frag} {h : Heap} {ad : Str → Option Addr} {f : Addr} {q : Str} {tbs : Frag → List (Addr × Addr)} {qs : List Str} (t : TabsK tbs K h) (i : Nat) (e1 : (tbs K)[i]? = some (tabOf K f)) (e2 : qs[i]? = some q)
    (TB : ∀ p ∈ tbs K, LamX.TabB base mg p.1 p.2) : LamF base mg ⟨K, ad, ((tbs K).map (·.2)).zip qs⟩ f q := by
  have hm := List.mem_of_getElem? e1
  refine ⟨(tabOf K f).1, (tabOf K f).2, fun cdv c => tabOf_code (t.hd _ hm) c, ?_, fun p hp z => ?_, TB _ hm⟩
  · refine List.mem_of_getElem? (i := i) ?_
    show (((tbs K).map (·.2)).zip qs)[i]? = _
    rw [List.getElem?_zip_eq_some]
    exact ⟨by rw [List.getElem?_map, e1]; rfl, e2⟩
  · have hp : p ∈ ((tbs K).map (·.2)).zip qs := hp
    obtain ⟨j, hj⟩ := List.mem_iff_getElem?.mp hp
    rw [List.getElem?_zip_eq_some] at hj
    obtain ⟨j1, j2⟩ := hj
    have e3 : ((tbs K).map (·.2))[i]? = some (tabOf K f).2 := by rw [List.getElem?_map, e1]; rfl
    have e4 : j = i := nd_ix t.nd j1 (by rw [z]; exact e3)
    rw [e4, e2] at j2
    exact (Option.some.inj j2).symm
section
variable {P : Program} {w : World} {mg : Str → Option Value} {base : Heap} {T : Tab}
theorem fnP_c {x qual : Str} {st : Stmt} {f : Addr} {fd : FuncData} {N ps : List Str} {k : Nat} {b : MStm} (F : Fun T.K x qual st f fd) (S : FnScope N ps (defScope st)) (hbd : L2.Binds T.K fd ps [])
    (hb : ∀ (cdv : Value) (A : Around) (outer : List Env) (s : Shared) (H : Hp) (E : XK) (g : Gh), CodeOf T.K f cdv → RoomG k (A.deeper (envOfC qual (defScope st) s.heap.objs.size f cdv)) → PMb (cAt P w mg base T N qual (defScope st) f cdv A outer s H E g) (defBody st) b) :
    FnP P w mg base T (k + 1) f (posF ps.length [] (bodyF ps.length N.length b)) := by
  refine ⟨fun A outer s H us vs Q E hr e0 rv ⟨g, hp, args, rh, rs, go⟩ => ?_⟩
  unfold posF at go
  by_cases hl : args.length + ([] : List M).length = ps.length
  · rw [if_pos hl, List.append_nil] at go
    have hvl : vs.length = ps.length := by rw [← rs.length]; simpa using hl
    have bd := hbd s us (e0.mod.kin.keeps fun b o q => (e0.bs b o q).1) (by rw [List.append_nil, ← rv.length]; exact hvl)
    rw [List.append_nil] at bd
    exact fn_run F S hr e0 bd rv hvl rh rs go fun cdv hc hr2 => hb cdv A outer s H E g hc hr2
  · rw [if_neg hl] at go; exact go.elim
end
/-! ### raise of known classes -/
structure RaiF (T : Tab) (n : Str) : Prop where
  ex : ∀ A, T.ad n = some A → RaiK T.K A
def raiB (K : Frag) (C : Addr) : Bool := decide (subIn K (.ref C) (.type "BaseException") = some true) && decide (typeIn K (.ref C) = some (.type "type"))
theorem raiB_ok {K : Frag} {C : Addr} (h : raiB K C = true) : RaiK K C := by
  obtain ⟨h1, h2⟩ := Bool.and_eq_true_iff.mp h
  exact ⟨of_decide_eq_true h1, of_decide_eq_true h2⟩
theorem raiF_of {tb : List (Addr × Str)} {K : Frag} {cs : List Str} {c : Str} (h : raiB K (He.ga K c) = true) : RaiF ⟨K, adOf K cs, tb⟩ c := ⟨fun A e => by
  rw [adOf_at (show adOf K cs c = some A from e)]
  exact raiB_ok h⟩
theorem sm_raiK {C : MC} {x : Str} {ex : Expr} {es : List Expr} {ma : MA} {pos p pos' : Pos} (h : KnE C.X.mg C.T x) (R : RaiF C.T x) (hc : C.X.calm = true) (tk : Takes C.X C.W) (ha : PMa C (ex :: es) ma)
    (hg : Gl C.X x := by rfl) (hdb : (x == ("__debug__" : Str)) = false := by decide) (he : starEach (ex :: es) C.X.env = (false, eval ex C.X.env) :: starEach es C.X.env := by rfl) (hpl : (backTo pos (starEach es C.X.env)).any (·.1) = false := by rfl) :
    PMs C (.Raise (some (.Call (.Name x p) (ex :: es) [] pos)) none pos') (sRai x ma) := by
  obtain ⟨A, h1, h2, h3⟩ := h.ex
  exact sm_rai hc tk h3 (R.ex A h1) h1 h2 ha hg hdb he hpl
theorem sm_raiN {C : MC} {n : Str} {fs : List Str} {pt : List Pt} {ex : Expr} {es : List Expr} {ma : MA} {pos p pos' : Pos} (G : KnI C.X.prog C.X.w C.X.mg C.T n fs pt) (R : RaiF C.T n) (hc : C.X.calm = true) (tk : Takes C.X C.W) (hr : RoomG 2 C.X.A) (ha : PMa C (ex :: es) ma) (hx : C.X.ex = [] := by rfl) (h0 : C.X.H_0 = C.e.H := by rfl)
    (hg : Gl C.X n := by rfl) (hdb : (n == ("__debug__" : Str)) = false := by decide) (he : starEach (ex :: es) C.X.env = (false, eval ex C.X.env) :: starEach es C.X.env := by rfl) (hpl : (backTo pos (starEach es C.X.env)).any (·.1) = false := by rfl) :
    PMs C (.Raise (some (.Call (.Name n p) (ex :: es) [] pos)) none pos') (sRaiI n fs pt ma) := sm_raiI hc tk G R.ex hr ha hx h0 hg hdb he hpl
end Ma
/-! Ma98: the head's hook that looks at written addresses (no search for them in the kernel). -/
namespace Ma
open L2 PySem.W PySem.Spec PySem PyProof.Rows
def obsLG (as : List Addr) (fa : List He.Fa) (fn : List He5.DefA) (ni : List IniD) (ex : Frag → Bool) (tbs : Frag → List (Addr × Addr)) (g : Addr → Option Obj) : AlM := obsT fa fn ni ex tbs g (frT g as)
def hookL (as : List Addr) (fa : List He.Fa) (fn : List He5.DefA) (ni : List IniD) (ex : Frag → Bool) (tbs : Frag → List (Addr × Addr)) : Hook where
  α := AlM
  obs := fun s => obsLG as fa fn ni ex tbs s.heap.get?
  val := fun _ => valP fn ni
  says := fun _ h => ∃ K : Frag, K.In h ∧ SaysP fa fn ni ex K ∧ TabsK tbs K h
  of := fun w s e => by
    refine ⟨frT s.heap.get? as, frT_in, ?_, ?_⟩
    · have e0 : (((obsP fa fn ni ex (frT s.heap.get? as)).1 && tabsB tbs s.heap.get? (frT s.heap.get? as), (obsP fa fn ni ex (frT s.heap.get? as)).2) : AlM) = valP fn ni := e
      have e1 := congrArg Prod.fst e0
      have e2 := congrArg Prod.snd e0
      obtain ⟨a, _⟩ := Bool.and_eq_true_iff.mp (show ((obsP fa fn ni ex (frT s.heap.get? as)).1 && tabsB tbs s.heap.get? (frT s.heap.get? as)) = true from e1)
      exact Prod.ext a e2
    · have e1 : ((obsP fa fn ni ex (frT s.heap.get? as)).1 && tabsB tbs s.heap.get? (frT s.heap.get? as)) = true := congrArg (fun z : AlM => z.1) e
      obtain ⟨_, b⟩ := Bool.and_eq_true_iff.mp e1
      obtain ⟨b1, b2⟩ := Bool.and_eq_true_iff.mp b
      have gt : ∀ p ∈ tbs (frT s.heap.get? as), codeHdIn (frT s.heap.get? as) p.1 p.2 = true ∧ s.heap.get? p.2 = some (tabObj #[]) := fun p hp => by
        obtain ⟨c1, c2⟩ := Bool.and_eq_true_iff.mp (List.all_eq_true.mp b2 p hp)
        refine ⟨c1, ?_⟩
        split at c2
        · rename_i o ho; rw [ho, isTab_ok c2]
        · cases c2
      refine ⟨nodB_ok b1, fun p hp => (gt p hp).1, fun p hp => (gt p hp).2, fun p hp => ?_⟩
      cases q : (frT s.heap.get? as).lookup p.2 with
      | none => rfl
      | some o =>
        obtain ⟨d1, d2⟩ := frT_mem q
        rw [(gt p hp).2] at d1
        cases d1
        rw [isTab_tab] at d2
        cases d2
  keeps := fun _ _ _ ⟨K, hK, c, t⟩ k => ⟨K, Frag.In.keeps hK k, c, ⟨t.nd, t.hd, fun p hp => k _ _ (t.at_ p hp), t.no⟩⟩
theorem obsLG_eq {as : List Addr} {fa : List He.Fa} {fn : List He5.DefA} {ni : List IniD} {ex : Frag → Bool} {tbs : Frag → List (Addr × Addr)} {g : Addr → Option Obj} {s : Shared} (h : ∀ a, g a = s.heap.get? a) : obsLG as fa fn ni ex tbs g = (hookL as fa fn ni ex tbs).obs s := by
  have e : g = s.heap.get? := funext h
  rw [e] <;> rfl
end Ma
/-! Ma67: a list times an int; what is said of an exception. -/
namespace Ma
open L2 PySem.Spec PySem PyProof.Rows
section
variable {C : MC} {g : Gh} {H : Hp}
def oMulL (x y : M) (s : MS) : Res M := match lstOf s.hp x with
  | some ms => match y with
    | .int k => if -(2 ^ 62) ≤ k ∧ k < 2 ^ 62 ∧ ms.length * k.toNat ≤ big then .ok (.lst (repL k ms)) s else .stuck
    | _ => .stuck
  | none => .stuck
end
/-! ### what a call comes to, in a word -/
def fldX (x : Exc) (f : Str) : Option M := (x.ns.zip x.ms).lookup f
def saidX (ws : List (Str × Str)) (x : Exc) : Option M := match ws.lookup x.c with
  | none => none
  | some w =>
    if (w == "twice" || w == "held") = true then (fldX x "key").map fun k => .tup [.str w, k]
    else if (w == "many") = true then (match fldX x "many", fldX x "most" with
      | some a, some b => some (.tup [.str w, a, b])
      | _, _ => none)
    else if (w == "competing") = true then (fldX x "pair").map fun k => .tup [.str w, k]
    else if (w == "ringed") = true then (fldX x "ring").map fun k => .tup [.str w, k]
    else if (w == "collision") = true then (match fldX x "row", fldX x "holder" with
      | some a, some b => some (.tup [.str w, a, b])
      | _, _ => none)
    else some (.tup [.str w])
/-- the exceptions that are caught, and what their classes say of their fields -/
structure SaidF (T : Tab) (mg : Str → Option Value) (cs : Str) (xs fs : List Str) : Prop where
  ex : ∃ CS : Addr, mg cs = some (.ref CS) ∧ ∀ c ∈ xs, ∀ A, T.ad c = some A → PySem.W.exmOne T.K (.ref A) (.ref CS) = some true ∧ L2.ExcC T.K A ∧ L2.XfC T.K A ∧ ∀ f ∈ fs, PySem.W.findIn T.K (.ref A) f = some none
def exmB (K : PySem.W.Frag) (A CS : Addr) : Bool := decide (PySem.W.exmOne K (.ref A) (.ref CS) = some true)
def nofB (K : PySem.W.Frag) (fs : List Str) (A : Addr) : Bool := fs.all fun f => eqb (PySem.W.findIn K (.ref A) f) (some none)
theorem saidF_of {tb : List (Addr × Str)} {K : PySem.W.Frag} {cl : List Str} {mg : Str → Option Value} {cs : Str} {xs fs : List Str} (hm : mg cs = some (.ref (He.ga K cs))) (hx : ∀ c ∈ xs, L2.ExcC K (He.ga K c) ∧ L2.XfC K (He.ga K c))
    (h1 : (xs.all fun c => exmB K (He.ga K c) (He.ga K cs)) = true) (h2 : (xs.all fun c => nofB K fs (He.ga K c)) = true) : SaidF ⟨K, adOf K cl, tb⟩ mg cs xs fs := by
  refine ⟨_, hm, fun c hc A e => ?_⟩
  rw [adOf_at (show adOf K cl c = some A from e)]
  obtain ⟨x1, x2⟩ := hx c hc
  exact ⟨of_decide_eq_true (List.all_eq_true.mp h1 c hc), x1, x2, fun f hf => eqb_ok (List.all_eq_true.mp (List.all_eq_true.mp h2 c hc) f hf)⟩
end Ma
namespace HandSHeadRun
open PySem.W PySem.Spec PySem PyProof.Rows
theorem opt3 {α β γ δ : Type} {o : Option α} {f : α → β} {g : α → γ} {h : α → δ} {x : β} {y : γ} {z : δ} (h1 : o.map f = some x) (h2 : o.map g = some y) (h3 : o.map h = some z) : o.map (fun s => (f s, g s, h s)) = some (x, y, z) := by
  cases o with
  | none => cases h1
  | some s => cases h1; cases h2; cases h3; rfl
def RunB (r : OpenRow) (M : Nat) (w : World) : Prop := ∀ os : OsState, (endF (stepQ (denQ tabQ) r.prog w) M r.prog w os).map (fun s => looksF r.prog (boot_heap w.params) s.abs) = some true
def RunC (r : OpenRow) (q : Program) (M : Nat) (loose : List PySem.Str) (w : World) : Prop := ∀ os : OsState, (endF (stepQ (denQ tabQ) r.prog w) M r.prog w os).map (fun s => seenQ q loose (importedModules r.prog.main.body) (fun s => xlAt q [] s && recOk r.toRowW.records s) s.abs) = some (openGood q loose)
def RunD (r : OpenRow) (H : Hook) (ob : SharedT → H.α) (M : Nat) (w : World) : Prop := ∀ os : OsState, (endF (stepQ (denQ tabQ) r.prog w) M r.prog w os).map (fun s => ob s) = some (H.val w)
theorem run_of {r : OpenRow} {q : Program} {H : Hook} {ob : SharedT → H.α} {M : Nat} {loose : List PySem.Str} {w : World} (h1 : RunB r M w) (h2 : RunC r q M loose w) (h3 : RunD r H ob M w) : RunEq r q H ob M loose w := fun os => opt3 (h1 os) (h2 os) (h3 os)
end HandSHeadRun
namespace Lw
open L2 Ma PySem.Spec PySem PyProof.Rows
def top (i : Nat) : Stmt := PySem.Challenge.pw_rowclash_k72_statements_planned.main.body.getD i (.Pass ⟨0, 0, 0, 0⟩)
abbrev XS : List Str := ["RowError", "NotRow", "NotTable", "NotKey", "NotKeys", "NotRows", "NotOrder", "NotRule", "NotInteger", "NotScan", "NotBound", "NotFormula", "NotDeed", "NotText", "NotBytes", "NotLine", "Missing", "Impossible", "TooLarge", "NothingDone", "Twice", "Held", "TooMany", "Competing", "Ringed", "Collision"]
abbrev IS : List Str := ["Table", "Formula"]
def mros : List (Str × List Tg) := [("RowError", [.own "RowError", .bi "ValueError", .bi "Exception", .bi "BaseException", .bi "object"]), ("NotRow", [.own "NotRow", .own "RowError", .bi "ValueError", .bi "Exception", .bi "BaseException", .bi "object"]), ("NotTable", [.own "NotTable", .own "RowError", .bi "ValueError", .bi "Exception", .bi "BaseException", .bi "object"]), ("NotKey", [.own "NotKey", .own "RowError", .bi "ValueError", .bi "Exception", .bi "BaseException", .bi "object"]), ("NotKeys", [.own "NotKeys", .own "RowError", .bi "ValueError", .bi "Exception", .bi "BaseException", .bi "object"]), ("NotRows", [.own "NotRows", .own "RowError", .bi "ValueError", .bi "Exception", .bi "BaseException", .bi "object"]), ("NotOrder", [.own "NotOrder", .own "RowError", .bi "ValueError", .bi "Exception", .bi "BaseException", .bi "object"]), ("NotRule", [.own "NotRule", .own "RowError", .bi "ValueError", .bi "Exception", .bi "BaseException", .bi "object"]), ("NotInteger", [.own "NotInteger", .own "RowError", .bi "ValueError", .bi "Exception", .bi "BaseException", .bi "object"]), ("NotScan", [.own "NotScan", .own "RowError", .bi "ValueError", .bi "Exception", .bi "BaseException", .bi "object"]), ("NotBound", [.own "NotBound", .own "RowError", .bi "ValueError", .bi "Exception", .bi "BaseException", .bi "object"]), ("NotFormula", [.own "NotFormula", .own "RowError", .bi "ValueError", .bi "Exception", .bi "BaseException", .bi "object"]), ("NotDeed", [.own "NotDeed", .own "RowError", .bi "ValueError", .bi "Exception", .bi "BaseException", .bi "object"]), ("NotText", [.own "NotText", .own "RowError", .bi "ValueError", .bi "Exception", .bi "BaseException", .bi "object"]), ("NotBytes", [.own "NotBytes", .own "RowError", .bi "ValueError", .bi "Exception", .bi "BaseException", .bi "object"]), ("NotLine", [.own "NotLine", .own "RowError", .bi "ValueError", .bi "Exception", .bi "BaseException", .bi "object"]), ("Missing", [.own "Missing", .own "RowError", .bi "ValueError", .bi "Exception", .bi "BaseException", .bi "object"]), ("Impossible", [.own "Impossible", .own "RowError", .bi "ValueError", .bi "Exception", .bi "BaseException", .bi "object"]), ("TooLarge", [.own "TooLarge", .own "RowError", .bi "ValueError", .bi "Exception", .bi "BaseException", .bi "object"]), ("NothingDone", [.own "NothingDone", .own "RowError", .bi "ValueError", .bi "Exception", .bi "BaseException", .bi "object"]), ("Twice", [.own "Twice", .own "RowError", .bi "ValueError", .bi "Exception", .bi "BaseException", .bi "object"]), ("Held", [.own "Held", .own "RowError", .bi "ValueError", .bi "Exception", .bi "BaseException", .bi "object"]), ("TooMany", [.own "TooMany", .own "RowError", .bi "ValueError", .bi "Exception", .bi "BaseException", .bi "object"]), ("Competing", [.own "Competing", .own "RowError", .bi "ValueError", .bi "Exception", .bi "BaseException", .bi "object"]), ("Ringed", [.own "Ringed", .own "RowError", .bi "ValueError", .bi "Exception", .bi "BaseException", .bi "object"]), ("Collision", [.own "Collision", .own "RowError", .bi "ValueError", .bi "Exception", .bi "BaseException", .bi "object"]), ("Table", [.own "Table", .bi "object"]), ("Formula", [.own "Formula", .bi "object"])]
abbrev BI : List String := ["ValueError", "bool", "dict", "int", "list", "tuple"]
abbrev CS : List Str := ["RowError", "NotRow", "NotTable", "NotKey", "NotKeys", "NotRows", "NotOrder", "NotRule", "NotInteger", "NotScan", "NotBound", "NotFormula", "NotDeed", "NotText", "NotBytes", "NotLine", "Missing", "Impossible", "TooLarge", "NothingDone", "Twice", "Held", "TooMany", "Competing", "Ringed", "Collision", "Table", "Formula"]
abbrev isi : Tg → Tg → Option Bool := isiM mros BI
abbrev SFS : List Str := ["key", "many", "most", "pair", "ring", "row", "holder"]
abbrev s__law_cell_at : Stmt := top 60
abbrev s__law_pen : Stmt := top 61
abbrev s__law_draw : Stmt := top 62
abbrev s__law_pick : Stmt := top 63
abbrev s__law_numbers : Stmt := top 69
abbrev s__law_mixed : Stmt := top 64
abbrev s__law_pairs : Stmt := top 65
abbrev s_is_integer : Stmt := top 4
abbrev s_is_small : Stmt := top 6
abbrev s_Formula___init__ : Stmt := clsMeth (top 48) 0
abbrev s__law_bounds : Stmt := top 73
abbrev s__law_inside : Stmt := top 71
abbrev s__law_ordered : Stmt := top 70
abbrev s__law_planned : Stmt := top 72
abbrev s__law_same : Stmt := top 68
abbrev s__law_word : Stmt := top 66
abbrev s__law_said : Stmt := top 67
abbrev s_is_key : Stmt := top 5
abbrev s_are_different_keys : Stmt := top 8
abbrev s_check_formula : Stmt := top 51
abbrev s_check_scan : Stmt := top 52
abbrev s_check_bounds : Stmt := top 53
abbrev s_is_within : Stmt := top 54
abbrev s_Formula_times : Stmt := clsMeth (top 48) 1
abbrev s_Formula_plus : Stmt := clsMeth (top 48) 2
abbrev s_new_key : Stmt := top 50
abbrev s_changed_rows : Stmt := top 55
abbrev s_distance : Stmt := top 57
abbrev s_visited_rows : Stmt := top 56
abbrev s_is_pair : Stmt := top 7
abbrev s_check_rows : Stmt := top 41
abbrev s_new_keys : Stmt := top 42
abbrev s_Table___init__ : Stmt := clsMeth (top 44) 0
abbrev s_statement : Stmt := top 58
abbrev s_Table_rows : Stmt := clsMeth (top 44) 2
abbrev s__law_told : Stmt := top 74
abbrev s__law_defaults_right : Stmt := top 75
abbrev s_law : Stmt := top 76
end Lw
namespace Lw
open L2 Ma PySem.Spec PySem PyProof.Rows
open PySem.W
def fns : List He5.DefA := [⟨fun K => He.ga K "_law_cell_at", "_law_cell_at", "_law_cell_at", defArgs s__law_cell_at, defBody s__law_cell_at, defScope s__law_cell_at, [], []⟩, ⟨fun K => He.ga K "_law_pen", "_law_pen", "_law_pen", defArgs s__law_pen, defBody s__law_pen, defScope s__law_pen, [], []⟩, ⟨fun K => He.ga K "_law_draw", "_law_draw", "_law_draw", defArgs s__law_draw, defBody s__law_draw, defScope s__law_draw, [], []⟩, ⟨fun K => He.ga K "_law_pick", "_law_pick", "_law_pick", defArgs s__law_pick, defBody s__law_pick, defScope s__law_pick, [], []⟩, ⟨fun K => He.ga K "_law_numbers", "_law_numbers", "_law_numbers", defArgs s__law_numbers, defBody s__law_numbers, defScope s__law_numbers, [], []⟩, ⟨fun K => He.ga K "_law_mixed", "_law_mixed", "_law_mixed", defArgs s__law_mixed, defBody s__law_mixed, defScope s__law_mixed, [], []⟩, ⟨fun K => He.ga K "_law_pairs", "_law_pairs", "_law_pairs", defArgs s__law_pairs, defBody s__law_pairs, defScope s__law_pairs, [], []⟩, ⟨fun K => He.ga K "is_integer", "is_integer", "is_integer", defArgs s_is_integer, defBody s_is_integer, defScope s_is_integer, [], []⟩, ⟨fun K => He.ga K "is_small", "is_small", "is_small", defArgs s_is_small, defBody s_is_small, defScope s_is_small, [], []⟩, ⟨fun K => He.ma K (He.ga K "Formula") "__init__", "__init__", "Formula.__init__", defArgs s_Formula___init__, defBody s_Formula___init__, defScope s_Formula___init__, [.int 1, .int 0], []⟩, ⟨fun K => He.ga K "_law_bounds", "_law_bounds", "_law_bounds", defArgs s__law_bounds, defBody s__law_bounds, defScope s__law_bounds, [], []⟩, ⟨fun K => He.ga K "_law_inside", "_law_inside", "_law_inside", defArgs s__law_inside, defBody s__law_inside, defScope s__law_inside, [], []⟩, ⟨fun K => He.ga K "_law_ordered", "_law_ordered", "_law_ordered", defArgs s__law_ordered, defBody s__law_ordered, defScope s__law_ordered, [], []⟩, ⟨fun K => He.ga K "_law_planned", "_law_planned", "_law_planned", defArgs s__law_planned, defBody s__law_planned, defScope s__law_planned, [], []⟩, ⟨fun K => He.ga K "_law_same", "_law_same", "_law_same", defArgs s__law_same, defBody s__law_same, defScope s__law_same, [], []⟩, ⟨fun K => He.ga K "_law_word", "_law_word", "_law_word", defArgs s__law_word, defBody s__law_word, defScope s__law_word, [], []⟩, ⟨fun K => He.ga K "_law_said", "_law_said", "_law_said", defArgs s__law_said, defBody s__law_said, defScope s__law_said, [], []⟩, ⟨fun K => He.ga K "is_key", "is_key", "is_key", defArgs s_is_key, defBody s_is_key, defScope s_is_key, [], []⟩, ⟨fun K => He.ga K "are_different_keys", "are_different_keys", "are_different_keys", defArgs s_are_different_keys, defBody s_are_different_keys, defScope s_are_different_keys, [], []⟩, ⟨fun K => He.ga K "check_formula", "check_formula", "check_formula", defArgs s_check_formula, defBody s_check_formula, defScope s_check_formula, [], []⟩, ⟨fun K => He.ga K "check_scan", "check_scan", "check_scan", defArgs s_check_scan, defBody s_check_scan, defScope s_check_scan, [], []⟩, ⟨fun K => He.ga K "check_bounds", "check_bounds", "check_bounds", defArgs s_check_bounds, defBody s_check_bounds, defScope s_check_bounds, [], []⟩, ⟨fun K => He.ga K "is_within", "is_within", "is_within", defArgs s_is_within, defBody s_is_within, defScope s_is_within, [], []⟩, ⟨fun K => He5.wf K (He.ga K "Formula") "property" "times", "times", "Formula.times", defArgs s_Formula_times, defBody s_Formula_times, defScope s_Formula_times, [], []⟩, ⟨fun K => He5.wf K (He.ga K "Formula") "property" "plus", "plus", "Formula.plus", defArgs s_Formula_plus, defBody s_Formula_plus, defScope s_Formula_plus, [], []⟩, ⟨fun K => He.ga K "new_key", "new_key", "new_key", defArgs s_new_key, defBody s_new_key, defScope s_new_key, [], []⟩, ⟨fun K => He.ga K "changed_rows", "changed_rows", "changed_rows", defArgs s_changed_rows, defBody s_changed_rows, defScope s_changed_rows, [], []⟩, ⟨fun K => He.ga K "distance", "distance", "distance", defArgs s_distance, defBody s_distance, defScope s_distance, [], []⟩, ⟨fun K => He.ga K "visited_rows", "visited_rows", "visited_rows", defArgs s_visited_rows, defBody s_visited_rows, defScope s_visited_rows, [], []⟩, ⟨fun K => He.ga K "is_pair", "is_pair", "is_pair", defArgs s_is_pair, defBody s_is_pair, defScope s_is_pair, [], []⟩, ⟨fun K => He.ga K "check_rows", "check_rows", "check_rows", defArgs s_check_rows, defBody s_check_rows, defScope s_check_rows, [], []⟩, ⟨fun K => He.ga K "new_keys", "new_keys", "new_keys", defArgs s_new_keys, defBody s_new_keys, defScope s_new_keys, [], []⟩, ⟨fun K => He.ma K (He.ga K "Table") "__init__", "__init__", "Table.__init__", defArgs s_Table___init__, defBody s_Table___init__, defScope s_Table___init__, [], []⟩, ⟨fun K => He.ga K "statement", "statement", "statement", defArgs s_statement, defBody s_statement, defScope s_statement, [], [("scan", .str "up"), ("low", .non), ("high", .non)]⟩, ⟨fun K => He5.wf K (He.ga K "Table") "property" "rows", "rows", "Table.rows", defArgs s_Table_rows, defBody s_Table_rows, defScope s_Table_rows, [], []⟩, ⟨fun K => He.ga K "_law_told", "_law_told", "_law_told", defArgs s__law_told, defBody s__law_told, defScope s__law_told, [], []⟩, ⟨fun K => He.ga K "_law_defaults_right", "_law_defaults_right", "_law_defaults_right", defArgs s__law_defaults_right, defBody s__law_defaults_right, defScope s__law_defaults_right, [], []⟩, ⟨fun K => He.ga K "law", "law", "law", defArgs s_law, defBody s_law, defScope s_law, [], []⟩]
def tbs (K : PySem.W.Frag) : List (Addr × Addr) := [tabOf K (He.ga K "law")]
abbrev qs : List Str := ["law.<locals>.<lambda>"]
def fas : List He.Fa := [.glo "_law_cell_at", .glo "_law_pen", .glo "_law_draw", .glo "_law_pick", .glo "_law_numbers", .glo "_law_mixed", .glo "_law_pairs", .glo "is_integer", .glo "is_small", .glo "_law_bounds", .glo "_law_inside", .glo "_law_ordered", .glo "_law_planned", .glo "_law_same", .glo "_law_word", .glo "_law_said", .glo "is_key", .glo "are_different_keys", .glo "check_formula", .glo "check_scan", .glo "check_bounds", .glo "is_within", .glo "new_key", .glo "changed_rows", .glo "distance", .glo "visited_rows", .glo "is_pair", .glo "check_rows", .glo "new_keys", .glo "statement", .glo "_law_told", .glo "_law_defaults_right", .glo "law", .glo "Collision", .glo "Competing", .glo "Formula", .glo "Held", .glo "Impossible", .glo "Missing", .glo "NotBound", .glo "NotBytes", .glo "NotDeed", .glo "NotFormula", .glo "NotInteger", .glo "NotKey", .glo "NotKeys", .glo "NotLine", .glo "NotOrder", .glo "NotRow", .glo "NotRows", .glo "NotRule", .glo "NotScan", .glo "NotTable", .glo "NotText", .glo "NothingDone", .glo "Ringed", .glo "RowError", .glo "Table", .glo "TooLarge", .glo "TooMany", .glo "Twice", .free "ValueError", .free "abs", .free "all", .free "bool", .free "dict", .free "enumerate", .free "int", .free "isinstance", .free "len", .free "list", .free "max", .free "min", .free "range", .free "repr", .free "set", .free "sorted", .free "super", .free "tuple", .int "KEY_BOUND" 1000000000000000000000000000000, .int "MOST_ROWS" 40, .int "SMALL_BOUND" 1000000000000000, .glo "SCANS"]
abbrev mt_TooMany : Stmt := clsMeth (top 35) 0
abbrev di_TooMany : IniD := ⟨"TooMany", defArgs mt_TooMany, defBody mt_TooMany, defScope mt_TooMany⟩
abbrev mt_Twice : Stmt := clsMeth (top 33) 0
abbrev di_Twice : IniD := ⟨"Twice", defArgs mt_Twice, defBody mt_Twice, defScope mt_Twice⟩
def nis : List IniD := [di_TooMany, di_Twice]
abbrev PP : Program := PySem.Challenge.rw_rowclash_k72_statements_planned.prog
def exL : List (PySem.W.Frag → Bool) := [fun K => (XS.all fun c => excB K (He.ga K c)), fun K => (IS.all fun c => insB K (He.ga K c)), fun K => isiB K CS mros BI, fun K => exkB K (He.ga K "NotBound"), fun K => exkB K (He.ga K "NotFormula"), fun K => exkB K (He.ga K "NotInteger"), fun K => exkB K (He.ga K "NotKeys"), fun K => exkB K (He.ga K "NotRow"), fun K => exkB K (He.ga K "NotScan"), fun K => exkB K (He.ga K "TooLarge"), fun K => stB K (He.ga K "TooMany") "many", fun K => stB K (He.ga K "TooMany") "most", fun K => iniB PP K (He.ga K "TooMany") (iniAd K "TooMany"), fun K => stB K (He.ga K "Twice") "key", fun K => iniB PP K (He.ga K "Twice") (iniAd K "Twice"), fun K => clsB K (He.ga K "Table"), fun K => noB K (He.ga K "Table") "_new_keys", fun K => clsB K (He.ga K "Formula"), fun K => noB K (He.ga K "Formula") "_plus", fun K => noB K (He.ga K "Formula") "_times", fun K => He.tupB K "SCANS" [.str "up", .str "down", .str "far", .str "near"], fun K => raiB K (He.ga K "NotBound"), fun K => raiB K (He.ga K "NotFormula"), fun K => raiB K (He.ga K "NotInteger"), fun K => raiB K (He.ga K "NotKeys"), fun K => raiB K (He.ga K "NotRow"), fun K => raiB K (He.ga K "NotScan"), fun K => raiB K (He.ga K "TooLarge"), fun K => raiB K (He.ga K "TooMany"), fun K => raiB K (He.ga K "Twice"), fun K => ((["NotRow", "NotTable", "NotKey", "NotKeys", "NotRows", "NotOrder", "NotRule", "NotInteger", "NotScan", "NotBound", "NotFormula", "NotDeed", "NotText", "NotBytes", "NotLine", "Missing", "Impossible", "TooLarge", "NothingDone", "Twice", "Held", "TooMany", "Competing", "Ringed", "Collision"] : List Str).all fun c => exmB K (He.ga K c) (He.ga K "RowError")), fun K => ((["NotRow", "NotTable", "NotKey", "NotKeys", "NotRows", "NotOrder", "NotRule", "NotInteger", "NotScan", "NotBound", "NotFormula", "NotDeed", "NotText", "NotBytes", "NotLine", "Missing", "Impossible", "TooLarge", "NothingDone", "Twice", "Held", "TooMany", "Competing", "Ringed", "Collision"] : List Str).all fun c => nofB K SFS (He.ga K c)), fun K => propB K (He.ga K "Formula") "times", fun K => propB K (He.ga K "Formula") "plus", fun K => mkB K (He.ga K "Table"), fun K => propB K (He.ga K "Table") "rows", fun K => mkB K (He.ga K "Formula")]
def exs (K : PySem.W.Frag) : Bool := exL.all fun b => b K
end Lw
namespace Lw
open L2 PySem.W Ma PySem.Spec PySem PyProof.Rows
abbrev R : OpenRow := OpenLaw.row PySem.Challenge.rw_rowclash_k72_statements_planned
abbrev asL : List Addr := ([2, 3, 6, 4, 21, 28, 35, 42, 49, 54, 59, 64] : List Addr) ++ ([71, 81, 94, 106, 118, 130, 142, 154, 166, 178, 190, 202] : List Addr) ++ ([214, 226, 238, 250, 262, 274, 286, 298, 310, 331, 352, 373] : List Addr) ++ ([394, 415, 436, 443, 448, 455, 556, 561, 672, 683, 690, 697] : List Addr) ++ ([704, 711, 718, 723, 728, 735, 741, 748, 755, 762, 769, 776] : List Addr) ++ ([783, 790, 797, 804, 811, 816, 823, 828, 835, 842, 847, 852] : List Addr) ++ ([0, 20, 27, 34, 41, 48, 53, 58, 63, 70, 80, 93] : List Addr) ++ ([105, 117, 129, 141, 153, 165, 177, 189, 201, 213, 225, 237] : List Addr) ++ ([249, 261, 273, 285, 297, 309, 330, 351, 372, 393, 414, 435] : List Addr) ++ ([442, 447, 454, 555, 671, 682, 689, 696, 703, 710, 717, 722] : List Addr) ++ ([727, 734, 740, 736, 747, 754, 761, 768, 775, 782, 789, 796] : List Addr) ++ ([803, 810, 815, 822, 827, 834, 841, 846, 851, 15, 17, 18] : List Addr) ++ ([19, 22, 24, 25, 26, 29, 31, 32, 33, 36, 38, 39] : List Addr) ++ ([40, 43, 45, 46, 47, 50, 52, 55, 57, 60, 62, 65] : List Addr) ++ ([67, 68, 69, 79, 82, 92, 104, 116, 128, 140, 152, 164] : List Addr) ++ ([176, 188, 200, 212, 224, 236, 248, 260, 272, 284, 296, 308] : List Addr) ++ ([328, 329, 349, 350, 370, 371, 391, 392, 412, 413, 433, 434] : List Addr) ++ ([439, 441, 444, 446, 449, 451, 452, 453, 469, 478, 487, 494] : List Addr) ++ ([501, 508, 515, 522, 529, 534, 541, 548, 553, 554, 557, 558] : List Addr) ++ ([576, 584, 592, 599, 606, 613, 620, 627, 634, 641, 648, 655] : List Addr) ++ ([662, 669, 670, 673, 674, 677, 679, 680, 681, 684, 686, 687] : List Addr) ++ ([688, 691, 693, 694, 695, 698, 700, 701, 702, 705, 707, 708] : List Addr) ++ ([709, 712, 714, 715, 716, 719, 721, 724, 726, 729, 731, 732] : List Addr) ++ ([733, 737, 739, 742, 744, 745, 746, 749, 751, 752, 753, 756] : List Addr) ++ ([758, 759, 760, 763, 765, 766, 767, 770, 772, 773, 774, 777] : List Addr) ++ ([779, 780, 781, 784, 786, 787, 788, 791, 793, 794, 795, 798] : List Addr) ++ ([800, 801, 802, 805, 807, 808, 809, 812, 814, 817, 819, 820] : List Addr) ++ ([821, 824, 826, 829, 831, 832, 833, 836, 838, 839, 840, 843] : List Addr) ++ ([845, 848, 850, 327, 316, 348, 337, 369, 358, 390, 379, 411] : List Addr) ++ ([400, 432, 421, 468, 476, 477, 486, 493, 500, 507, 514, 521] : List Addr) ++ ([528, 533, 540, 547, 552, 575, 569, 583, 591, 598, 605, 612] : List Addr) ++ ([619, 626, 633, 640, 647, 654, 661, 668, 322, 324, 325, 326] : List Addr) ++ ([343, 345, 346, 347, 364, 366, 367, 368, 385, 387, 388, 389] : List Addr) ++ ([406, 408, 409, 410, 427, 429, 430, 431, 463, 465, 466, 467] : List Addr) ++ ([475, 479, 485, 488, 490, 491, 492, 495, 497, 498, 499, 502] : List Addr) ++ ([504, 505, 506, 509, 511, 512, 513, 516, 518, 519, 520, 523] : List Addr) ++ ([525, 526, 527, 530, 532, 535, 537, 538, 539, 542, 544, 545] : List Addr) ++ ([546, 549, 551, 570, 572, 573, 574, 582, 590, 593, 595, 596] : List Addr) ++ ([597, 600, 602, 603, 604, 607, 609, 610, 611, 614, 616, 617] : List Addr) ++ ([618, 621, 623, 624, 625, 628, 630, 631, 632, 635, 637, 638] : List Addr) ++ ([639, 642, 644, 645, 646, 649, 651, 652, 653, 656, 658, 659] : List Addr) ++ ([660, 663, 665, 666, 667, 470, 472, 473, 474, 480, 482, 483] : List Addr) ++ ([484, 577, 579, 580, 581, 585, 587, 588, 589] : List Addr)
abbrev hk : Hook := hookL asL fas fns nis exs tbs
def ob (s : SharedT) : AlM := obsLG asL fas fns nis exs tbs (HandSHeadRun.getT s)
theorem ob_eq (s : SharedT) : ob s = hk.obs s.abs := obsLG_eq (HandSHeadRun.getT_eq s)
abbrev loose : List Str := (["_wall", "KEY_BOUND", "SMALL_BOUND", "is_integer", "is_key", "is_small", "is_pair", "are_different_keys", "are_rows", "is_ascending", "is_set_of_rows", "RowError"] : List Str) ++ (["NotRow", "NotTable", "NotKey", "NotKeys", "NotRows", "NotOrder", "NotRule", "NotInteger", "NotScan", "NotBound", "NotFormula", "NotDeed"] : List Str) ++ (["NotText", "NotBytes", "NotLine", "Missing", "Impossible", "TooLarge", "NothingDone", "Twice", "Held", "TooMany", "Competing", "Ringed"] : List Str) ++ (["Collision", "MOST_ROWS", "check_rows", "new_keys", "rows_to_add", "Table", "SCANS", "MOST_TIMES", "Formula", "as_formula", "new_key", "check_formula"] : List Str) ++ (["check_scan", "check_bounds", "is_within", "changed_rows", "visited_rows", "distance", "statement", "_law_cell_at", "_law_pen", "_law_draw", "_law_pick", "_law_mixed"] : List Str) ++ (["_law_pairs", "_law_word", "_law_said", "_law_same", "_law_numbers", "_law_ordered", "_law_inside", "_law_planned", "_law_bounds", "_law_told", "_law_defaults_right"] : List Str)
theorem run_b (w : World) : HandSHeadRun.RunB R 15000 w := by
  intro os
  kernel_rfl
theorem run_c (w : World) : HandSHeadRun.RunC R (view R.prog [76]) 15000 loose w := by
  intro os
  kernel_rfl
theorem run_d (w : World) : HandSHeadRun.RunD R hk ob 15000 w := by
  intro os
  kernel_rfl
theorem run (w : World) : HandSHeadRun.RunEq R (view R.prog [76]) hk ob 15000 loose w := HandSHeadRun.run_of (run_b w) (run_c w) (run_d w)
end Lw
/-! Ma68: more of the machine's runs. -/
namespace Ma
open L2 PySem.Spec PySem PyProof.Rows
theorem mlst_of {ma : MA} {s s1 : MS} {ms : List M} (h : ma s = .ok ms s1) (hl : ms.length ≤ big) : mLst ma s = .ok (.lst ms) s1 := by
  unfold mLst
  rw [h]
  exact if_pos hl
theorem mtup_of {ma : MA} {s s1 : MS} {ms : List M} (h : ma s = .ok ms s1) (hl : ms.length ≤ big) : mTup ma s = .ok (.tup ms) s1 := by
  unfold mTup
  rw [h]
  exact if_pos hl
theorem or_t {t u : MT} {s s1 : MS} (h : t s = .ok true s1) : mOr t u s = .ok true s1 := by unfold mOr; rw [h]; rfl
theorem seq_rt {a b : MStm} {s s1 : MS} {m : M} (h : a s = .ok (.rt m) s1) : sSeq a b s = .ok (.rt m) s1 := by unfold sSeq; rw [h]; rfl
theorem seq_err {a b : MStm} {s s1 : MS} {x : Exc} (h : a s = .err x s1) : sSeq a b s = .err x s1 := by unfold sSeq; rw [h]; rfl
theorem mif_of {t : MT} {a b : ME} {s s1 : MS} {k : Bool} (h : t s = .ok k s1) : mIf t a b s = if k = true then a s1 else b s1 := by unfold mIf; rw [h]; rfl
theorem body_err {n len : Nat} {b : MStm} {args : List M} {hp : List Cell} {s' : MS} {x : Exc} (h : b ⟨args.map some ++ List.replicate (len - n) none, hp⟩ = .err x s') : bodyF n len b args hp = .err x s'.hp := by unfold bodyF; rw [h]
theorem said_ok {v : Exc → Option M} {m : ME} {s s1 : MS} {r : M} (h : m s = .ok r s1) : mSaid v m s = .ok (.tup [.str "returned", r]) ⟨s.env, s1.hp⟩ := by unfold mSaid; rw [h]
theorem said_err {v : Exc → Option M} {m : ME} {s s1 : MS} {x : Exc} {r : M} (h : m s = .err x s1) (hv : v x = some r) : mSaid v m s = .ok r ⟨s.env, s1.hp⟩ := by unfold mSaid; rw [h]; dsimp only; rw [hv]
end Ma
/-! Ma69: own operators with right operands of several types; operators by the right operand; -x; instances called; defs with defaults. -/
namespace Ma
open L2 PySem.W PySem.Spec PySem PyProof.Rows
/-! ### x op y, x own -/
def oDunBs (c : Str) (F : Fn) (ts : List String) (o : M → M → MS → Res M) : M → M → MS → Res M := fun x y s => if isIns c x s = true then (match biOf s.hp y with
  | some n => if ts.contains n = true then upF s.env (F [x, y] s.hp) else .stuck
  | none => if isIns c y s = true then upF s.env (F [x, y] s.hp) else .stuck) else o x y s
/-! ### x op y, y own, x None, a bool, an int -/
end Ma
/-! Ma70: -x, x own; instances called; defs with defaults. -/
namespace Ma
open L2 PySem.W PySem.Spec PySem PyProof.Rows
/-! ### defs with defaults -/
section
variable {P : Program} {w : World} {mg : Str → Option Value} {base : Heap} {T : Tab}
theorem fnP_d {x qual : Str} {st : Stmt} {f : Addr} {fd : FuncData} {N ps : List Str} {k : Nat} {b : MStm} {dvs : List V} {kws : List (Str × V)} {dms : List M} (F : L2.FunD T.K x qual (defArgs st) (defBody st) (defScope st) dvs kws f fd) (S : FnScope N ps (defScope st))
    (n j : Nat) (hd : dvs ≠ []) (hn : n + (dvs.length - j) = ps.length) (hdm : ∀ g H, RVs T g H dms (dvs.drop j))
    (h : ∀ (T : Addr) (kV doc pm : Value) (an : Option Addr) (cdv ct : Value) (us its : List Value), us.length = n → its.length = dvs.length →
      ∃ k, bindArgs (PySem.W.fnOf x qual (defArgs st) (defBody st) (defScope st) (.ref T) kV doc pm an cdv ct) ⟨us, []⟩ = seqItems? (.ref T) >>= k ∧ k (some its.toArray) = pure (ps.zip (us ++ its.drop j)))
    (hb : ∀ (cdv : Value) (A : Around) (outer : List Env) (s : Shared) (H : Hp) (E : XK) (g : Gh), RoomG k (A.deeper (envOfC qual (defScope st) s.heap.objs.size f cdv)) → PMb (cAt P w mg base T N qual (defScope st) f cdv A outer s H E g) (defBody st) b) :
    FnP P w mg base T (k + 1) f (posF ps.length dms (bodyF ps.length N.length b)) := by
  obtain ⟨ds, hv, hbd⟩ := F.binds1 n j hd hn h
  refine FnP.of (fd := fd) (dms := dms) (F := bodyF ps.length N.length b) ⟨fun A outer s H args us vs Q E hr e0 hbd r hsp => ?_⟩ hbd hv hdm
  obtain ⟨oc, od, dV, kV, doc, pm, an, cdv, ct, osl, rfl, lk, hcd, _, _⟩ := F.ex
  obtain ⟨hl, g, hp, as, rh, rs, go⟩ := hsp
  have inK : T.K.In s.heap := e0.mod.kin.keeps (fun b o q => (e0.bs b o q).1)
  have nl : s.heap.NoLimit := e0.mod.nolimit.keeps (fun b o q => (e0.bs b o q).1)
  have kinds : ∀ y ∈ ps.zip us, (defScope st).names.lookup y.1 = some .local ∨ ((defScope st).names.lookup y.1 = some .cell ∧ ((cellsFrom (s.heap.objs.size + 1) (defScope st).names []).lookup y.1).isSome = true) := by
    rintro ⟨n, v⟩ hy
    exact (S.par n (List.of_mem_zip hy).1).imp id fun q => ⟨q, PySem.W.cellsFrom_some _ _ _ (.inl q)⟩
  refine codeAny_call_function hr.depth (inK _ _ lk) rfl S.co S.gen rfl (PySem.W.codeRec_of inK hcd) (hbd _ _ _ _ (wpAny_newFunctionEnv_cells S.kind kinds fun env he s1 ic => ?_))
  subst he
  refine ⟨nl.keeps ic.toInCall.keep, codeAny_func ?_⟩
  have J : Inv (cAt P w mg base T N qual (defScope st) f cdv A outer s H E g).X [] (L2.start N vs) H s1 := inv_start S hr.hd e0 hl r ic
  have hbody := hb cdv A outer s H E g (hr.down _)
  have hnl : ps.length ≤ N.length := by
    have := congrArg List.length S.pre
    rw [List.length_take] at this
    omega
  have fin : ∀ {σ' : L2.St} {H' : Hp} {v : V} {u : Value} {s' : Shared}, Inv (cAt P w mg base T N qual (defScope st) f cdv A outer s H E g).X [] σ' H' s' → RelV v u → Q v H' → CE outer P w H s Q u s' :=
    fun J rv q => ⟨_, _, J.os, J.bare, J.base, J.hok, rv, q⟩
  let D : Ends := { nx := fun _ H' => Q .non H', rt := Q }
  have start_rel : Rel T ⟨g, H⟩ g ⟨as.map some ++ List.replicate (N.length - ps.length) none, hp⟩ (L2.start N vs) H := by
    refine ⟨rh, ?_, fun i m v h1 h2 => ?_⟩
    · unfold L2.start
      simp [rs.length, hl]
    · have h1 : (as.map some ++ List.replicate (N.length - ps.length) none)[i]? = some (some m) := h1
      unfold L2.start at h2
      by_cases hi : i < as.length
      · rw [List.getElem?_append_left (by simpa using hi), List.getElem?_map] at h1
        rw [List.getElem?_append_left (by simpa [← rs.length] using hi), List.getElem?_map] at h2
        cases ha : as[i]? with
        | none => rw [ha] at h1; cases h1
        | some m' =>
          rw [ha] at h1
          cases h1
          obtain ⟨x, hx, rx⟩ := rs.get ha
          rw [hx] at h2
          cases h2
          exact ⟨x, rfl, rx⟩
      · rw [List.getElem?_append_right (by simpa using Nat.le_of_not_lt hi), List.getElem?_replicate] at h1
        split at h1 <;> cases h1
  have goal : rdS (cAt P w mg base T N qual (defScope st) f cdv A outer s H E g) b D (L2.start N vs) H := by
    refine ⟨g, ⟨as.map some ++ List.replicate (N.length - ps.length) none, hp⟩, start_rel, ?_⟩
    unfold bodyF at go
    cases hm : b ⟨as.map some ++ List.replicate (N.length - ps.length) none, hp⟩ with
    | stuck => rw [hm] at go; exact go.elim
    | err x s1 => rw [hm] at go; exact fun g' H' σ' cls d mo rl xr => go g' H' cls d rl.h xr
    | ok fl s1 =>
      rw [hm] at go
      cases fl with
      | nx => exact fun g' H' σ' mo rl => go g' H' .non rl.h .non
      | rt m => exact fun g' H' σ' v mo rl rv => go g' H' v rl.h rv
      | bk => exact go.elim
      | ct => exact go.elim
  refine wpAny_mono (hbody.run [] s1 (L2.start N vs) H D J goal) (fun fl s' hs => ?_) fun e s' hs => hs
  cases fl with
  | ret u =>
    obtain ⟨v, σ', H', J', rv, q⟩ := hs
    exact fin J' rv q
  | next =>
    obtain ⟨σ', H', J', q⟩ := hs
    exact fin (v := V.non) (u := Value.none) J' rfl q
  | brk => exact hs.elim fun _ z => z.elim fun _ y => y.2.elim
  | cont => exact hs.elim fun _ z => z.elim fun _ y => y.2.elim
end
end Ma
/-! Ma71: the right operand's own operator, where the left one declines; facts of own operators from the head. -/
namespace Ma
open L2 PySem.W PySem.Spec PySem PyProof.Rows
theorem mem_lookS {c w : Str} : ∀ {l : List (Str × Str)}, l.lookup c = some w → (c, w) ∈ l
  | [], h => by simp at h
  | p :: r, h => by
    rw [List.lookup_cons] at h
    by_cases e : (c == p.1) = true
    · rw [e] at h
      cases h
      rw [show c = p.1 from beq_iff_eq.mp e]
      exact List.mem_cons_self
    · have e2 : (c == p.1) = false := by simpa using e
      rw [e2] at h
      exact List.mem_cons_of_mem _ (mem_lookS h)
theorem saidX_has {ws : List (Str × Str)} {x : Exc} {m : M} (h : saidX ws x = some m) : ∃ w, ws.lookup x.c = some w ∧ (x.c, w) ∈ ws := by
  unfold saidX at h
  cases e : ws.lookup x.c with
  | none => rw [e] at h; cases h
  | some w => exact ⟨w, rfl, mem_lookS e⟩
theorem or_val {t u : MT} {s : MS} {a b : Bool} (h : t s = .ok a s) (h2 : u s = .ok b s) : mOr t u s = .ok (a || b) s := by
  unfold mOr
  rw [h]
  cases a
  · exact h2
  · rfl
/-! ### the left operand declines -/
def oDunRf (c : Str) (F : Fn) (o : M → M → MS → Res M) : M → M → MS → Res M := fun x y s => if isIns c y s = true then (match x with
  | .non => upF s.env (F [y, x] s.hp)
  | .bl _ => upF s.env (F [y, x] s.hp)
  | .int _ => upF s.env (F [y, x] s.hp)
  | x => o x y s) else o x y s
/-! ### from the head -/
end Ma
/-! Ma72: a built-in value compared (==, !=) with an own instance on the right. -/
namespace Ma
open L2 PySem.W PySem.Spec PySem PyProof.Rows
/-! ### floor division by greater numbers -/
def oDivW := oInt (fun _ j => decide (0 < j ∧ j < 18446744073709551616)) fun i j => .int (i / j)
theorem ok_divW {C : MC} : Op2Ok C (binaryOp .FloorDiv) oDivW := Op2Ok.of op_fdivW fun σ H g s m1 m2 x y Q r r1 r2 h => by
  obtain ⟨i, j, rfl, rfl, hc, q⟩ := oInt_at h r1 r2
  have hc := of_decide_eq_true hc
  exact ⟨i, j, rfl, rfl, wide_div hc.1 (b := 64) (by omega) (by decide) (by decide), q.same r (.int _)⟩
/-! ### which of 25 classes -/
def bl25 (i : Nat) : List M := List.replicate i (.bl false) ++ .bl true :: List.replicate (24 - i) (.bl false)
theorem cnt25 {o0 o2 : Option M} {h : List Cell} : ∀ (i : Nat) (_ : i < 25), mCnt (mv 1) (mc (.bl true)) ⟨[o0, some (.lst (bl25 i)), o2], h⟩ = .ok (.int 1) ⟨[o0, some (.lst (bl25 i)), o2], h⟩
  | 0, _ => by kernel_rfl
  | 1, _ => by kernel_rfl
  | 2, _ => by kernel_rfl
  | 3, _ => by kernel_rfl
  | 4, _ => by kernel_rfl
  | 5, _ => by kernel_rfl
  | 6, _ => by kernel_rfl
  | 7, _ => by kernel_rfl
  | 8, _ => by kernel_rfl
  | 9, _ => by kernel_rfl
  | 10, _ => by kernel_rfl
  | 11, _ => by kernel_rfl
  | 12, _ => by kernel_rfl
  | 13, _ => by kernel_rfl
  | 14, _ => by kernel_rfl
  | 15, _ => by kernel_rfl
  | 16, _ => by kernel_rfl
  | 17, _ => by kernel_rfl
  | 18, _ => by kernel_rfl
  | 19, _ => by kernel_rfl
  | 20, _ => by kernel_rfl
  | 21, _ => by kernel_rfl
  | 22, _ => by kernel_rfl
  | 23, _ => by kernel_rfl
  | 24, _ => by kernel_rfl
  | n + 25, h => by omega
theorem ix25 {o0 o2 : Option M} {h : List Cell} : ∀ (i : Nat) (_ : i < 25), mIxD (mv 1) (mc (.bl true)) ⟨[o0, some (.lst (bl25 i)), o2], h⟩ = .ok (.int (i : Nat)) ⟨[o0, some (.lst (bl25 i)), o2], h⟩
  | 0, _ => by kernel_rfl
  | 1, _ => by kernel_rfl
  | 2, _ => by kernel_rfl
  | 3, _ => by kernel_rfl
  | 4, _ => by kernel_rfl
  | 5, _ => by kernel_rfl
  | 6, _ => by kernel_rfl
  | 7, _ => by kernel_rfl
  | 8, _ => by kernel_rfl
  | 9, _ => by kernel_rfl
  | 10, _ => by kernel_rfl
  | 11, _ => by kernel_rfl
  | 12, _ => by kernel_rfl
  | 13, _ => by kernel_rfl
  | 14, _ => by kernel_rfl
  | 15, _ => by kernel_rfl
  | 16, _ => by kernel_rfl
  | 17, _ => by kernel_rfl
  | 18, _ => by kernel_rfl
  | 19, _ => by kernel_rfl
  | 20, _ => by kernel_rfl
  | 21, _ => by kernel_rfl
  | 22, _ => by kernel_rfl
  | 23, _ => by kernel_rfl
  | 24, _ => by kernel_rfl
  | n + 25, h => by omega
theorem ixD_lst {ms : List M} {i : Int} {m : M} {s : MS} (h : atI ms i = some m) : oIxD oIx (.lst ms) (.int i) s = .ok m s := by
  show (match atI ms i with | some m => Res.ok m s | none => .stuck) = _
  rw [h]
end Ma
/-! Ma73: targets within targets. -/
namespace Ma
open L2 PySem.W PySem.Spec PySem PyProof.Rows
section
variable {C : MC} {g g1 : Gh} {H H1 : Hp} {s : MS} {σ : L2.St} {pos p : Pos}
def GoV (C : MC) (r : Res Unit) (g : Gh) (H : Hp) (Q : L2.St → Hp → Prop) : Prop := match r with
  | .ok _ s1 => ∀ (g' : Gh) (H' : Hp) (σ' : L2.St), Mono g H g' H' → C.rel g' s1 σ' H' → Q σ' H'
  | _ => False
theorem GoV.later {r : Res Unit} {Q : L2.St → Hp → Prop} (m : Mono g H g1 H1) (h : GoV C r g H Q) : GoV C r g1 H1 Q := by
  cases r with
  | ok a s => exact fun g' H' σ' q => h g' H' σ' (m.trans q)
  | err x s => exact h
  | stuck => exact h
end
end Ma
/-! Ma74: runs of texts: str, f-strings, repr of ints. -/
namespace Ma
open L2 PySem.Spec PySem PyProof.Rows
theorem log2_lt_of {i : Int} {k : Nat} (hk : k ≤ 1920) (h : i.natAbs < 2 ^ k) : i.natAbs.log2 < 1920 := by
  by_cases h0 : i.natAbs = 0
  · rw [h0]; decide
  · exact Nat.lt_of_lt_of_le ((Nat.log2_lt h0).mpr h) hk
/-! ### what stood still stands -/
def Ext (B hp : List Cell) : Prop := ∀ (k : Nat) (c : Cell), B[k]? = some c → hp[k]? = some c
theorem Ext.refl (B : List Cell) : Ext B B := fun _ _ h => h
theorem Ext.trans {A B D : List Cell} (h : Ext A B) (h2 : Ext B D) : Ext A D := fun k c e => h2 k c (h k c e)
theorem Ext.app (B t : List Cell) : Ext B (B ++ t) := fun k c e => by rw [List.getElem?_append_left (List.getElem?_eq_some_iff.mp e).1]; exact e
theorem Ext.len {A B : List Cell} (h : Ext A B) : A.length ≤ B.length := by
  rcases Nat.eq_zero_or_pos A.length with e | e
  · omega
  · have := h (A.length - 1) _ (List.getElem?_eq_getElem (by omega))
    have := (List.getElem?_eq_some_iff.mp this).1
    omega
theorem Ext.set {A B : List Cell} (h : Ext A B) {n : Nat} {c : Cell} (hn : A.length ≤ n) : Ext A (B.set n c) := fun k d e => by
  have := (List.getElem?_eq_some_iff.mp e).1
  rw [List.getElem?_set_ne (by omega)]; exact h k d e
end Ma
/-! numbers as bytes, the highest one first -/
/-! Ma75: bytes. -/
namespace Ma
open L2 PySem.Spec PySem PyProof.Rows
section
variable {C : MC} {g g1 : Gh} {H H1 : Hp} {s : MS} {σ : L2.St} {ex ea eb ec o : Expr} {es : List Expr} {a b c : ME} {ma : MA} {pos p p2 apos cpos : Pos} {x n f : Str}
/-- len -/
def cMin (ms : List M) (s : MS) : Res M := match ms with
  | [.int i, .int j] => .ok (.int (if j < i then j else i)) s
  | _ => .stuck
theorem ok_min2 : CallOk C (fun xs H Q => ∃ i j, xs = [.int i, .int j] ∧ Q (.int (if j < i then j else i)) H) cMin := fun σ H g s ms xs Q r rs h => by
  unfold cMin at h
  split at h
  · cases rs with
    | cons r1 r2 => cases r2 with
      | cons r2 r3 => cases r3; cases r1; cases r2; exact ⟨_, _, rfl, h.same r (.int _)⟩
  · exact h.elim
end
end Ma
/-! Ma76: `is None`. -/
namespace Ma
open L2 PySem.Spec PySem PyProof.Rows
section
variable {C : MC} {g g1 : Gh} {H H1 : Hp} {s : MS} {σ : L2.St}
def isNon : M → Bool
  | .non => true
  | _ => false
theorem rv_non {T : Tab} {m : M} {x : V} (rv : RV T g H m x) : decide (x = V.non) = isNon m := by
  cases rv <;> first | rfl | exact decide_eq_false (fun z => by cases z)
def oIsN (neg : Bool) (x y : M) (s : MS) : Res M := match y with
  | .non => .ok (.bl (if neg then !isNon x else isNon x)) s
  | _ => .stuck
theorem ok_isN : Op2Ok C (compareOp .Is) (oIsN false) := Op2Ok.of op_isN fun σ H g s m1 m2 x y Q r r1 r2 h => by
  unfold oIsN at h
  split at h
  · cases r2
    refine ⟨rfl, ?_⟩
    rw [rv_non r1]
    exact h.same r (.bl _)
  · exact h.elim
theorem ok_isntN : Op2Ok C (compareOp .IsNot) (oIsN true) := Op2Ok.of op_notN fun σ H g s m1 m2 x y Q r r1 r2 h => by
  unfold oIsN at h
  split at h
  · cases r2
    refine ⟨rfl, ?_⟩
    rw [rv_non r1]
    exact h.same r (.bl _)
  · exact h.elim
end
end Ma
/-! Ma77: a dict of a tuple of pairs. -/
namespace Ma
open L2 PySem.Spec PySem PyProof.Rows
end Ma
/-! Ma78: a property that returns tuple(d.items()), and a dict of what it returns. -/
namespace Ma
open L2 PySem.W PySem.Spec PySem PyProof.Rows
end Ma
/-! Ma79: in a list of data; the head's facts of a property that returns a plain tuple. -/
namespace Ma
open L2 PySem.W PySem.Spec PySem PyProof.Rows
section
variable {C : MC} {g g1 : Gh} {H H1 : Hp} {s : MS} {σ : L2.St}
def oInL (neg : Bool) (x y : M) (s : MS) : Res M := match datT s.hp x, datT s.hp y with
  | some d, some (.list ds) => if (SeqAt.shaped d && SeqAt.shaped (.list ds)) = true then .ok (.bl (if neg then !(ds.any fun z => z.eqv d) else ds.any fun z => z.eqv d)) s else .stuck
  | _, _ => .stuck
theorem oInL_at {neg : Bool} {m1 m2 : M} {x y : V} {Q : VK} (h : Go C C.V1 σ (oInL neg m1 m2 s) g H Q) (r : C.rel g s σ H) (r1 : RV C.T g H m1 x) (r2 : RV C.T g H m2 y) :
    ∃ d ds, Dp C.X.K H x d ∧ Dp C.X.K H y (.list ds) ∧ SeqAt.shaped d = true ∧ SeqAt.shaped (.list ds) = true ∧ Q (.bl (if neg then !(ds.any fun z => z.eqv d) else ds.any fun z => z.eqv d)) H := by
  unfold oInL at h
  split at h
  · rename_i d ds h1 h2
    by_cases hs : (SeqAt.shaped d && SeqAt.shaped (.list ds)) = true
    · rw [if_pos hs] at h
      obtain ⟨s1, s2⟩ := Bool.and_eq_true_iff.mp hs
      exact ⟨d, ds, datT_dp r r1 h1, datT_dp r r2 h2, s1, s2, h.same r (.bl _)⟩
    · rw [if_neg hs] at h; exact h.elim
  · exact h.elim
theorem ok_inL (hu : C.X.A.units + 65 < cLine) : Op2Ok C (compareOp .In) (oInL false) := Op2Ok.of (L2.op_inD hu) fun σ H g s m1 m2 x y Q r r1 r2 h => oInL_at h r r1 r2
end
end Ma
/-! Ma80: sorted(..) of lists of data of one shape, any number; of the int keys of a dict. -/
namespace Ma
open L2 PySem.W PySem.Spec PySem PyProof.Rows
section
variable {X : Cx}
abbrev VD := V × PyData
/-- sorted(xs), xs a list that reads as data -/
def rSortD (K : PySem.W.Frag) : RC := fun vs H Q => ∃ (a : Addr) (bs : List VD), vs = [.ref a] ∧ SqL K H a (bs.map Prod.fst) ∧ (∀ b ∈ bs, Dp K H b.1 b.2) ∧ AllAlike (bs.map Prod.snd) ∧ Sortable (bs.map Prod.snd) ∧ (∀ b ∈ bs, b.2.depth ≤ 20) ∧
  ∀ p, H p = none → Q (.ref p) (upd H p (.lst ((bs.mergeSort (dataLe false Prod.snd)).map Prod.fst)))
theorem each_vals {us : List Value} {bs : List VD} (h : EachIs (fun u (b : VD) => RelV b.1 u) us bs) : Vals (bs.map Prod.fst) us := by
  induction h with
  | nil => exact .nil
  | cons h _ ih => exact .cons h ih
theorem vals_each : ∀ {us : List Value} {bs : List VD}, Vals (bs.map Prod.fst) us → EachIs (fun u (b : VD) => RelV b.1 u) us bs
  | _, [], h => by
    rw [List.map_nil] at h
    cases h
    exact .nil
  | _, b :: bs, h => by
    rw [List.map_cons] at h
    cases h with
    | cons r rs => exact .cons r (vals_each rs)
theorem each_and {α β : Type} {R S : α → β → Prop} {as : List α} {bs : List β} (h : EachIs R as bs) (k : ∀ a b, b ∈ bs → R a b → S a b) : EachIs S as bs := by
  induction h with
  | nil => exact .nil
  | cons h _ ih => exact .cons (k _ _ (List.mem_cons_self ..) h) (ih fun a b m r => k a b (List.mem_cons_of_mem _ m) r)
theorem cr_sortD (hu : X.A.units + 64 < cLine) : CallR X (.builtin "sorted") (rSortD X.K) := by
  intro pins s σ H vs us Q I r h
  obtain ⟨a, bs, rfl, hs, hd, hal, hk, hdep, q⟩ := h
  obtain ⟨its, rv, hl, hz⟩ := I.list hs
  rw [Vals.ref1 r]
  have e := vals_each rv
  have er : EachIs (fun v (b : VD) => ∃ as, Reads s.heap v b.2 as) its bs := each_and e fun u b hb ru => Dp.reads I _ _ _ (hd b hb) ru
  rw [List.length_map] at hz
  refine sorted_data (enc := Prod.snd) hl.isList e er hal hk hz (fun b hb => by have := hdep b hb; omega) fun out hlen ho => ?_
  obtain ⟨ep, he'⟩ := PyProof.Rows.sortedAll_at s.heap its out.toArray
  have hv := each_vals ho
  have hlen : ((bs.mergeSort (dataLe false Prod.snd)).map Prod.fst).length ≤ sizeLine := by
    rw [List.length_map, List.length_mergeSort]
    exact hz
  exact ⟨.ref _, upd H (s.heap.objs.size + 1) (.lst ((bs.mergeSort (dataLe false Prod.snd)).map Prod.fst)), I.laid (t' := s.toks) (fun _ _ => PyProof.Rows.sortedAll_old) (Nat.le_succ _) ⟨hlen, out, ep, hv, he'⟩, rfl, q _ (I.hok.fresh (Nat.le_succ _))⟩
end
end Ma
/-! Ma81: sorted(..) of data and of a dict's int keys, in the machine. -/
namespace Ma
open L2 PySem.W PySem.Spec PySem PyProof.Rows
section
variable {C : MC} {g g1 : Gh} {H H1 : Hp} {s : MS} {σ : L2.St} {T : Tab}
def rSortK : RC := fun xs H Q => ∃ (a : Addr) (kvs : List (Key × V)) (ks : List Int), xs = [.ref a] ∧ Rd H a (.dK kvs) ∧ kvs.map (·.1) = ks.map Sum.inl ∧ ks.length < 64 ∧
  ∀ (ys : List Int) (p : Addr), ys.Perm ks → ys.Pairwise (· ≤ ·) → H p = none → Q (.ref p) (upd H p (.lst (ys.map V.int)))
def isTupD : PyData → Bool
  | .tuple (_ :: _) => true
  | _ => false
def isOthD : PyData → Bool
  | .tuple _ => false
  | .none => false
  | _ => true
def sortOk (ds : List PyData) : Bool := ds.all (fun d => ds.all fun e => alike d e) && (ds.all isTupD || ds.all isOthD) && ds.all fun d => decide (d.depth ≤ 20)
def intKs : List (Key × M) → Option (List Int)
  | [] => some []
  | (.inl i, _) :: r => (intKs r).map (i :: ·)
  | _ => none
abbrev leI (a b : Int) : Bool := decide (a ≤ b)
abbrev MD := M × PyData
abbrev leMD : MD → MD → Bool := dataLe false Prod.snd
def cSortD (ms : List M) (s : MS) : Res M := match ms with
  | [x] => match lstOf s.hp x with
    | some xs => match datL xs with
      | some ds => if sortOk ds = true then .ok (.lst (((xs.zip ds).mergeSort leMD).map Prod.fst)) s else .stuck
      | none => .stuck
    | none => match dictOf s.hp x with
      | some kms => match intKs kms with
        | some ks => if ks.length < 64 then .ok (.lst ((ks.mergeSort leI).map M.int)) s else .stuck
        | none => .stuck
      | none => .stuck
  | _ => .stuck
theorem intKs_keys : ∀ {kms : List (Key × M)} {ks : List Int}, intKs kms = some ks → kms.map (·.1) = ks.map Sum.inl
  | [], _, h => by cases h; rfl
  | (.inl i, m) :: r, ks, h => by
    unfold intKs at h
    cases e : intKs r with
    | none => rw [e] at h; cases h
    | some ks' =>
      rw [e] at h
      cases h
      rw [List.map_cons, intKs_keys e]
      rfl
  | (.inr x, m) :: r, ks, h => by cases h
theorem datL_len : ∀ {ms : List M} {ds : List PyData}, datL ms = some ds → ds.length = ms.length
  | [], _, h => by cases h; rfl
  | m :: ms, ds, h => by
    unfold datL at h
    cases hd : dat m with
    | none => rw [hd] at h; cases h
    | some d =>
      cases hds : datL ms with
      | none => rw [hd, hds] at h; cases h
      | some es => rw [hd, hds] at h; cases h; rw [List.length_cons, List.length_cons, datL_len hds]
theorem dpAll_mem : ∀ {xs : List V} {ds : List PyData}, DpAll T.K H xs ds → ∀ b ∈ xs.zip ds, Dp T.K H b.1 b.2
  | _, _, .nil, b, h => by simp at h
  | _, _, .cons h r, b, hb => by
    rw [List.zip_cons_cons] at hb
    rcases List.mem_cons.mp hb with rfl | hb
    · exact h
    · exact dpAll_mem r b hb
theorem dpAll_len : ∀ {xs : List V} {ds : List PyData}, DpAll T.K H xs ds → xs.length = ds.length
  | _, _, .nil => rfl
  | _, _, .cons _ r => by rw [List.length_cons, List.length_cons, dpAll_len r]
/-- M, V and data beside one another -/
theorem sortOk_of {ds : List PyData} (h : sortOk ds = true) : AllAlike ds ∧ Sortable ds ∧ ∀ d ∈ ds, d.depth ≤ 20 := by
  unfold sortOk at h
  rw [Bool.and_eq_true, Bool.and_eq_true] at h
  obtain ⟨⟨h1, h2⟩, h3⟩ := h
  refine ⟨fun d hd e he => List.all_eq_true.mp (List.all_eq_true.mp h1 d hd) e he, ?_, fun d hd => of_decide_eq_true (List.all_eq_true.mp h3 d hd)⟩
  rcases Bool.or_eq_true_iff.mp h2 with h2 | h2
  · refine .inl fun d hd => ?_
    have := List.all_eq_true.mp h2 d hd
    unfold isTupD at this
    split at this
    · exact ⟨_, _, rfl⟩
    · cases this
  · refine .inr fun d hd => ?_
    have := List.all_eq_true.mp h2 d hd
    unfold isOthD at this
    constructor
    · intro e; rw [e] at this; cases this
    · intro xs e; rw [e] at this; cases this
theorem sort_rv : ∀ {zs : List ((M × V) × PyData)}, (∀ z ∈ zs, RV T g H z.1.1 z.1.2) → RVs T g H (zs.map fun z => z.1.1) (zs.map fun z => z.1.2)
  | [], _ => .nil
  | z :: zs, h => .cons (h z (List.mem_cons_self ..)) (sort_rv fun y hy => h y (List.mem_cons_of_mem _ hy))
theorem zip3 : ∀ {ms : List M} {vs : List V} {ds : List PyData}, RVs T g H ms vs → ds.length = ms.length → ∃ zs : List ((M × V) × PyData), (∀ z ∈ zs, RV T g H z.1.1 z.1.2) ∧ zs.map (fun z => (z.1.1, z.2)) = ms.zip ds ∧ zs.map (fun z => (z.1.2, z.2)) = vs.zip ds
  | _, _, [], .nil, _ => ⟨[], by simp, rfl, rfl⟩
  | _, _, _ :: _, .nil, h => by simp at h
  | _, _, [], .cons _ _, h => by simp at h
  | m :: _, v :: _, d :: ds, .cons r rs, h => by
    obtain ⟨zs, h1, h2, h3⟩ := zip3 rs (by simpa using h)
    refine ⟨((m, v), d) :: zs, fun z hz => ?_, by rw [List.map_cons, h2]; rfl, by rw [List.map_cons, h3]; rfl⟩
    rcases List.mem_cons.mp hz with rfl | hz
    · exact r
    · exact h1 z hz
abbrev leZ : ((M × V) × PyData) → ((M × V) × PyData) → Bool := dataLe false Prod.snd
theorem sort_beside {ms : List M} {vs : List V} {ds : List PyData} (r : RVs T g H ms vs) (h : ds.length = ms.length) :
    RVs T g H (((ms.zip ds).mergeSort leMD).map Prod.fst) (((vs.zip ds).mergeSort (dataLe false Prod.snd)).map Prod.fst) := by
  obtain ⟨zs, h1, h2, h3⟩ := zip3 r h
  have e1 : (zs.mergeSort leZ).map (fun z => (z.1.1, z.2)) = (ms.zip ds).mergeSort leMD := by
    rw [← h2]
    exact sort_maps _ fun a _ b _ => rfl
  have e2 : (zs.mergeSort leZ).map (fun z => (z.1.2, z.2)) = (vs.zip ds).mergeSort (dataLe false Prod.snd) := by
    rw [← h3]
    exact sort_maps _ fun a _ b _ => rfl
  rw [← e1, ← e2, List.map_map, List.map_map]
  exact sort_rv fun z hz => h1 z ((List.mergeSort_perm zs leZ).mem_iff.mp hz)
theorem sortI_one {l m : List Int} (h : l.Perm m) (hs : l.Pairwise (· ≤ ·)) : l = m.mergeSort leI := by
  refine List.Perm.eq_of_pairwise (le := fun a b => a ≤ b) (fun a b _ _ h1 h2 => by omega) hs ?_ (h.trans (List.mergeSort_perm m leI).symm)
  have := List.pairwise_mergeSort (le := leI) (fun a b c h1 h2 => by simp only [leI, decide_eq_true_eq] at *; omega) (fun a b => by simp only [leI, Bool.or_eq_true, decide_eq_true_eq]; omega) m
  exact this.imp fun h => of_decide_eq_true h
theorem ints_rv : ∀ ks : List Int, RVs T g H (ks.map M.int) (ks.map V.int)
  | [] => .nil
  | k :: ks => .cons (.int k) (ints_rv ks)
theorem ok_sortD : CallOk C (fun vs H Q => rSortD C.X.K vs H Q ∨ rSortK vs H Q) cSortD := fun σ H g s ms xs Q r rs h => by
  unfold cSortD at h
  split at h
  · rename_i x
    cases rs with
    | cons rv r2 =>
      cases r2
      split at h
      · rename_i ys hy
        obtain ⟨a, vs, rfl, e, ry⟩ := lstOf_at r hy rv
        split at h
        · rename_i ds hd
          split at h
          · rename_i hs
            obtain ⟨s1, s2, s3⟩ := sortOk_of hs
            have dp := datL_dp ry hd
            have hl := datL_len hd
            have hl2 : vs.length = ds.length := dpAll_len dp
            refine .inl ⟨a, vs.zip ds, rfl, ?_, ?_, ?_, ?_, fun b hb => s3 _ (List.of_mem_zip hb).2, fun p hn => h.newL r (sort_beside ry hl) hn⟩
            · rw [List.map_fst_zip (by omega)]
              exact SqL.of e
            · rw [C.hK]; exact dpAll_mem dp
            · rw [List.map_snd_zip (by omega)]; exact s1
            · rw [List.map_snd_zip (by omega)]; exact s2
          · exact h.elim
        · exact h.elim
      · split at h
        · rename_i kms hk
          obtain ⟨n, a, kvs, _, rfl, _, e, rf⟩ := dictOf_at r hk rv
          split at h
          · rename_i ks hi
            split at h
            · rename_i h64
              refine .inr ⟨a, kvs, ks, rfl, e, ?_, h64, fun ys p h1 h2 hn => ?_⟩
              · rw [← rf.keys]; exact intKs_keys hi
              · rw [sortI_one h1 h2]
                exact h.newL r (ints_rv _) hn
            · exact h.elim
          · exact h.elim
        · exact h.elim
  · exact h.elim
end
end Ma
/-! Ma82: set(..) of a list of ints, and sorted(..) of it; min(..) of one list or tuple of ints. -/
namespace Ma
open L2 PySem.W PySem.Spec PySem PyProof.Rows
abbrev setLed (w : World) : Obj := { cls := .type "set", dict := none, data := .set #[] 0 (.fresh 0 0 (!w.params.followText "set-order")) }
section
variable {prog : Program} {w : World} {A : Around} {E : Value → Shared → Prop} {s : Shared} {l : Addr} {items : Array Value} {ns : List Int}
/-- what set.__init__ leaves -/
def SetMade (w : World) (s : Shared) (ns : List Int) (r : Value) (s₂ : Shared) : Prop :=
  r = .none ∧ ∃ h' tk c, s₂ = { s with heap := h', toks := tk } ∧ SetR w h' s.heap.objs.size (fun j => decide (j ∈ ns)) c ∧ c ≤ ns.length ∧ ∀ b o, s.heap.get? b = some o → h'.get? b = some o
theorem set_initI {A2 : Around} (hh : A.handled = none) (hl : s.heap.IsList l items) (hi : IntsAre items.toList ns) (hb : ns.length + 1 < scanBound) :
    wpAny (model prog w) A (Builtin.«set.__init__» ⟨[.ref s.heap.objs.size, .ref l], []⟩)
      (fun fin s' => match fin with | .done f => wants (SetMade w s ns) E (.ok f) s' | .again c' => c'.quiet = true ∧ codeAny (model prog w) A2 c' (wants (SetMade w s ns) E) s')
      (fun e s' => wants (SetMade w s ns) E (.error e) s') { s with heap := s.heap.push (setLed w) } := by
  have hn : items.size = ns.length := by rw [← hi.length, Array.length_toList]
  have lt : l < s.heap.objs.size := by
    obtain ⟨o, e, _⟩ := id hl
    exact Heap.lt_size e
  have hS : (s.heap.push (setLed w)).get? s.heap.objs.size = some (setLed w) := Heap.get?_push_size s.heap rfl
  have sz : (s.heap.push (setLed w)).objs.size = s.heap.objs.size + 1 := Heap.size_push ..
  obtain ⟨⟨cl, od, dat, sl⟩, ho, hc, n, hd⟩ := id hl
  simp only at hc hd
  subst hc hd
  have ho1 := Heap.get?_push_of_some (setLed w) ho
  have hl1 : (s.heap.push (setLed w)).IsList l items := ⟨_, ho1, rfl, n, rfl⟩
  have q1 := PySem.F.sub_list_set
  have q2 := PySem.F.sub_list_frozenset
  have q3 : (Value.type "list" == Value.type "dict") = false := by decide
  unfold Builtin.«set.__init__» noKeywords Builtin.Frozenset.updateFrom
  generalize hPI : pyIter = PI
  wp_walk
  subst hPI
  refine wpAny_pyIter_list hl1 (wpAny_bind (wpAny_runValue ?_))
  have vals : ∀ (i : Nat) (v : Value), items[i]? = some v → ∃ k t, ns[i]? = some k ∧ v = .int k t := fun i v e => by
    have z : i < ns.length := hn ▸ (Array.getElem?_eq_some_iff.mp e).1
    obtain ⟨t, rfl⟩ := IntsAre.int_at hi i v (by rw [Array.getElem?_toList]; exact e)
    exact ⟨_, t, List.getElem?_eq_getElem z, by rw [List.getD_eq_getElem?_getD, List.getElem?_eq_getElem z]; rfl⟩
  have three : A.in1.handled = none := by simp [hh]
  have z1 : l ≠ (s.heap.push (setLed w)).objs.size := by rw [sz]; exact Nat.ne_of_lt (Nat.lt_succ_of_lt lt)
  have z2 : s.heap.objs.size ∉ [(s.heap.push (setLed w)).objs.size, l] := by
    rw [sz, List.mem_cons, List.mem_singleton, not_or]
    exact ⟨Nat.ne_of_lt (Nat.lt_succ_self _), Nat.ne_of_gt lt⟩
  refine set_update_ints ((Walks.list three _ l z1 items).toS) s.heap.objs.size z2 ns hn hb vals (items.size - 0) 0 { s with heap := (s.heap.push (setLed w)).push { cls := .type "list_iterator", data := .fields #[.ref l, .int 0 0] } } (by omega) (Nat.zero_le _) ⟨⟨_, Heap.get?_push_size _ rfl, rfl, rfl⟩, hl1.push _⟩ ?first fun s' c' hm hc' hS' => ?_
  case first =>
    have z3 : ((s.heap.push (setLed w)).push { cls := .type "list_iterator", data := .fields #[.ref l, .int 0 0] }).get? s.heap.objs.size = some (setLed w) := Heap.get?_push_of_some _ hS
    exact ⟨0, Nat.le_refl 0, setR_new_at z3⟩
  obtain ⟨h', g2, d', tk', os'⟩ := s'
  have e1 : g2 = s.gens := hm.gens
  have e2 : d' = s.drawn := hm.drawn
  have e3 : os' = s.os := hm.os
  subst e1 e2 e3
  refine wpAny_pure ?_
  show wpAny _ _ (ret Value.none) _ _ _
  refine wpAny_pure ⟨rfl, h', tk', c', rfl, hS', hn ▸ hc', fun b o e => ?_⟩
  have hb0 := Heap.lt_size e
  exact hm.heap b o (by rw [List.mem_cons, List.mem_singleton, not_or, sz]; exact ⟨Nat.ne_of_lt hb0, Nat.ne_of_lt (Nat.lt_succ_of_lt hb0)⟩) (Heap.get?_push_of_some _ (Heap.get?_push_of_some _ e))
theorem call_setI {Q : Value → Shared → Prop} (hh : A.handled = none) (hl : s.heap.IsList l items) (hi : IntsAre items.toList ns) (hb : ns.length + 1 < scanBound)
    (h : ∀ (h' : Heap) (tk c : Nat), SetR w h' s.heap.objs.size (fun j => decide (j ∈ ns)) c → c ≤ ns.length → (∀ b o, s.heap.get? b = some o → h'.get? b = some o) → Q (.ref s.heap.objs.size) { s with heap := h', toks := tk }) :
    wpAny (model prog w) A (call (.type "set") [.ref l]) Q E s := by
  obtain ⟨c0, tl, hmro⟩ := PySem.F.called_set.mro
  have b1 := PySem.F.called_set.notType
  have b2 := PySem.F.called_set.canCreate
  have b3 := PySem.F.called_set.made
  have b4 := PySem.F.called_set.sub
  have b5 := PySem.F.typeCall_set_1 (.ref l)
  have b6 := PySem.F.called_set.init.lookup
  have b7 := PySem.F.called_set.init.bind (.ref s.heap.objs.size)
  refine wpAny_call (codeAny_of_tree ?_)
  show wpAny _ _ (callAny (.type "set") _) _ _ _
  refine wpAny_pure ⟨Code.quiet_builtin _ (by decide +kernel), codeAny_builtin PySem.F.entry_type_call ?_⟩
  rw [Around.under_plain (weight_type_call_type "set" [.ref l] []) rfl]
  repeat (any_goals (first | assumption | wp_step))
  refine codeAny_mono (code_set_led1 (.ref l) (E := E) (Q₁ := fun obj s₁ => obj = .ref s.heap.objs.size ∧ s₁ = { s with heap := s.heap.push (setLed w) }) ⟨rfl, rfl⟩) fun r s₁ hr => ?_
  match r, hr with
  | .error e, hr => exact hr
  | .ok (.ret obj), hr =>
    obtain ⟨rfl, rfl⟩ := hr
    have b8 : Shared.TypeIs { s with heap := s.heap.push (setLed w) } (.ref s.heap.objs.size) "set" := ⟨setLed w, Heap.get?_push_size s.heap rfl, rfl⟩
    repeat (any_goals (first | assumption | wp_step))
    refine codeAny_mono (codeAny_call_builtin (R := wants (SetMade w s ns) E) PySem.F.called_set.init.plain PySem.F.entry_set_init (check_set_init_1 b8 (set_initI ?hd hl hi hb))) fun r₂ s₂ hr₂ => ?_
    case hd => first | exact hh | simp [hh]
    match r₂, hr₂ with
    | .error e, hr₂ => exact hr₂
    | .ok (.ret r), hr₂ =>
      obtain ⟨rfl, h', tk, c', rfl, z1, z2, z3⟩ := hr₂
      repeat (any_goals (first | assumption | wp_step))
      exact h _ _ _ z1 z2 z3
end
end Ma
/-! Ma83: sorted(set(..)) of ints, min(..), setdefault in the machine. -/
namespace Ma
open L2 PySem.W PySem.Spec PySem PyProof.Rows
/-! ### the one rising list of the same ints -/
def insS (k : Int) : List Int → List Int
  | [] => [k]
  | q :: r => if k < q then k :: q :: r else if k = q then q :: r else q :: insS k r
def ssI (ks : List Int) : List Int := ks.foldr insS []
theorem insS_mem {k x : Int} : ∀ {l : List Int}, x ∈ insS k l ↔ x = k ∨ x ∈ l
  | [] => by simp [insS]
  | q :: r => by
    unfold insS
    split
    · simp
    · split
      · rename_i h; subst h; simp
      · rw [List.mem_cons, insS_mem, List.mem_cons]
        constructor
        · rintro (h | h | h)
          · exact .inr (.inl h)
          · exact .inl h
          · exact .inr (.inr h)
        · rintro (h | h | h)
          · exact .inr (.inl h)
          · exact .inl h
          · exact .inr (.inr h)
theorem insS_up {k : Int} : ∀ {l : List Int}, l.Pairwise (· < ·) → (insS k l).Pairwise (· < ·)
  | [], _ => by simp [insS]
  | q :: r, h => by
    obtain ⟨h1, h2⟩ := List.pairwise_cons.mp h
    unfold insS
    split
    · rename_i hk
      refine List.pairwise_cons.mpr ⟨fun x hx => ?_, h⟩
      rcases List.mem_cons.mp hx with rfl | hx
      · exact hk
      · have := h1 x hx; omega
    · split
      · exact h
      · refine List.pairwise_cons.mpr ⟨fun x hx => ?_, insS_up h2⟩
        rcases insS_mem.mp hx with rfl | hx
        · omega
        · exact h1 x hx
theorem ssI_mem {x : Int} : ∀ {ks : List Int}, x ∈ ssI ks ↔ x ∈ ks
  | [] => by simp [ssI]
  | k :: ks => by
    show x ∈ insS k (ssI ks) ↔ _
    rw [insS_mem, ssI_mem, List.mem_cons]
theorem ssI_up : ∀ ks : List Int, (ssI ks).Pairwise (· < ·)
  | [] => .nil
  | k :: ks => insS_up (ssI_up ks)
/-! ### set(xs) -/
def rSetL (K : PySem.W.Frag) (w : World) : RC := fun vs H Q => ∃ (a : Addr) (ns : List Int), vs = [.ref a] ∧ SqL K H a (ns.map V.int) ∧ ns.length < 60 ∧
  ∀ p c, H p = none → c ≤ ns.length → Q (.ref p) (upd H p (SetO w p (fun j => decide (j ∈ ns)) c))
section
variable {C : MC} {g g1 : Gh} {H H1 : Hp} {s : MS} {σ : L2.St} {T : Tab} {ex o e2 : Expr} {a b c : ME} {x y : Str}
def intsM : List M → Option (List Int)
  | [] => some []
  | .int i :: ms => (intsM ms).map (i :: ·)
  | _ => none
theorem intsM_map : ∀ ns : List Int, intsM (ns.map M.int) = some ns
  | [] => rfl
  | n :: ns => by show (intsM (ns.map M.int)).map _ = _; rw [intsM_map]; rfl
theorem intsM_at : ∀ {ms : List M} {vs : List V} {ns : List Int}, RVs T g H ms vs → intsM ms = some ns → vs = ns.map V.int
  | _, _, _, .nil, h => by cases h; rfl
  | m :: ms, v :: vs, ns, .cons r rs, h => by
    cases r with
    | int i =>
      simp only [intsM] at h
      cases e : intsM ms with
      | none => rw [e] at h; cases h
      | some ns' => rw [e] at h; cases h; rw [List.map_cons, intsM_at rs e]
    | _ => cases h
/-! ### min(xs), one list or tuple of ints -/
/-! ### d.setdefault(k, v) -/
end
end Ma
/-! Ma84: the head's run, looked at in three parts (each by itself wants less room). -/
/-! Ma85: comprehensions with a test, with a heap that grows; sorted lists of tuples of ints. -/
namespace Ma
open L2 PySem.W PySem.Spec PySem PyProof.Rows
theorem lc_if {α : Type} {em f : α → M} {p : α → Bool} {vs : List Nat} {tg : MG} {tt : MT} {el : ME} : ∀ {xs : List α} {acc : List M} {s : MS}, acc.length + xs.length ≤ big →
    (∀ x ∈ xs, ∃ s2 e3, tg (em x) ⟨wipeM s.env vs, s.hp⟩ = .ok () s2 ∧ tt s2 = .ok (p x) ⟨e3, s.hp⟩ ∧ (p x = true → ∃ e4, el ⟨e3, s.hp⟩ = .ok (f x) ⟨e4, s.hp⟩)) →
    lcLoop vs tg tt el (xs.map em) acc s = .ok (acc ++ (xs.filter p).map f) s
  | [], acc, s, _, _ => by rw [List.map_nil, lcLoop]; simp
  | x :: xs, acc, s, hl, h => by
    rw [List.length_cons] at hl
    obtain ⟨s2, e3, a1, a2, a4⟩ := h x List.mem_cons_self
    have hb : acc.length < big := by omega
    rw [List.map_cons, lcLoop, a1]
    dsimp only
    rw [a2]
    cases hp1 : p x with
    | false =>
      dsimp only
      rw [List.filter_cons_of_neg (by rw [hp1]; decide)]
      exact lc_if (xs := xs) (by omega) fun y hy => h y (List.mem_cons_of_mem _ hy)
    | true =>
      dsimp only
      obtain ⟨e4, c1⟩ := a4 hp1
      rw [c1]
      dsimp only
      rw [if_pos hb, List.filter_cons_of_pos hp1, List.map_cons]
      refine (lc_if (xs := xs) (by simp only [List.length_append, List.length_cons, List.length_nil]; omega) fun y hy => h y (List.mem_cons_of_mem _ hy)).trans ?_
      rw [List.append_assoc]
      rfl
theorem mlc_if {α : Type} {em f : α → M} {p : α → Bool} {vs : List Nat} {it : MI} {tg : MG} {tt : MT} {el : ME} {xs : List α} {s s1 : MS} (hi : it s = .ok (xs.map em) s1) (hl : xs.length ≤ big)
    (h : ∀ x ∈ xs, ∃ s2 e3, tg (em x) ⟨wipeM s1.env vs, s1.hp⟩ = .ok () s2 ∧ tt s2 = .ok (p x) ⟨e3, s1.hp⟩ ∧ (p x = true → ∃ e4, el ⟨e3, s1.hp⟩ = .ok (f x) ⟨e4, s1.hp⟩)) :
    mLc vs it tg tt el s = .ok (.lst ((xs.filter p).map f)) s1 := by
  unfold mLc
  rw [hi]
  show Res.bind (lcLoop vs tg tt el (xs.map em) [] s1) _ = _
  rw [lc_if (acc := []) (by simpa using hl) h]
  rfl
/-! ### tuples of ints, sorted -/
abbrev tupI (l : List Int) : M := .tup (l.map M.int)
abbrev tupD (l : List Int) : PyData := .tuple (l.map PyData.int)
theorem datLInts : ∀ l : List Int, datL (l.map M.int) = some (l.map PyData.int)
  | [] => rfl
  | i :: l => by
    show (match dat (.int i), datL (l.map M.int) with | some d, some ds => some (d :: ds) | _, _ => none) = _
    rw [datLInts l]
    rfl
theorem datLTups : ∀ L : List (List Int), datL (L.map tupI) = some (L.map tupD)
  | [] => rfl
  | l :: L => by
    show (match dat (tupI l), datL (L.map tupI) with | some d, some ds => some (d :: ds) | _, _ => none) = _
    rw [datLTups L, show dat (tupI l) = some (tupD l) by show (datL (l.map M.int)).map _ = _; rw [datLInts]; rfl]
    rfl
theorem tups_ok {L : List (List Int)} (h : ∀ l ∈ L, l ≠ []) : sortOk (L.map tupD) = true := by
  unfold sortOk
  rw [Bool.and_eq_true, Bool.and_eq_true, Bool.or_eq_true]
  refine ⟨⟨?_, .inl ?_⟩, ?_⟩
  · refine List.all_eq_true.mpr fun d hd => List.all_eq_true.mpr fun e he => ?_
    obtain ⟨a, _, rfl⟩ := List.mem_map.mp hd
    obtain ⟨b, _, rfl⟩ := List.mem_map.mp he
    exact alike_ints a b
  · refine List.all_eq_true.mpr fun d hd => ?_
    obtain ⟨a, ha, rfl⟩ := List.mem_map.mp hd
    cases a with
    | nil => exact absurd rfl (h _ ha)
    | cons x a => rfl
  · refine List.all_eq_true.mpr fun d hd => ?_
    obtain ⟨a, ha, rfl⟩ := List.mem_map.mp hd
    show decide (PyData.depthAll (a.map PyData.int) + 1 ≤ 20) = true
    rw [depth_ints]
    decide
theorem sortD_tups {L1 L2 : List (List Int)} (hp : L1.Perm L2) (hs : L2.Pairwise (· < ·)) (hn : ∀ l ∈ L2, l ≠ []) {s : MS} : cSortD [.lst (L1.map tupI)] s = .ok (.lst (L2.map tupI)) s := by
  unfold cSortD
  dsimp only
  rw [show lstOf s.hp (.lst (L1.map tupI)) = some (L1.map tupI) from rfl]
  dsimp only
  rw [datLTups]
  dsimp only
  rw [if_pos (tups_ok fun l hl => hn l (hp.mem_iff.mp hl))]
  have ez : ∀ L : List (List Int), (L.map tupI).zip (L.map tupD) = L.map fun l => (tupI l, tupD l) := fun L => by
    induction L with
    | nil => rfl
    | cons l L ih => rw [List.map_cons, List.map_cons, List.zip_cons_cons, ih]; rfl
  have e2 : (L1.mergeSort (dataLe false tupD)).map (fun l => (tupI l, tupD l)) = (L1.map fun l => (tupI l, tupD l)).mergeSort leMD := sort_maps _ fun a _ b _ => rfl
  have lt_iff : ∀ a b : List Int, dataLt (tupD a) (tupD b) = decide (a < b) := fun a b => (dataLt_tuple _ _).trans (dataLt_ints a b)
  have le_iff : ∀ a b : List Int, dataLe false tupD a b = true ↔ ¬ b < a := fun a b => by
    rw [dataLe_eq]
    show (!dataLt (tupD b) (tupD a)) = true ↔ _
    rw [lt_iff]
    simp
  have e3 : L2 = L1.mergeSort (dataLe false tupD) := by
    refine List.Perm.eq_of_pairwise (le := fun a b => dataLe false tupD a b = true) (fun a b _ _ h1 h2 => ?_) (hs.imp fun {a b} h => (le_iff a b).mpr (List.lt_asymm h)) (sort_pairwise (sortLe_total _ _ _) L1) (hp.symm.trans (List.mergeSort_perm L1 _).symm)
    exact List.le_antisymm ((le_iff a b).mp h1) ((le_iff b a).mp h2)
  rw [ez, ← e2, ← e3, List.map_map]
  rfl
end Ma
/-! Ma86: how long a text of data is; repr of long data. -/
namespace Ma
open L2 PySem.W PySem.Spec PySem PyProof.Rows
end Ma
/-! Ma87: sets of ints as values: set(xs), in, not in. -/
namespace Ma
open L2 PySem.W PySem.Spec PySem PyProof.Rows
theorem setI_new {w : World} {P : Program} {w' : World} {H : Hp} {h : Heap} {a : Addr} {ks : List Int} {n : Nat} (R : SetR w h a (fun j => decide (j ∈ ks)) n) : ObjOk P w' H h a (SetI a ks) := by
  have ⟨o, _, _, _, ho, _⟩ := R
  exact ⟨⟨w, n, R⟩, ⟨o, ho⟩, fun h1 h2 ⟨w1, n1, p⟩ k => ⟨w1, n1, SetR.at p k⟩⟩
def rSetI (K : PySem.W.Frag) : RC := fun vs H Q => ∃ (a : Addr) (ns : List Int), vs = [.ref a] ∧ (SqL K H a (ns.map V.int) ∨ SqT K H a (ns.map V.int)) ∧ ns.length ≤ 1000 ∧ ∀ p, H p = none → Q (.ref p) (upd H p (SetI p ns))
theorem cr_setI {X : Cx} (hc : X.calm = true) : CallR X (.type "set") (rSetI X.K) := by
  intro pins s σ H vs us Q I r h
  obtain ⟨a, ns, rfl, hs, hl, q⟩ := h
  rw [Vals.ref1 r]
  rcases hs with hs | hs
  · obtain ⟨its, rv, pl, hz⟩ := I.list hs
    have hi : IntsAre its.toArray.toList ns := by simpa using rv.ints
    refine call_setI (I.ok.hd hc) pl.isList hi (by unfold scanBound; omega) fun h' tk c R hcn k => ?_
    exact ⟨.ref _, upd H s.heap.objs.size (SetI s.heap.objs.size ns), I.laid (t' := tk) k (Nat.le_refl _) (setI_new R), rfl, q _ (I.hok.fresh (Nat.le_refl _))⟩
  · obtain ⟨its, rv, pl, hz⟩ := I.tuple hs
    have hi : IntsAre its.toArray.toList ns := by simpa using rv.ints
    refine call_set_tupI ns (I.ok.hd hc) pl hi (by unfold scanBound; omega) fun h' tk c R hcn k => ?_
    exact ⟨.ref _, upd H s.heap.objs.size (SetI s.heap.objs.size ns), I.laid (t' := tk) k (Nat.le_refl _) (setI_new R), rfl, q _ (I.hok.fresh (Nat.le_refl _))⟩
section
variable {C : MC} {g g1 : Gh} {H H1 : Hp} {s : MS} {σ : L2.St} {T : Tab}
def cSetI (ms : List M) (s : MS) : Res M := match seqA s ms with
  | some xs => match intsM xs with
    | some ns => if ns.length ≤ 1000 then .ok (.set ns) s else .stuck
    | none => .stuck
  | none => .stuck
theorem ok_setI : CallOk C (rSetI C.X.K) cSetI := fun σ H g s ms xs Q r rs h => by
  unfold cSetI at h
  split at h
  · rename_i ys hy
    obtain ⟨p, vs, rfl, hq, rv⟩ := seqA_at r rs hy
    split at h
    · rename_i ns hi
      split at h
      · rename_i hl
        have ev := intsM_at rv hi
        subst ev
        refine ⟨p, ns, rfl, hq, hl, fun p1 hn => ?_⟩
        obtain ⟨r2, mo⟩ := r.frz (o := SetI p1 ns) hn (fun ps z => by unfold SetI at z; cases z)
        exact h (g.add p1) _ _ mo r2 (.set (.inr rfl) upd_same)
      · exact h.elim
    · exact h.elim
  · exact h.elim
end
end Ma
/-! Ma88: the truth of lists, tuples, dicts; in, not in of a tuple of ints. -/
namespace Ma
open L2 PySem.W PySem.Spec PySem PyProof.Rows
end Ma
/-! Ma89: repr of texts, truths, None, in the machine. -/
namespace Ma
open L2 PySem.Spec PySem PyProof.Rows
section
variable {C : MC} {g g1 : Gh} {H H1 : Hp} {s : MS} {σ : L2.St} {T : Tab}
def rReprS : RC := fun xs H Q => (∃ x : Str, xs = [.str x] ∧ (reprText x).length ≤ sizeLine ∧ Q (.str (reprText x)) H) ∨ (∃ b : Bool, xs = [.bl b] ∧ Q (.str (if b then "True" else "False")) H) ∨ (xs = [.non] ∧ Q (.str "None") H)
theorem call_reprSO {X : Cx} : CallR X (.builtin "repr") rReprS := by
  intro pins s σ H xs us Q I r h
  rcases h with ⟨x, rfl, hz, q⟩ | ⟨b, rfl, q⟩ | ⟨rfl, q⟩
  · obtain ⟨u, rfl, t, rfl⟩ := vals1 r
    exact PySem.P.repr_of_str ⟨.str _, H, I.tok _, ⟨_, rfl⟩, q⟩ hz
  · obtain ⟨u, rfl, hu⟩ := vals1 r
    cases hu
    exact PySem.P.repr_of_bool ⟨.str _, H, I.tok _, ⟨_, rfl⟩, q⟩
  · obtain ⟨u, rfl, hu⟩ := vals1 r
    cases hu
    exact PySem.P.repr_of_none ⟨.str _, H, I.tok _, ⟨_, rfl⟩, q⟩
def cReprS (o : List M → MS → Res M) (ms : List M) (s : MS) : Res M := match ms with
  | [.str x] => if (reprText x).length ≤ sizeLine then .ok (.str (reprText x)) s else .stuck
  | [.bl b] => .ok (.str (if b then "True" else "False")) s
  | [.non] => .ok (.str "None") s
  | ms => o ms s
theorem ok_reprS {R : RC} {o : List M → MS → Res M} (ho : CallOk C R o) : CallOk C (fun xs H Q => rReprS xs H Q ∨ R xs H Q) (cReprS o) := fun σ H g s ms xs Q r rs h => by
  unfold cReprS at h
  split at h
  case h_1 x =>
    by_cases hb : (reprText x).length ≤ sizeLine
    · rw [if_pos hb] at h
      cases rs with
      | cons r1 r2 => cases r2; cases r1; exact .inl (.inl ⟨x, rfl, hb, h.same r (.str _)⟩)
    · rw [if_neg hb] at h; exact h.elim
  case h_2 b =>
    cases rs with
    | cons r1 r2 => cases r2; cases r1; exact .inl (.inr (.inl ⟨b, rfl, h.same r (.str _)⟩))
  case h_3 =>
    cases rs with
    | cons r1 r2 => cases r2; cases r1; exact .inl (.inr (.inr ⟨rfl, h.same r (.str _)⟩))
  case h_4 => exact .inr (ho σ H g s ms xs Q r rs h)
theorem call_reprB {X : Cx} (hg : X.A.guards = some []) (hu : X.A.units + 65 < cLine) : CallR X (.builtin "repr") (fun xs H Q => rReprS xs H Q ∨ ((∃ i, xs = [.int i] ∧ i.natAbs.log2 < 1920 ∧ Q (.str (toString i)) H) ∨ rReprD X.K xs H Q)) := CallR.alt call_reprSO (call_reprA hg hu)
end
end Ma
/-! Ma90: d.get(k), d.get(k, x), in the machine. -/
namespace Ma
open L2 PySem.W PySem.Spec PySem PyProof.Rows
end Ma
/-! Ma91: zip of tuples; len of a set; a tuple from its end to its start. -/
namespace Ma
open L2 HT PySem.W PySem.Spec PySem PyProof.Rows
/-! ### t[::-1] -/
section
variable {C : MC} {g g1 : Gh} {H H1 : Hp} {s : MS} {σ : L2.St} {T : Tab} {ex e2 : Expr} {a : ME} {ma : MA} {pos p tpos : Pos}
theorem RVs.rev : ∀ {ms : List M} {vs : List V}, RVs T g H ms vs → RVs T g H ms.reverse vs.reverse
  | _, _, .nil => .nil
  | _, _, .cons r t => by
    rw [List.reverse_cons, List.reverse_cons]
    exact (RVs.rev t).app (.cons r .nil)
/-! ### zip -/
/-! ### len of a set -/
theorem nd_le : ∀ {l m : List Int}, l.Nodup → (∀ x ∈ l, x ∈ m) → l.length ≤ m.length
  | [], _, _, _ => Nat.zero_le _
  | a :: l, m, nd, h => by
    have ha := h a (by simp)
    have nl := List.nodup_cons.mp nd
    have ih := nd_le (l := l) (m := m.erase a) nl.2 fun x hx => (List.mem_erase_of_ne (fun (e : x = a) => nl.1 (e ▸ hx))).mpr (h x (by simp [hx]))
    rw [List.length_erase_of_mem ha] at ih
    have : 0 < m.length := List.length_pos_of_mem ha
    simp only [List.length_cons]
    omega
def cLenS (o : List M → MS → Res M) (ms : List M) (s : MS) : Res M := match ms with
  | [.set ks] => .ok (.int ((ssI ks).length : Nat)) s
  | ms => o ms s
def rLenS : RC := fun xs H Q => ∃ (a : Addr) (ks : List Int), xs = [.ref a] ∧ H a = some (SetI a ks) ∧ Q (.int ((ssI ks).length : Nat)) H
theorem call_lenS {X : Cx} : CallR X (.builtin "len") rLenS := by
  intro pins s σ H xs us Q I r ⟨a, ks, ex, h, q⟩
  subst ex
  rw [Vals.ref1 r]
  obtain ⟨⟨w, n, R⟩, _, _⟩ := (show ObjOk X.prog X.w H s.heap a (SetI a ks) from I.hok a _ h)
  obtain ⟨o, es, ep, t, ho, hx, hd, hg, nd, hm, hb, hf, hn, _⟩ := R
  have e : es.size = (ssI ks).length := by
    have e1 : es.size = (es.toList.map keyOf).length := by simp
    rw [e1]
    have n2 : (ssI ks).Nodup := (ssI_up ks).imp fun h => by omega
    refine Nat.le_antisymm (nd_le nd fun x hx => ?_) (nd_le n2 fun x hx => ?_)
    · exact ssI_mem.mpr (of_decide_eq_true ((hm x).mpr hx))
    · exact (hm x).mp (decide_eq_true (ssI_mem.mp hx))
  refine call_len_set ho hx hd hf (by unfold scanBound at hb; omega) ⟨.int ((ssI ks).length : Nat), H, I.tok _, ⟨_, by rw [e]⟩, q⟩
theorem ok_lenS {R : RC} {o : List M → MS → Res M} (ho : CallOk C R o) : CallOk C (fun xs H Q => rLenS xs H Q ∨ R xs H Q) (cLenS o) := fun σ H g s ms xs Q r rs h => by
  unfold cLenS at h
  split at h
  · cases rs with
    | cons r1 r2 => cases r2; cases r1 with
      | set f e => exact .inl ⟨_, _, rfl, e, h.same r (.int _)⟩
  · exact .inr (ho σ H g s ms xs Q r rs h)
end
end Ma
/-! Ma92: repr of a dict of plain keys and values. -/
namespace Ma
open L2 PySem.W PySem.Spec PySem PyProof.Rows
/-- a plain value -/
def flD : M → Option PyData
  | .non => some .none
  | .bl b => some (.bool b)
  | .int i => some (.int i)
  | .str x => some (.str x)
  | _ => none
def kyD : Key → PyData
  | .inl i => .int i
  | .inr x => .str x
def kvD : List (Key × M) → Option (List (PyData × PyData))
  | [] => some []
  | (k, m) :: r => match flD m, kvD r with
    | some d, some ds => some ((kyD k, d) :: ds)
    | _, _ => none
section
variable {C : MC} {g g1 : Gh} {H H1 : Hp} {s : MS} {σ : L2.St} {T : Tab} {hp : Heap}
theorem flD_reads {m : M} {x : V} {u : Value} {d : PyData} (h : flD m = some d) (rv : RV T g H m x) (r : RelV x u) : Reads hp u d [] := by
  cases rv <;> first
    | (cases h; cases r; exact .none)
    | (cases h; cases r; exact .bool _)
    | (cases h; obtain ⟨t, rfl⟩ := r; exact .int _ _)
    | (cases h; obtain ⟨t, rfl⟩ := r; exact .str _ _)
    | cases h
theorem key_reads {k : Key} {u : Value} (h : keyIs k u = true) : Reads hp u (kyD k) [] := by
  rcases keyIs_shape h with ⟨i, t, rfl, rfl⟩ | ⟨x, t, rfl, rfl⟩
  · exact .int _ _
  · exact .str _ _
theorem kvD_reads {P : Program} {w : World} : ∀ {kms : List (Key × M)} {ds : List (PyData × PyData)} {kvs : List (Key × V)} {vs : List (Key × Value)} {es : List DictEntry}, kvD kms = some ds → RFs T g H kms kvs → KV kvs vs → Pairs (mixKind P w) es vs →
    ReadsAll hp (es.map (·.key)) (ds.map (·.1)) [] ∧ ReadsAll hp (es.map (·.val)) (ds.map (·.2)) []
  | [], _, _, _, _, h, .nil, k, p => by
    cases h; cases k; cases p
    exact ⟨.nil, .nil⟩
  | (k, m) :: r, _, _, _, _, h, .cons rv rs, kv, p => by
    unfold kvD at h
    split at h
    · rename_i d ds h1 h2
      cases h
      cases kv with
      | cons k1 k2 => cases p with
        | cons p1 p2 p3 =>
          obtain ⟨a, b⟩ := kvD_reads h2 rs k2 p3
          obtain ⟨q1, q2⟩ := k1
          have e1 := p1
          rw [← q1] at e1
          have e1 := key_reads (hp := hp) (show keyIs k _ = true from e1)
          have e2 := flD_reads (hp := hp) h1 rv q2
          rw [← p2] at e2
          exact ⟨.cons (as := []) (bs := []) e1 a, .cons (as := []) (bs := []) e2 b⟩
    · cases h
def rReprK : RC := fun xs H Q => ∃ (a : Addr) (kms : List (Key × M)) (kvs : List (Key × V)) (ds : List (PyData × PyData)) (T : Tab) (g : Gh), xs = [.ref a] ∧ Rd H a (.dK kvs) ∧ RFs T g H kms kvs ∧ kvD kms = some ds ∧ (PyData.dict ds).showable = true ∧ (PyData.dict ds).depth ≤ 64 ∧ (PyData.dict ds).shown.length ≤ sizeLine ∧ Q (.str (PyData.dict ds).shown) H
theorem call_reprK {X : Cx} (hg : X.A.guards = some []) (hu : X.A.units + 65 < cLine) : CallR X (.builtin "repr") rReprK := by
  intro pins s σ H xs us Q I rv ⟨a, kms, kvs, ds, T, g, hx, d1, rf, hk, h1, h3, h4, q⟩
  subst hx
  rw [Vals.ref1 rv]
  obtain ⟨hz, hs, vs, kv, o, es, ep, ho, he, hd, ha, hp, nd⟩ := dk_rd I.hok d1
  obtain ⟨k1, k2⟩ := kvD_reads (hp := s.heap) hk rf kv hp
  have R : Reads s.heap (.ref a) (.dict ds) (a :: [] ++ []) := .dict ho he.1 hd k1 k2
  refine repr_of_reads' R h1 (fun _ z => ?_) hg (by omega) (fun _ _ e => e) (fun h' u tk keep => ⟨.str _, H, I.kept (h' := h') (t' := tk) keep, ⟨_, rfl⟩, q⟩) h4
  have e : sysModules = a := by simpa using z
  rw [← e] at hs
  simp at hs
def cReprK (o : List M → MS → Res M) (ms : List M) (s : MS) : Res M := match ms with
  | [.box n] => match dictOf s.hp (.box n) with
    | some kms => match kvD kms with
      | some ds => if ((PyData.dict ds).showable && decide ((PyData.dict ds).depth ≤ 64) && decide ((PyData.dict ds).shown.length ≤ sizeLine)) = true then .ok (.str (PyData.dict ds).shown) s else .stuck
      | none => .stuck
    | none => o [.box n] s
  | ms => o ms s
theorem ok_reprK {R : RC} {o : List M → MS → Res M} (ho : CallOk C R o) : CallOk C (fun xs H Q => rReprK xs H Q ∨ R xs H Q) (cReprK o) := fun σ H g s ms xs Q r rs h => by
  unfold cReprK at h
  split at h
  · rename_i n
    split at h
    · rename_i kms hd
      split at h
      · rename_i ds hk
        split at h
        · rename_i hb
          simp only [Bool.and_eq_true, decide_eq_true_eq] at hb
          obtain ⟨⟨h1, h3⟩, h4⟩ := hb
          cases rs with
          | cons r1 r2 =>
            cases r2
            obtain ⟨n', a, kvs, _, rfl, _, hr, rf⟩ := dictOf_at r hd r1
            exact .inl ⟨a, kms, kvs, ds, _, _, rfl, hr, rf, hk, h1, h3, h4, h.same r (.str _)⟩
        · exact h.elim
      · exact h.elim
    · exact .inr (ho σ H g s _ xs Q r rs h)
  · exact .inr (ho σ H g s ms xs Q r rs h)
theorem call_reprC {X : Cx} (hg : X.A.guards = some []) (hu : X.A.units + 65 < cLine) : CallR X (.builtin "repr") (fun xs H Q => rReprK xs H Q ∨ (rReprS xs H Q ∨ ((∃ i, xs = [.int i] ∧ i.natAbs.log2 < 1920 ∧ Q (.str (toString i)) H) ∨ rReprD X.K xs H Q))) := CallR.alt (call_reprK hg hu) (call_reprB hg hu)
end
end Ma
/-! Ma93: sorted of a tuple; a sum of lists as a box. -/
namespace Ma
open L2 PySem.W PySem.Spec PySem PyProof.Rows
section
variable {prog : Program} {w : World} {A : Around} {E : Value → Shared → Prop} {s : Shared}
theorem collect_tup {l : Addr} {vs : List Value} {Q : List Value → Shared → Prop} (hl : IsTup s.heap l vs.toArray) (h : Q vs { s with heap := (s.heap.push (seqObj "list" #[] 0)).update s.heap.objs.size (Obj.mapSeq (· ++ vs.toArray)) }) (hz : vs.length ≤ sizeLine) :
    wpAny (model prog w) A (collect (.ref l)) Q E s := by
  obtain ⟨o, ho, hc, n, hd⟩ := id hl
  unfold collect
  refine wpAny_bind (wpAny_runValue (codeAny_builtin entry_proto_collect' ?_))
  show wpAny _ _ (do again (.builtin "list.__iadd__" ⟨[← newList [], .ref l], []⟩)) _ _ s
  refine wpAny_bind (wpAny_newList (wpAny_pure ⟨Code.quiet_builtin _ (by decide +kernel), codeAny_builtin entry_list_iadd' ?_⟩))
  show wpAny _ _ (Builtin.List.listExtendWith (.ref s.heap.objs.size) (.ref l) (.ref s.heap.objs.size)) _ _ { s with heap := s.heap.push (seqObj "list" #[] 0) }
  unfold Builtin.List.listExtendWith
  have ho' : (s.heap.push (seqObj "list" #[] 0)).get? l = some o := Heap.get?_push_of_some _ ho
  refine wpAny_bind (wpAny_typeOf (T := "tuple") ⟨o, ho', hc⟩ ?_)
  have ht : (Value.type "tuple" == Value.type "tuple") = true := by rfl
  rw [if_pos (by rw [ht]; simp)]
  refine wpAny_bind (listItems_at ho' hd ?_)
  refine wpAny_bind (listItems_at (xs := #[]) (n := 0) (Heap.get?_push_size _ rfl) rfl ?_)
  rw [if_neg (by simp)]
  refine wpAny_bind (listUpdate_at (xs := #[]) (n := 0) (Heap.get?_push_size _ rfl) rfl ?_ (Nat.zero_le _) (by show (#[] ++ vs.toArray).size ≤ sizeLine + 1; simp only [Array.size_append, List.size_toArray, List.length_nil]; omega))
  refine wpAny_pure ?_
  show wpAny (model prog w) A (do
      let o ← load s.heap.objs.size
      match o.data with
      | .seq xs _ => pure xs.toList
      | _ => unsupported "internal:collect") Q E { s with heap := (s.heap.push (seqObj "list" #[] 0)).update s.heap.objs.size (Obj.mapSeq (· ++ vs.toArray)) }
  refine wpAny_bind (wpAny_load (get?_update_seq (Heap.get?_push_size _ rfl) _) ?_)
  show wpAny _ _ (pure ((#[] : Array Value) ++ vs.toArray).toList) Q E _
  rw [show ((#[] : Array Value) ++ vs.toArray).toList = vs by simp]
  exact wpAny_pure h
theorem sortedT_vals {κ : PyProof.Rows.KeyKind} {l : Addr} {vs : List Value} {Q : Value → Shared → Prop} (hl : IsTup s.heap l vs.toArray) (S : SortsAt prog w A.in1.in1 { s with heap := sortingHeap (copyHeap s.heap vs) (s.heap.objs.size + 1) vs } κ vs) (hL : vs.length ≤ sizeLine)
    (h : Q (.ref (s.heap.objs.size + 1)) { s with heap := sortedAll s.heap vs (sortVals κ false vs vs).toArray }) : wpAny (model prog w) A (call (.builtin "sorted") [.ref l]) Q E s := by
  refine call_function_entry_kw kind_sorted plain_sorted entry_sorted (args_sorted1 _) ?_
  unfold Builtin.«sorted»
  refine wpAny_bind (m := checkCount "sorted" 1 1 _) (wpAny_pure ?_)
  refine wpAny_bind (collect_tup hl ?_ hL)
  refine wpAny_bind (wpAny_newList ?_ hL)
  have hsz : ((s.heap.push (seqObj "list" #[] 0)).update s.heap.objs.size (Obj.mapSeq (· ++ vs.toArray))).objs.size = s.heap.objs.size + 1 := by rw [Heap.size_update, size_push']
  show wpAny _ _ _ _ _ { s with heap := copyHeap s.heap vs }
  rw [hsz]
  refine wpAny_bind (wpAny_holding (wpAny_call_entry_kw slot_list_sort ⟨_, copyHeap_at s.heap vs, rfl⟩ entry_list_sort ?body (args_list_sort _)))
  case body =>
    show wpAny (model prog w) A.in1.in1 (Builtin.«list.sort» ⟨[.ref (s.heap.objs.size + 1)], []⟩) _ _ _
    refine wpAny_mono (list_sort_vals (P := fun f s' => f = .done (.ret .none) ∧ Q (.ref (s.heap.objs.size + 1)) s') (s := { s with heap := copyHeap s.heap vs }) (copyHeap_at s.heap vs) S hL ⟨rfl, h⟩) (fun f s' hf => ?_) fun _ _ e => e
    obtain ⟨rfl, hq⟩ := hf
    exact ⟨_, rfl, wpAny_pure ⟨_, rfl, hq⟩⟩
theorem sortedT_data {β : Type} {vs : List Value} {bs : List β} {enc : β → PyData} {R : Value → β → Prop} {l : Addr} {Q : Value → Shared → Prop} (hl : IsTup s.heap l vs.toArray) (e : EachIs R vs bs) (er : EachIs (fun v b => ∃ as, Reads s.heap v (enc b) as) vs bs) (hal : AllAlike (bs.map enc)) (hk : Sortable (bs.map enc)) (hL : bs.length ≤ sizeLine)
    (hu : ∀ b, b ∈ bs → A.units + 2 + (enc b).depth < cLine) (h : ∀ out, out.length = bs.length → EachIs R out (bs.mergeSort (dataLe false enc)) → Q (.ref (s.heap.objs.size + 1)) { s with heap := sortedAll s.heap vs (List.toArray out) }) :
    wpAny (model prog w) A (call (.builtin "sorted") [.ref l]) Q E s := by
  have er2 : EachIs (fun v b => ∃ as, Reads (sortingHeap (copyHeap s.heap vs) (s.heap.objs.size + 1) vs) v (enc b) as) vs bs := er.mono fun _ _ ⟨as, r⟩ => ⟨as, PyProof.Rows.Reads.keeps (fun _ _ => sorting_copy_old) r⟩
  exact sortedT_vals hl (SortsAt.data (s := { s with heap := sortingHeap (copyHeap s.heap vs) (s.heap.objs.size + 1) vs }) (each_map (R := fun v d => ∃ as, Reads (sortingHeap (copyHeap s.heap vs) (s.heap.objs.size + 1) vs) v d as) enc er2) hal hk (bound_map hu)) (by rw [e.length]; exact hL) (h _ (by rw [sortVals_length false rfl]; exact e.length) (sortVals_data false e er2 hal))
end
section
variable {X : Cx}
def rSortTD (K : PySem.W.Frag) : RC := fun vs H Q => ∃ (a : Addr) (bs : List VD), vs = [.ref a] ∧ SqT K H a (bs.map Prod.fst) ∧ (∀ b ∈ bs, Dp K H b.1 b.2) ∧ AllAlike (bs.map Prod.snd) ∧ Sortable (bs.map Prod.snd) ∧ (∀ b ∈ bs, b.2.depth ≤ 20) ∧
  ∀ p, H p = none → Q (.ref p) (upd H p (.lst ((bs.mergeSort (dataLe false Prod.snd)).map Prod.fst)))
theorem cr_sortTD (hu : X.A.units + 64 < cLine) : CallR X (.builtin "sorted") (rSortTD X.K) := by
  intro pins s σ H vs us Q I r h
  obtain ⟨a, bs, rfl, hs, hd, hal, hk, hdep, q⟩ := h
  obtain ⟨its, rv, hl, hz⟩ := I.tuple hs
  rw [Vals.ref1 r]
  have e := vals_each rv
  have er : EachIs (fun v (b : VD) => ∃ as, Reads s.heap v b.2 as) its bs := each_and e fun u b hb ru => Dp.reads I _ _ _ (hd b hb) ru
  rw [List.length_map] at hz
  refine sortedT_data (enc := Prod.snd) hl e er hal hk hz (fun b hb => by have := hdep b hb; omega) fun out hlen ho => ?_
  obtain ⟨ep, he'⟩ := PyProof.Rows.sortedAll_at s.heap its out.toArray
  have hv := each_vals ho
  have hlen : ((bs.mergeSort (dataLe false Prod.snd)).map Prod.fst).length ≤ sizeLine := by
    rw [List.length_map, List.length_mergeSort]
    exact hz
  exact ⟨.ref _, upd H (s.heap.objs.size + 1) (.lst ((bs.mergeSort (dataLe false Prod.snd)).map Prod.fst)), I.laid (t' := s.toks) (fun _ _ => PyProof.Rows.sortedAll_old) (Nat.le_succ _) ⟨hlen, out, ep, hv, he'⟩, rfl, q _ (I.hok.fresh (Nat.le_succ _))⟩
end
section
variable {C : MC} {g g1 : Gh} {H H1 : Hp} {s : MS} {σ : L2.St} {T : Tab}
/-- sorted, of a tuple too -/
def cSortT (o : List M → MS → Res M) (ms : List M) (s : MS) : Res M := match ms with
  | [.tup xs] => match datL xs with
    | some ds => if sortOk ds = true then .ok (.lst (((xs.zip ds).mergeSort leMD).map Prod.fst)) s else .stuck
    | none => .stuck
  | ms => o ms s
theorem ok_sortT {R : RC} {o : List M → MS → Res M} (ho : CallOk C R o) : CallOk C (fun vs H Q => rSortTD C.X.K vs H Q ∨ R vs H Q) (cSortT o) := fun σ H g s ms xs Q r rs h => by
  unfold cSortT at h
  split at h
  · rename_i ys
    cases rs with
    | cons rv r2 =>
      cases r2
      cases rv with
      | @tup a _ vs e ry =>
        split at h
        · rename_i ds hd
          split at h
          · rename_i hs
            obtain ⟨s1, s2, s3⟩ := sortOk_of hs
            have dp := datL_dp ry hd
            have hl := datL_len hd
            have hl2 : vs.length = ds.length := dpAll_len dp
            refine .inl ⟨a, vs.zip ds, rfl, ?_, ?_, ?_, ?_, fun b hb => s3 _ (List.of_mem_zip hb).2, fun p hn => h.newL r (sort_beside ry hl) hn⟩
            · rw [List.map_fst_zip (by omega)]
              exact .inl (.inl e)
            · rw [C.hK]; exact dpAll_mem dp
            · rw [List.map_snd_zip (by omega)]; exact s1
            · rw [List.map_snd_zip (by omega)]; exact s2
          · exact h.elim
        · exact h.elim
  · exact .inr (ho σ H g s ms xs Q r rs h)
end
end Ma
/-! Ma94: sorted(set(t)) of a tuple of ints. -/
namespace Ma
open L2 PySem.W PySem.Spec PySem PyProof.Rows
end Ma
/-! Ma95: sorted(set(xs)) of a long list of ints with few different ones. -/
namespace Ma
open L2 PySem.W PySem.Spec PySem PyProof.Rows
end Ma
/-! Ma96: defs with keyword-only parameters, called with and without keywords. -/
namespace Ma
open L2 PySem.Spec PySem PyProof.Rows
/-! ### arguments by keywords -/
abbrev PMk (C : MC) (e : List Keyword) (m : MA) : Prop := L2.PK C.X e (rdA C m)
theorem wkK {X : Cx} {e : List Keyword} {t t' : TA} (h : L2.PK X e t) (k : ∀ σ H Q, t' σ H Q → t σ H Q) : L2.PK X e t' := ⟨fun pos pins s σ H Q I q => h.run pos pins s σ H Q I (k _ _ _ q)⟩
/-- n by position, then k by keywords -/
def mCat (n k : Nat) (a b : MA) : MA := fun s => (a s).bind fun xs s1 => if xs.length = n then (b s1).bind fun ys s2 => if ys.length = k then .ok (xs ++ ys) s2 else .stuck else .stuck
theorem mcat_of {n k : Nat} {a b : MA} {s s1 s2 : MS} {xs ys : List M} (h : a s = .ok xs s1) (h2 : b s1 = .ok ys s2) (l1 : xs.length = n := by rfl) (l2 : ys.length = k := by rfl) : mCat n k a b s = .ok (xs ++ ys) s2 := by
  unfold mCat; rw [h]; show (if xs.length = n then _ else _) = _; rw [if_pos l1, h2]; exact if_pos l2
theorem bind_if {α β : Type} {c : Prop} [Decidable c] {a : Res α} {f : α → MS → Res β} : (if c then a else .stuck).bind f = if c then a.bind f else .stuck := by split <;> rfl
theorem bind_as {α β γ : Type} {r : Res α} {f : α → MS → Res β} {g : β → MS → Res γ} : (r.bind f).bind g = r.bind fun x s => (f x s).bind g := by cases r <;> rfl
theorem mcat_fn {n k : Nat} {a b : MA} {F : Fn} {s : MS} : mFn (mCat n k a b) F s = (a s).bind fun xs s1 => if xs.length = n then (b s1).bind fun ys s2 => if ys.length = k then upF s2.env (F (xs ++ ys) s2.hp) else .stuck else .stuck := by
  unfold mFn mCat
  rw [bind_as]
  congr 1
  funext xs s1
  rw [bind_if]
  split
  · rw [bind_as]
    congr 1
    funext ys s2
    rw [bind_if]
    rfl
  · rfl
section
variable {C : MC} {a : ME} {m : MA} {ea : Expr} {nm : Option Str} {kpos : Pos} {kws : List Keyword}
theorem ak_nil : PMk C [] mNil := wkK L2.pk_nil fun σ H Q ⟨g, s, r, q⟩ => q.ret r .nil
theorem ak_cons (ha : PMe C ea a) (hb : PMk C kws m) : PMk C (⟨nm, ea, kpos⟩ :: kws) (mCons a m) :=
  wkK (L2.pk_cons ha hb) fun σ H Q h => by
    obtain ⟨g, s, r, q⟩ := rdE_bind h
    refine ⟨g, s, r, q.imp ?_⟩
    rintro x H1 ⟨m, s1, g1, r1, rv, q1⟩
    refine ⟨g1, s1, r1, (Go.bind (R := C.Vn) q1).imp ?_⟩
    rintro xs H2 ⟨ms, s2, g2, mo2, r2, rvs, q2⟩
    exact q2.ret r2 (.cons (rv.mono mo2) rvs)
end
/-! ### in the parameters' order -/
def pickL {α : Type} (sp : List (Bool × Nat)) (as ds : List α) : List α := sp.filterMap fun q => if q.1 = true then as[q.2]? else ds[q.2]?
theorem vls_at {xs : List V} {us : List Value} (r : Vals xs us) (i : Nat) : (xs[i]? = none ∧ us[i]? = none) ∨ ∃ x u, xs[i]? = some x ∧ us[i]? = some u ∧ RelV x u := by
  cases h : xs[i]? with
  | none => exact .inl ⟨rfl, r.none_of h⟩
  | some x =>
    obtain ⟨u, e1, e2⟩ := r.get h
    exact .inr ⟨x, u, rfl, e1, e2⟩
theorem vals_pick {as ds : List V} {us es : List Value} (r : Vals as us) (q : Vals ds es) : ∀ sp : List (Bool × Nat), Vals (pickL sp as ds) (pickL sp us es)
  | [] => .nil
  | (b, i) :: sp => by
    have ih := vals_pick r q sp
    unfold pickL at ih ⊢
    rw [List.filterMap_cons, List.filterMap_cons]
    cases b with
    | true =>
      rcases vls_at r i with ⟨e1, e2⟩ | ⟨x, u, e1, e2, e3⟩
      · simp only [if_pos, e1, e2]
        exact ih
      · simp only [if_pos, e1, e2]
        exact .cons e3 ih
    | false =>
      rcases vls_at q i with ⟨e1, e2⟩ | ⟨x, u, e1, e2, e3⟩
      · simp only [Bool.false_eq_true, if_false, e1, e2]
        exact ih
      · simp only [Bool.false_eq_true, if_false, e1, e2]
        exact .cons e3 ih
section
variable {T : Tab} {g : Gh} {H : Hp}
theorem rvls_at {xs : List M} {us : List V} (r : RVs T g H xs us) (i : Nat) : (xs[i]? = none ∧ us[i]? = none) ∨ ∃ x u, xs[i]? = some x ∧ us[i]? = some u ∧ RV T g H x u := by
  cases h : xs[i]? with
  | none =>
    refine .inl ⟨rfl, ?_⟩
    rw [List.getElem?_eq_none_iff] at h ⊢
    rw [← r.length]
    exact h
  | some x =>
    obtain ⟨u, e1, e2⟩ := r.get h
    exact .inr ⟨x, u, rfl, e1, e2⟩
theorem rvs_pick {as ds : List M} {us es : List V} (r : RVs T g H as us) (q : RVs T g H ds es) : ∀ sp : List (Bool × Nat), RVs T g H (pickL sp as ds) (pickL sp us es)
  | [] => .nil
  | (b, i) :: sp => by
    have ih := rvs_pick r q sp
    unfold pickL at ih ⊢
    rw [List.filterMap_cons, List.filterMap_cons]
    cases b with
    | true =>
      rcases rvls_at r i with ⟨e1, e2⟩ | ⟨x, u, e1, e2, e3⟩
      · simp only [if_pos, e1, e2]
        exact ih
      · simp only [if_pos, e1, e2]
        exact .cons e3 ih
    | false =>
      rcases rvls_at q i with ⟨e1, e2⟩ | ⟨x, u, e1, e2, e3⟩
      · simp only [Bool.false_eq_true, if_false, e1, e2]
        exact ih
      · simp only [Bool.false_eq_true, if_false, e1, e2]
        exact .cons e3 ih
end
/-- called with n by position and k by keywords; dms: what lacks -/
def kwF (sp : List (Bool × Nat)) (dms : List M) (F : Fn) : Fn := fun args hp => F (pickL sp args dms) hp
section
variable {P : Program} {w : World} {mg : Str → Option Value} {base : Heap} {T : Tab}
structure FnKw (P : Program) (w : World) (mg : Str → Option Value) (base : Heap) (T : Tab) (k : Nat) (f : Addr) (n : Nat) (ks : List Str) (F : Fn) : Prop where
  run : ∀ (A : Around) (outer : List Env) (s : Shared) (H : Hp) (us ws : List Value) (vs zs : List V) (Q : VK) (E : XK), RoomG k A → Env0 P w T.K mg base A outer s H → Vals vs us → Vals zs ws → vs.length = n → zs.length = ks.length → spP T F (vs ++ zs) H Q E →
    codeAny (model P w) A (.call (.ref f) ⟨us, ks.zip ws⟩) (CR (L2.CX P w) outer P w H s Q E) s
theorem FnKw.of {k : Nat} {f : Addr} {fd : FuncData} {ps ks : List Str} {F : Fn} {n : Nat} {sp : List (Bool × Nat)} {mv : List Value} {dvs : List V} {dms : List M} (G : FnG P w mg base T k f fd ps F)
    (hb : KBn T.K fd ps n ks (fun us ws => pickL sp (us ++ ws) mv) (fun vs zs => pickL sp (vs ++ zs) dvs)) (hdm : ∀ g H, RVs T g H dms dvs)
    (hlen : ∀ vs zs : List V, vs.length = n → zs.length = ks.length → (pickL sp (vs ++ zs) dvs).length = ps.length) : FnKw P w mg base T k f n ks (kwF sp dms F) := by
  refine ⟨fun A outer s H us ws vs zs Q E hr e0 rv rz l1 l2 ⟨g, hp, args, rh, rs, go⟩ => ?_⟩
  have r2 := hb.rel rv rz
  exact G.run A outer s H ⟨us, ks.zip ws⟩ _ _ Q E hr e0 (hb.to s us ws (e0.mod.kin.keeps fun b o q => (e0.bs b o q).1) (rv.length.symm.trans l1) (rz.length.symm.trans l2)) r2 ⟨hlen vs zs l1 l2, g, hp, pickL sp args dms, rh, rvs_pick rs (hdm g H) sp, go⟩
/-- what the text's name x holds, called with keywords -/
structure KnKw (P : Program) (w : World) (mg : Str → Option Value) (base : Heap) (T : Tab) (x : Str) (k : Nat) (n : Nat) (ks : List Str) (F : Fn) : Prop where
  ex : ∃ f : Addr, FnKw P w mg base T k f n ks F ∧ mg x = some (.ref f) ∧ PySem.W.keepIn T.K (.ref f) = true
end
section
variable {C : MC} {k n : Nat} {F : Fn} {x : Str} {p pos : Pos} {ex : Expr} {es : List Expr} {kws : List Keyword} {ks : List Str} {ma mk : MA}
theorem em_knW (G : KnKw C.X.prog C.X.w C.X.mg C.X.base C.T x k n ks F) (hr : RoomG k C.X.A) (tk : Takes C.X C.W) (ha : PMa C (ex :: es) ma) (hkw : PMk C kws mk)
    (hg : Gl C.X x := by rfl) (hdb : (x == ("__debug__" : Str)) = false := by decide) (hall : (backToKw pos (keywordEach kws C.X.env)).all (·.1.isSome) = true := by rfl) (hks : (backToKw pos (keywordEach kws C.X.env)).filterMap (·.1) = ks := by rfl)
    (he : starEach (ex :: es) C.X.env = (false, eval ex C.X.env) :: starEach es C.X.env := by rfl)
    (hpl : ((backTo pos (starEach (ex :: es) C.X.env)).any (·.1) || (backToKw pos (keywordEach kws C.X.env)).any (·.1.isNone)) = false := by rfl) :
    PMe C (.Call (.Name x p) (ex :: es) kws pos) (mFn (mCat n ks.length ma mk) F) := by
  obtain ⟨f, G, hm, hk⟩ := G.ex
  refine ⟨fun pins sh σ H Q I h => wpAny_Call_Name_kw (ld_glob I hg hm ?_ hdb)⟩
  obtain ⟨g, s, r, q⟩ := h
  rw [mcat_fn] at q
  have h2 : rdA C ma σ H fun vs H1 => ∃ xs s1 g1, Mono g H g1 H1 ∧ C.rel g1 s1 σ H1 ∧ RVs C.T g1 H1 xs vs ∧ Go C C.V1 σ (if xs.length = n then (mk s1).bind fun ys s2 => if ys.length = ks.length then upF s2.env (F (xs ++ ys) s2.hp) else .stuck else .stuck) g1 H1 Q := ⟨g, s, r, Go.bind (R := C.Vn) q⟩
  refine PySem.W.callWith_KW (h₀ := C.X.base) I.ok.mod.kin (C.hK ▸ hk) hall (thn (ha.run pos pins sh σ H _ I h2) fun us s1 hh => ?_) hpl he
  obtain ⟨vs, H1, I1, rv, xs, t1, g1, mo1, r1, rs, q1⟩ := hh
  by_cases l1 : xs.length = n
  · rw [if_pos l1] at q1
    have h3 : rdA C mk σ H1 fun zs H2 => ∃ ys s2 g2, Mono g1 H1 g2 H2 ∧ C.rel g2 s2 σ H2 ∧ RVs C.T g2 H2 ys zs ∧ Go C C.V1 σ (if ys.length = ks.length then upF s2.env (F (xs ++ ys) s2.hp) else .stuck) g2 H2 Q := ⟨g1, t1, r1, Go.bind (R := C.Vn) q1⟩
    refine thn (hkw.run pos pins s1 σ H1 _ I1 h3) fun ws s2 hh => ?_
    obtain ⟨zs, H2, I2, rz, ys, t2, g2, mo2, r2, rs2, q2⟩ := hh
    by_cases l2 : ys.length = ks.length
    · rw [if_pos l2] at q2
      refine ⟨I2.kIn, ?_⟩
      rw [hks]
      have e0 : Env0 C.X.prog C.X.w C.T.K C.X.mg C.X.base C.X.A C.X.stack s2 H2 := C.hK ▸ I2.env0
      refine wpAny_call (codeAny_mono (G.run C.X.A C.X.stack s2 H2 us ws vs zs Q _ hr e0 rv rz (rs.length.symm.trans l1) (rs2.length.symm.trans l2) (sp_up r2 ((rs.mono mo2).app rs2) q2)) fun res s' hq => ?_)
      cases res with
      | error x => exact tk x s' (XE.of_call I2 (fun _ _ _ z => z) hq)
      | ok fl =>
        cases fl with
        | ret u => exact I2.after hq
        | next => exact hq.elim
        | brk => exact hq.elim
        | cont => exact hq.elim
    · rw [if_neg l2] at q2; exact q2.elim
  · rw [if_neg l1] at q1; exact q1.elim
end
/-! ### such defs -/
section
variable {P : Program} {w : World} {mg : Str → Option Value} {base : Heap} {T : Tab}
theorem fnG_d {x qual : Str} {st : Stmt} {f : Addr} {fd : FuncData} {N ps : List Str} {k : Nat} {b : MStm} {dvs : List V} {kws : List (Str × V)} (F : L2.FunD T.K x qual (defArgs st) (defBody st) (defScope st) dvs kws f fd) (S : FnScope N ps (defScope st))
    (hb : ∀ (cdv : Value) (A : Around) (outer : List Env) (s : Shared) (H : Hp) (E : XK) (g : Gh), RoomG k (A.deeper (envOfC qual (defScope st) s.heap.objs.size f cdv)) → PMb (cAt P w mg base T N qual (defScope st) f cdv A outer s H E g) (defBody st) b) :
    FnG P w mg base T (k + 1) f fd ps (bodyF ps.length N.length b) := by
  refine ⟨fun A outer s H args us vs Q E hr e0 hbd r hsp => ?_⟩
  obtain ⟨oc, od, dV, kV, doc, pm, an, cdv, ct, osl, rfl, lk, hcd, _, _⟩ := F.ex
  obtain ⟨hl, g, hp, as, rh, rs, go⟩ := hsp
  have inK : T.K.In s.heap := e0.mod.kin.keeps (fun b o q => (e0.bs b o q).1)
  have nl : s.heap.NoLimit := e0.mod.nolimit.keeps (fun b o q => (e0.bs b o q).1)
  have kinds : ∀ y ∈ ps.zip us, (defScope st).names.lookup y.1 = some .local ∨ ((defScope st).names.lookup y.1 = some .cell ∧ ((cellsFrom (s.heap.objs.size + 1) (defScope st).names []).lookup y.1).isSome = true) := by
    rintro ⟨n, v⟩ hy
    exact (S.par n (List.of_mem_zip hy).1).imp id fun q => ⟨q, PySem.W.cellsFrom_some _ _ _ (.inl q)⟩
  refine codeAny_call_function hr.depth (inK _ _ lk) rfl S.co S.gen rfl (PySem.W.codeRec_of inK hcd) (hbd _ _ _ _ (wpAny_newFunctionEnv_cells S.kind kinds fun env he s1 ic => ?_))
  subst he
  refine ⟨nl.keeps ic.toInCall.keep, codeAny_func ?_⟩
  have J : Inv (cAt P w mg base T N qual (defScope st) f cdv A outer s H E g).X [] (L2.start N vs) H s1 := inv_start S hr.hd e0 hl r ic
  have hbody := hb cdv A outer s H E g (hr.down _)
  have hnl : ps.length ≤ N.length := by
    have := congrArg List.length S.pre
    rw [List.length_take] at this
    omega
  have fin : ∀ {σ' : L2.St} {H' : Hp} {v : V} {u : Value} {s' : Shared}, Inv (cAt P w mg base T N qual (defScope st) f cdv A outer s H E g).X [] σ' H' s' → RelV v u → Q v H' → CE outer P w H s Q u s' :=
    fun J rv q => ⟨_, _, J.os, J.bare, J.base, J.hok, rv, q⟩
  let D : Ends := { nx := fun _ H' => Q .non H', rt := Q }
  have start_rel : Rel T ⟨g, H⟩ g ⟨as.map some ++ List.replicate (N.length - ps.length) none, hp⟩ (L2.start N vs) H := by
    refine ⟨rh, ?_, fun i m v h1 h2 => ?_⟩
    · unfold L2.start
      simp [rs.length, hl]
    · have h1 : (as.map some ++ List.replicate (N.length - ps.length) none)[i]? = some (some m) := h1
      unfold L2.start at h2
      by_cases hi : i < as.length
      · rw [List.getElem?_append_left (by simpa using hi), List.getElem?_map] at h1
        rw [List.getElem?_append_left (by simpa [← rs.length] using hi), List.getElem?_map] at h2
        cases ha : as[i]? with
        | none => rw [ha] at h1; cases h1
        | some m' =>
          rw [ha] at h1
          cases h1
          obtain ⟨x, hx, rx⟩ := rs.get ha
          rw [hx] at h2
          cases h2
          exact ⟨x, rfl, rx⟩
      · rw [List.getElem?_append_right (by simpa using Nat.le_of_not_lt hi), List.getElem?_replicate] at h1
        split at h1 <;> cases h1
  have goal : rdS (cAt P w mg base T N qual (defScope st) f cdv A outer s H E g) b D (L2.start N vs) H := by
    refine ⟨g, ⟨as.map some ++ List.replicate (N.length - ps.length) none, hp⟩, start_rel, ?_⟩
    unfold bodyF at go
    cases hm : b ⟨as.map some ++ List.replicate (N.length - ps.length) none, hp⟩ with
    | stuck => rw [hm] at go; exact go.elim
    | err x s1 => rw [hm] at go; exact fun g' H' σ' cls d mo rl xr => go g' H' cls d rl.h xr
    | ok fl s1 =>
      rw [hm] at go
      cases fl with
      | nx => exact fun g' H' σ' mo rl => go g' H' .non rl.h .non
      | rt m => exact fun g' H' σ' v mo rl rv => go g' H' v rl.h rv
      | bk => exact go.elim
      | ct => exact go.elim
  refine wpAny_mono (hbody.run [] s1 (L2.start N vs) H D J goal) (fun fl s' hs => ?_) fun e s' hs => hs
  cases fl with
  | ret u =>
    obtain ⟨v, σ', H', J', rv, q⟩ := hs
    exact fin J' rv q
  | next =>
    obtain ⟨σ', H', J', q⟩ := hs
    exact fin (v := V.non) (u := Value.none) J' rfl q
  | brk => exact hs.elim fun _ z => z.elim fun _ y => y.2.elim
  | cont => exact hs.elim fun _ z => z.elim fun _ y => y.2.elim
theorem fnP_k {x qual : Str} {st : Stmt} {f : Addr} {fd : FuncData} {N ps : List Str} {k : Nat} {b : MStm} {kws : List (Str × V)} {dms : List M} (F : L2.FunD T.K x qual (defArgs st) (defBody st) (defScope st) [] kws f fd) (S : FnScope N ps (defScope st))
    (n : Nat) (hk : kws ≠ []) (hn : n + kws.length = ps.length) (hdm : ∀ g H, RVs T g H dms (kws.map (·.2)))
    (h : ∀ (D : Addr) (doc pm : Value) (an : Option Addr) (cdv ct : Value) (us ks : List Value), us.length = n → ks.length = kws.length →
      L2.KwChain D ((kws.map (·.1)).zip ks) (bindArgs (PySem.W.fnOf x qual (defArgs st) (defBody st) (defScope st) .none (.ref D) doc pm an cdv ct) ⟨us, []⟩) (ps.zip (us ++ ks)))
    (hb : ∀ (cdv : Value) (A : Around) (outer : List Env) (s : Shared) (H : Hp) (E : XK) (g : Gh), RoomG k (A.deeper (envOfC qual (defScope st) s.heap.objs.size f cdv)) → PMb (cAt P w mg base T N qual (defScope st) f cdv A outer s H E g) (defBody st) b) :
    FnP P w mg base T (k + 1) f (posF ps.length dms (bodyF ps.length N.length b)) := by
  obtain ⟨ds, hv, hbd⟩ := F.binds0 n hk hn h
  exact FnP.of (fnG_d F S hb) hbd hv hdm
theorem fnW_k {x qual : Str} {st : Stmt} {f : Addr} {fd : FuncData} {N ps ks : List Str} {k : Nat} {b : MStm} {kws ms : List (Str × V)} {dms : List M} {sp : List (Bool × Nat)} (F : L2.FunD T.K x qual (defArgs st) (defBody st) (defScope st) [] kws f fd) (S : FnScope N ps (defScope st))
    (n : Nat) (hk : kws ≠ []) (hms : ∀ q ∈ ms, q ∈ kws) (hdm : ∀ g H, RVs T g H dms (ms.map (·.2)))
    (hlen : ∀ vs zs : List V, vs.length = n → zs.length = ks.length → (pickL sp (vs ++ zs) (ms.map (·.2))).length = ps.length)
    (h : ∀ (D : Addr) (doc pm : Value) (an : Option Addr) (cdv ct : Value) (us mv ws : List Value), us.length = n → mv.length = ms.length → ws.length = ks.length →
      L2.KwChain D ((ms.map (·.1)).zip mv) (bindArgs (PySem.W.fnOf x qual (defArgs st) (defBody st) (defScope st) .none (.ref D) doc pm an cdv ct) ⟨us, ks.zip ws⟩) (ps.zip (pickL sp (us ++ ws) mv)))
    (hb : ∀ (cdv : Value) (A : Around) (outer : List Env) (s : Shared) (H : Hp) (E : XK) (g : Gh), RoomG k (A.deeper (envOfC qual (defScope st) s.heap.objs.size f cdv)) → PMb (cAt P w mg base T N qual (defScope st) f cdv A outer s H E g) (defBody st) b) :
    FnKw P w mg base T (k + 1) f n ks (kwF sp dms (bodyF ps.length N.length b)) := by
  obtain ⟨mv, hbn⟩ := F.kbinds0 n ks ms (fun {_} us mv ws => pickL sp (us ++ ws) mv) hk hms (fun r1 r2 r3 => vals_pick (r1.append r3) r2 sp) h
  exact FnKw.of (fnG_d F S hb) hbn hdm hlen
end
end Ma
/-! Ma97: zip of two lists. -/
namespace Ma
open L2 PySem.Spec PySem PyProof.Rows
end Ma
/-! Ma99: a comprehension whose list is changed afterwards. -/
namespace Ma
open L2 PySem.Spec PySem PyProof.Rows
end Ma
/-! Ma100: a list that takes the items of a tuple. -/
namespace Ma
open L2 PySem
end Ma
/-! Ma101: max(xs, key=len) of a list of tuples. -/
namespace Ma
open L2 PySem.Spec PySem PyProof.Rows
end Ma
/-! Ma102: min(xs), max(xs) of a list of data. -/
namespace Ma
open L2 PySem.Spec PySem PyProof.Rows
end Ma
/-! Ma103: sum(xs) of a list of ints. -/
namespace Ma
open L2 PySem.Spec PySem PyProof.Rows
end Ma
/-! Ma104: repr of a list in which dicts of plain keys and values lie beside data. -/
namespace Ma
open L2 PySem.W PySem.Spec PySem PyProof.Rows
section
variable {prog : Program} {w : World} {h₀ : Heap}
/-- each value reads, and what bears a dict is not the modules' -/
inductive EachR (h₀ : Heap) : List Value → List PyData → Prop
  | nil : EachR h₀ [] []
  | cons {v : Value} {vs : List Value} {d : PyData} {ds : List PyData} {as : List Addr} : Reads h₀ v d as → (d.hasDict = true → sysModules ∉ as) → EachR h₀ vs ds → EachR h₀ (v :: vs) (d :: ds)
theorem EachR.all {vs : List Value} {ds : List PyData} (e : EachR h₀ vs ds) : ∃ as, ReadsAll h₀ vs ds as := by
  induction e with
  | nil => exact ⟨[], .nil⟩
  | cons r _ _ ih =>
    obtain ⟨bs, q⟩ := ih
    exact ⟨_, .cons r q⟩
theorem EachR.shows {vs : List Value} {ds : List PyData} (e : EachR h₀ vs ds) : PyData.showableAll ds = true → (∀ t ∈ PyData.shownAll ds, t.length ≤ sizeLine) →
    ∃ bs, ReadAtMost h₀ (PyData.depthAll ds) bs ∧ ReprAllK prog w bs h₀ (PyData.depthAll ds) vs (PyData.shownAll ds) := by
  induction e with
  | nil =>
    intro _ _
    refine ⟨[], (fun b hb => by cases hb), ?_⟩
    rw [show PyData.shownAll [] = [] by simp [PyData.shownAll]]
    exact .nil
  | @cons v vs d ds as r hm e ih =>
    intro hs hz
    have sp := hs
    simp only [PyData.showableAll, Bool.and_eq_true] at sp
    obtain ⟨s1, s2⟩ := sp
    have et : PyData.shownAll (d :: ds) = d.shown :: PyData.shownAll ds := by simp [PyData.shownAll]
    have ed : PyData.depthAll (d :: ds) = max d.depth (PyData.depthAll ds) := by simp [PyData.depthAll]
    rw [et] at hz ⊢
    rw [ed]
    obtain ⟨p, hp, kp⟩ := ReprK.of_reads (prog := prog) (w := w) r s1 hm (hz _ (by simp))
    obtain ⟨q, hq, kq⟩ := ih s2 fun t ht => hz t (by simp [ht])
    refine ⟨p ++ q, fun b hb => ?_, .cons ((kp.more fun b hb => List.mem_append_left _ hb).level_le (Nat.le_max_left _ _)) (kq.more_le (fun b hb => List.mem_append_right _ hb) (Nat.le_max_right _ _))⟩
    rcases List.mem_append.mp hb with z | z
    · obtain ⟨d', as', r', l⟩ := hp b z
      exact ⟨d', as', r', Nat.le_trans l (Nat.le_max_left _ _)⟩
    · obtain ⟨d', as', r', l⟩ := hq b z
      exact ⟨d', as', r', Nat.le_trans l (Nat.le_max_right _ _)⟩
theorem repr_each {a : Addr} {o : Obj} {x : Value} {l : List Value} {n : Nat} {ds : List PyData} {A : Around} {E : Value → Shared → Prop} {s : Shared} {Q : Value → Shared → Prop}
    (h1 : s.heap.get? a = some o) (h2 : o.cls = .type "list") (h3 : o.data = .seq (x :: l).toArray n) (e : EachR s.heap (x :: l) ds) (hs : PyData.showableAll ds = true)
    (hg : A.guards = some []) (hu : A.units + (PyData.depthAll ds + 2) < cLine) (hz : (listText (PyData.shownAll ds)).length ≤ sizeLine)
    (hQ : ∀ h' u tk, (∀ b o, s.heap.get? b = some o → h'.get? b = some o) → Q (.str (listText (PyData.shownAll ds)) u) { s with heap := h', toks := tk }) :
    wpAny (model prog w) A (call (.builtin "repr") [.ref a]) Q E s := by
  obtain ⟨as, ra⟩ := e.all
  have rl : Reads s.heap (.ref a) (.list ds) (a :: as) := .list h1 h2 h3 (by simpa using ra)
  obtain ⟨bs, hb, hk⟩ := e.shows (prog := prog) (w := w) hs fun t ht => Nat.le_trans (listText_mem_le ht) hz
  have out : a ∉ bs := not_mem_of_deeper rl (by simp only [PyData.depth]; omega) hb
  have lev : A.in1.units = A.units + 1 := rfl
  exact call_repr_slot (by omega) ⟨o, h1, h2⟩ F.slot_list_repr.toG (call_list_reprK h1 h2 h3 out (by simpa using hk.length_eq) (fun i y z => hk.item i y (by simpa using z)) hg (fun b _ => Clear.nil b) (by rw [lev]; omega) (fun _ _ z => z) (fun h' u tk keep => ⟨_, _, rfl, hQ h' u tk keep⟩) hz)
end
section
variable {C : MC} {g g1 : Gh} {H H1 : Hp} {s : MS} {σ : L2.St} {T : Tab}
/-- data without a dict, or a dict -/
def datB (hp : List Cell) (m : M) : Option PyData := match m with
  | .box n => match dictOf hp (.box n) with
    | some kms => (kvD kms).map PyData.dict
    | none => none
  | m => match dat m with
    | some d => if d.hasDict = true then none else some d
    | none => none
def datBs (hp : List Cell) : List M → Option (List PyData)
  | [] => some []
  | m :: r => match datB hp m, datBs hp r with
    | some d, some ds => some (d :: ds)
    | _, _ => none
inductive EachV (K : PySem.W.Frag) (H : Hp) : List V → List PyData → Prop
  | nil : EachV K H [] []
  | dat {v : V} {vs : List V} {d : PyData} {ds : List PyData} : Dp K H v d → d.hasDict = false → EachV K H vs ds → EachV K H (v :: vs) (d :: ds)
  | dict {a : Addr} {vs : List V} {ds : List PyData} {kms : List (Key × M)} {kvs : List (Key × V)} {kd : List (PyData × PyData)} {T : Tab} {g : Gh} : Rd H a (.dK kvs) → RFs T g H kms kvs → kvD kms = some kd → EachV K H vs ds → EachV K H (.ref a :: vs) (.dict kd :: ds)
theorem EachV.reads {X : Cx} {pins : List (Addr × Obj)} {s : Shared} (I : Inv X pins σ H s) {vs : List V} {ds : List PyData} (e : EachV X.K H vs ds) : ∀ {us : List Value}, Vals vs us → EachR s.heap us ds := by
  induction e with
  | nil =>
    intro us h
    cases h
    exact .nil
  | dat d h _ ih =>
    intro us hv
    cases hv with
    | cons r rs =>
      obtain ⟨as, q⟩ := Dp.reads I _ _ _ d r
      exact .cons q (fun z => by rw [h] at z; cases z) (ih rs)
  | @dict a vs ds kms kvs kd T g hr rf hk _ ih =>
    intro us hv
    cases hv with
    | cons r rs =>
      rename_i u us'
      obtain rfl : u = .ref a := r
      obtain ⟨hz, hs, ws, kv, o, es, ep, ho, he, hd, ha, hp, nd⟩ := dk_rd I.hok hr
      obtain ⟨k1, k2⟩ := kvD_reads (hp := s.heap) hk rf kv hp
      have R : Reads s.heap (.ref a) (.dict kd) (a :: [] ++ []) := .dict ho he.1 hd k1 k2
      refine .cons R (fun _ z => ?_) (ih rs)
      have e : sysModules = a := by simpa using z
      rw [← e] at hs
      simp at hs
def rReprL (K : PySem.W.Frag) : RC := fun xs H Q => ∃ (a : Addr) (vs : List V) (ds : List PyData), xs = [.ref a] ∧ SqL K H a vs ∧ vs ≠ [] ∧ EachV K H vs ds ∧ PyData.showableAll ds = true ∧ PyData.depthAll ds ≤ 62 ∧ (listText (PyData.shownAll ds)).length ≤ sizeLine ∧ Q (.str (listText (PyData.shownAll ds))) H
theorem call_reprL {X : Cx} (hg : X.A.guards = some []) (hu : X.A.units + 65 < cLine) : CallR X (.builtin "repr") (rReprL X.K) := by
  intro pins s σ H xs us Q I rv ⟨a, vs, ds, hx, hs, ne, he, h1, h3, h4, q⟩
  subst hx
  rw [Vals.ref1 rv]
  obtain ⟨its, rw', ⟨o, n, ho, hc, _, hd⟩, _⟩ := I.list hs
  have er := he.reads I rw'
  cases its with
  | nil =>
    cases rw'
    exact absurd rfl ne
  | cons x l => exact repr_each ho hc hd er h1 hg (by omega) h4 fun h' u tk keep => ⟨.str _, H, I.kept (h' := h') (t' := tk) keep, ⟨_, rfl⟩, q⟩
def cReprL (o : List M → MS → Res M) (ms : List M) (s : MS) : Res M := match ms with
  | [.lst xs] => match datL xs with
    | some _ => o [.lst xs] s
    | none => match datBs s.hp xs with
      | some ds => if (!xs.isEmpty && PyData.showableAll ds && decide (PyData.depthAll ds ≤ 62) && decide ((listText (PyData.shownAll ds)).length ≤ sizeLine)) = true then .ok (.str (listText (PyData.shownAll ds))) s else .stuck
      | none => .stuck
  | ms => o ms s
theorem datBs_at (r : C.rel g s σ H) : ∀ {xs : List M} {vs : List V} {ds : List PyData}, RVs C.T g H xs vs → datBs s.hp xs = some ds → EachV C.X.K H vs ds
  | [], _, _, rs, h => by
    cases rs
    cases h
    exact .nil
  | m :: xs, _, _, .cons rv rs, h => by
    unfold datBs at h
    split at h
    · rename_i d ds hd hds
      cases h
      have ih := datBs_at r rs hds
      unfold datB at hd
      split at hd
      · rename_i n
        split at hd
        · rename_i kms hk
          cases hkd : kvD kms with
          | none => rw [hkd] at hd; cases hd
          | some kd =>
            rw [hkd] at hd
            cases hd
            obtain ⟨n', a, kvs, _, rfl, _, hr, rf⟩ := dictOf_at r hk rv
            exact .dict hr rf hkd ih
        · cases hd
      · rename_i hn
        split at hd
        · rename_i d' hd'
          split at hd
          · cases hd
          · rename_i nd
            cases hd
            have nd : d.hasDict = false := by simpa using nd
            have hdT : datT s.hp m = some d := by
              unfold datT
              cases m with
              | box n => exact absurd rfl (hn n)
              | _ => exact hd'
            exact .dat (datT_dp r rv hdT) nd ih
        · cases hd
    · cases h
theorem ok_reprL {R : RC} {o : List M → MS → Res M} (ho : CallOk C R o) : CallOk C (fun xs H Q => rReprL C.X.K xs H Q ∨ R xs H Q) (cReprL o) := fun σ H g s ms xs Q r rs h => by
  unfold cReprL at h
  split at h
  · rename_i ys
    split at h
    · exact .inr (ho σ H g s _ xs Q r rs h)
    · split at h
      · rename_i ds hd
        split at h
        · rename_i hb
          simp only [Bool.and_eq_true, decide_eq_true_eq, Bool.not_eq_true'] at hb
          obtain ⟨⟨⟨h0, h1⟩, h3⟩, h4⟩ := hb
          cases rs with
          | cons rv r2 =>
            cases r2
            obtain ⟨a, vs, rfl, e, ry⟩ := lstOf_at r (show lstOf s.hp (.lst ys) = some ys from rfl) rv
            refine .inl ⟨a, vs, ds, rfl, SqL.of e, fun z => ?_, datBs_at r ry hd, h1, h3, h4, h.same r (.str _)⟩
            subst z
            cases ry
            simp at h0
        · exact h.elim
      · exact h.elim
  · exact .inr (ho σ H g s ms xs Q r rs h)
end
end Ma
/-! Ma105: module constants that are tuples of ints and texts: in, not in; abs. -/
namespace PySem.SeqAt
open PySem.Spec PyProof PySem PyProof.Rows
theorem str_eq_declines_dict (b : Str) (u : Tok) (l : Addr) (es : Array DictEntry) (n : Nat) (dd : Option Addr) (sl : Array (Option Value)) :
    Meets (Builtin.«str.__eq__» ⟨[.str b u, .ref l], []⟩) (fun _ R s => s.heap.get? l = some { cls := .type "dict", dict := dd, data := .dict es n, slots := sl } ∧ R (.ok (.ret .notImplemented)) s) :=
  .of_wp fun prog w A R s h => by obtain ⟨hp, g, d, tk, os⟩ := s; obtain ⟨hl, h⟩ := h; wp_walk using wpAny_loadPart' hl, wpAny_load hl; exact ⟨_, rfl, h⟩
theorem dict_eq_declines_str (l : Addr) (es : Array DictEntry) (n : Nat) (dd : Option Addr) (sl : Array (Option Value)) (b : Str) (u : Tok) :
    Meets (Builtin.«dict.__eq__» ⟨[.ref l, .str b u], []⟩) (fun _ R s => s.heap.get? l = some { cls := .type "dict", dict := dd, data := .dict es n, slots := sl } ∧ R (.ok (.ret .notImplemented)) s) :=
  .of_wp fun prog w A R s h => by
    obtain ⟨hl, h⟩ := h
    have hI : ∀ {R' : Bool → Shared → Prop} {E' : Value → Shared → Prop}, R' false s → wpAny (model prog w) A.in1 (isSubtype (.type "str") (.type "dict")) R' E' s := fun hr => wpAny_of_eq F.sub_str_dict hr
    obtain ⟨hp, g, d, tk, os⟩ := s
    wp_walk using wpAny_loadPart' hl, wpAny_load hl, hI
    exact ⟨_, rfl, h⟩
theorem EqAt.str_dict {A : Around} {s : Shared} {l : Addr} {o : Obj} {es : Array DictEntry} {n : Nat} (b : Str) (u : Tok) (ho : s.heap.get? l = some o) (hc : o.cls = .type "dict") (hd : o.data = .dict es n) (hu : A.units < cLine) : EqAt A s (.str b u) (.ref l) false := fun prog w E Q h => by
  obtain ⟨cls, dd, data, sl⟩ := o
  simp only at hc hd
  subst hc hd
  unfold eqBool
  refine wpAny_holding ?_
  refine wpAny_ite_split (fun hab => absurd (eq_of_beq hab) nofun) (fun _ => ?_)
  refine wpAny_bind ?_
  exact rc_eq_decline_or (k := false) (typeIs_str s b u) ⟨_, ho, rfl⟩ (by decide) F.sub_dict_str F.slot_str_eq F.slot_dict_eq_refl
    (fun _ hq => call_meets F.slot_str_eq (typeIs_str s b u) F.entry_str_eq (F.args_str_eq_2 _ _) (str_eq_declines_dict b u l es n dd sl) ⟨ho, hq⟩)
    (fun _ hq => call_meets F.slot_dict_eq_refl ⟨_, ho, rfl⟩ F.entry_dict_eq (F.args_dict_eq_2 _ _) (dict_eq_declines_str l es n dd sl b u) ⟨ho, hq⟩)
    (fun _ hq => wpAny_of_eq (rfl : isSame (.str b u) (.ref l) = pure false) hq) (.inr hu) (wpAny_truthy_bool h)
end PySem.SeqAt
namespace Ma
open L2 PySem.W PySem.Spec PySem PyProof.Rows
def vOf : M → V
  | .int i => .int i
  | .str x => .str x
  | _ => .non
def dOf : M → PyData
  | .int i => .int i
  | .str x => .str x
  | _ => .none
def flK : M → Bool
  | .int _ => true
  | .str _ => true
  | _ => false
/-- the module's name x holds a tuple of ints and texts -/
structure KTup (mg : Str → Option Value) (T : Tab) (x : Str) (ks : List M) : Prop where
  ex : ∃ a, mg x = some (.ref a) ∧ ∀ H, SqT T.K H a (ks.map vOf)
  fl : ks.all flK = true
theorem reads_flK {h : Heap} : ∀ {ks : List M} {us : List Value}, ks.all flK = true → Vals (ks.map vOf) us → ∃ as, ReadsAll h us (ks.map dOf) as
  | [], _, _, r => by cases r; exact ⟨_, .nil⟩
  | k :: ks, us, hf, r => by
    rw [List.all_cons, Bool.and_eq_true] at hf
    cases r with
    | cons r1 r2 =>
      obtain ⟨bs, q⟩ := reads_flK (h := h) hf.2 r2
      cases k with
      | int i => obtain ⟨t, rfl⟩ := r1; exact ⟨_, .cons (.int i t) q⟩
      | str x => obtain ⟨t, rfl⟩ := r1; exact ⟨_, .cons (.str x t) q⟩
      | _ => cases hf.1
def flS : M → Bool
  | .str _ => true
  | _ => false
section
variable {C : MC} {g g1 : Gh} {H H1 : Hp} {s : MS} {σ : L2.St} {ea : Expr} {a : ME} {pos p : Pos} {x : Str} {ks : List M}
/-- in a tuple of the module -/
def oInK (neg : Bool) (ks : List M) (x y : M) (s : MS) : Res M := match dictOf s.hp x with
  | some _ => if ks.all flS = true then .ok (.bl neg) s else .stuck
  | none => match datT s.hp x with
    | some d => if (SeqAt.shaped d && SeqAt.shaped (.tuple (ks.map dOf))) = true then .ok (.bl (if neg then !((ks.map dOf).any fun z => z.eqv d) else (ks.map dOf).any fun z => z.eqv d)) s else .stuck
    | none => .stuck
theorem strs_flS : ∀ {ks : List M} {us : List Value}, ks.all flS = true → Vals (ks.map vOf) us → ∀ u ∈ us, ∃ b t, u = .str b t
  | [], _, _, r => fun u hu => by cases r; cases hu
  | k :: ks, us, hf, r => fun u hu => by
    rw [List.all_cons, Bool.and_eq_true] at hf
    cases r with
    | cons r1 r2 =>
      rcases List.mem_cons.mp hu with rfl | hu
      · cases k with
        | str x => obtain ⟨t, rfl⟩ := r1; exact ⟨_, _, rfl⟩
        | _ => cases hf.1
      · exact strs_flS hf.2 r2 u hu
/-- where the tuple stands at the address A -/
def Op2A (C : MC) (A : Addr) (op : Value → Value → Sem Value) (o : M → M → MS → Res M) : Prop :=
  ∀ (pins : List (Addr × Obj)) (sh : Shared) (σ : L2.St) (H : Hp) (g : Gh) (ms : MS) (m1 : M) (x : V) (v : Value) (Q : VK), Inv C.X pins σ H sh → C.rel g ms σ H → RV C.T g H m1 x → RelV x v → Go C C.V1 σ (o m1 (.raw A) ms) g H Q →
    wpAny (model C.X.prog C.X.w) C.X.A (op v (.ref A)) (EP C.X pins σ Q) C.X.xe sh
theorem op_inK {A : Addr} (neg : Bool) (hu : C.X.A.units + 65 < cLine) (hq : ∀ H, SqT C.T.K H A (ks.map vOf)) (hf : ks.all flK = true) : Op2A C A (compareOp (if neg then .NotIn else .In)) (oInK neg ks) := by
  intro pins sh σ H g ms m1 x v Q I r r1 l1 q
  have hq' := hq H
  rw [← C.hK] at hq'
  obtain ⟨its, rv, pl, hz⟩ := I.tuple hq'
  unfold oInK at q
  split at q
  · rename_i kms hd
    by_cases hs : ks.all flS = true
    · rw [if_pos hs] at q
      obtain ⟨n, a, kvs, rfl, rfl, e1, e2, rf⟩ := dictOf_at r hd r1
      obtain rfl : v = .ref a := l1
      obtain ⟨hz2, hs2, ws, kv, o, es, ep, ho, he, hdd, ha, hp, nd⟩ := dk_rd I.hok e2
      have eqs : ∀ y, y ∈ its.toArray → SeqAt.EqAt C.X.A.in1 sh y (.ref a) ((fun _ => false) y) := fun y hy => by
        obtain ⟨b, t, rfl⟩ := strs_flS hs rv y (by simpa using hy)
        exact SeqAt.EqAt.str_dict b t ho he.1 hdd (by show C.X.A.units + 1 < _; omega)
      have an : its.toArray.any (fun _ => false) = false := by simp
      cases neg with
      | true => exact SeqAt.notIn_tupleAt (fun _ => false) pl eqs ⟨.bl _, H, I, rfl, by rw [an]; exact q.ret r (.bl _)⟩
      | false => exact SeqAt.in_tupleAt (fun _ => false) pl eqs ⟨.bl _, H, I, rfl, by rw [an]; exact q.ret r (.bl _)⟩
    · rw [if_neg hs] at q; exact q.elim
  · split at q
    · rename_i d hd
      by_cases hs : (SeqAt.shaped d && SeqAt.shaped (.tuple (ks.map dOf))) = true
      · rw [if_pos hs] at q
        obtain ⟨s1, s2⟩ := Bool.and_eq_true_iff.mp hs
        obtain ⟨as, rx⟩ := Dp.reads I d x v (datT_dp r r1 hd) l1
        obtain ⟨bs, rt⟩ := reads_flK (h := sh.heap) hf rv
        obtain ⟨o, ho, hc, n, hdd⟩ := pl
        have rc : Reads sh.heap (.ref A) (.tuple (ks.map dOf)) bs := .tuple ho hc hdd (by simpa using rt)
        cases neg with
        | true => exact SeqAt.notIn_tuple_reads rc rx (SeqAt.canLay_of_shaped s2) (SeqAt.canLay_of_shaped s1) (room_in_shaped s1 hu) ⟨.bl _, H, I, rfl, q.ret r (.bl _)⟩
        | false => exact SeqAt.in_tuple_reads rc rx (SeqAt.canLay_of_shaped s2) (SeqAt.canLay_of_shaped s1) (room_in_shaped s1 hu) ⟨.bl _, H, I, rfl, q.ret r (.bl _)⟩
      · rw [if_neg hs] at q; exact q.elim
    · exact q.elim
def oInKA (A : Addr) (neg : Bool) (ks : List M) (x y : M) (s : MS) : Res M := match y with
  | .raw B => if B = A then oInK neg ks x y s else .stuck
  | _ => .stuck
theorem op_inKA {A : Addr} (neg : Bool) (hu : C.X.A.units + 65 < cLine) (hq : ∀ H, SqT C.T.K H A (ks.map vOf)) (hf : ks.all flK = true) : Op2Ok C (compareOp (if neg then .NotIn else .In)) (oInKA A neg ks) := by
  intro pins sh σ H g ms m1 m2 x y v u Q I r r1 r2 l1 l2 q
  unfold oInKA at q
  split at q
  · rename_i B
    by_cases e : B = A
    · rw [if_pos e] at q
      subst e
      cases r2
      obtain rfl : u = .ref B := l2
      exact op_inK neg hu hq hf pins sh σ H g ms m1 x v Q I r r1 l1 q
    · rw [if_neg e] at q; exact q.elim
  · exact q.elim
/-- e (not) in a tuple of the module -/
def mInK (neg : Bool) (ks : List M) (a : ME) : ME := fun s => (a s).bind fun x s1 => oInK neg ks x .non s1
theorem mInK_eq {A : Addr} {neg : Bool} : m2 (oInKA A neg ks) a (mc (.raw A)) = mInK neg ks a := by
  funext s
  unfold m2 mInK
  cases a s with
  | ok m s1 =>
    show oInKA A neg ks m (.raw A) s1 = oInK neg ks m .non s1
    unfold oInKA
    dsimp only
    rw [if_pos rfl]
    rfl
  | err e s1 => rfl
  | stuck => rfl
theorem tm_notInK (k : KTup C.X.mg C.T x ks) (hu : C.X.A.units + 65 < cLine) (ha : PMe C ea a) (hg : Gl C.X x := by rfl) (hdb : (x == ("__debug__" : Str)) = false := by decide)
    (hm : behindInMarks .NotIn (.Name x p) = false := by with_unfolding_all rfl) : PMt C (.Compare ea [.NotIn] [.Name x p] pos) (mB (mInK true ks a)) := by
  obtain ⟨A, h1, h2⟩ := k.ex
  have hb : PMe C (.Name x p) (mc (.raw A)) := wkE (pe_glob (v := .ref A) hg h1 rfl hdb) fun σ H Q ⟨g, s, r, q⟩ => q.ret r (.raw _)
  have := tm_cmp (pos := pos) (op_inKA (ks := ks) true hu h2 k.fl) ha hb hm
  rw [mInK_eq] at this
  exact this
/-! ### a walk over it -/
end
section
variable {C : MC}
/-- abs(e) -/
def cAbs (ms : List M) (s : MS) : Res M := match ms with
  | [.int i] => .ok (.int (if i < 0 then -i else i)) s
  | _ => .stuck
theorem ok_abs : CallOk C (fun xs H Q => ∃ i, xs = [V.int i] ∧ Q (.int (if i < 0 then -i else i)) H) cAbs := fun σ H g s ms xs Q r rs h => by
  unfold cAbs at h
  split at h
  · cases rs with
    | cons rv r2 =>
      cases r2
      cases rv
      exact ⟨_, rfl, h.same r (.int _)⟩
  · exact h.elim
end
end Ma
/-! Ma106: a list from its end to its start. -/
namespace Ma
open L2 HT PySem.W PySem.Spec PySem PyProof.Rows
def tRevL (K : PySem.W.Frag) (te : TE) : TE := fun σ H Q => te σ H fun x H1 => ∃ a xs, x = .ref a ∧ SqL K H1 a xs ∧ ∀ p, H1 p = none → Q (.ref p) (upd H1 p (.lst xs.reverse))
theorem pe_revL {X : Cx} {e : Expr} {te : TE} {k : Nat} {p1 p2 p3 pos : Pos} (he : PE X e te) : PE X (.Subscript e (.Slice none none (some (.UnaryOp .USub (.Constant (.int 1) k p1) p2)) p3) pos) (tRevL X.K te) := by
  refine ⟨fun pins sh σ H Q I h => Subscript_ (thn (he.run pins sh σ H _ I h) fun v s1 ⟨x, H1, I1, r1, q1⟩ => ?_)⟩
  obtain ⟨a, xs, rfl, hx, q⟩ := q1
  cases r1
  have hst : PO X (some (.UnaryOp .USub (.Constant (.int 1) k p1) p2)) (tPart (tUn (rU fun i => .int (-i)) (tC (.int 1)))) := po_some (pe_un un_neg pe_int)
  refine wpAny_Slice (thn (po_none.run pins s1 σ H1 (fun o G => o = none ∧ G = H1) I1 ⟨rfl, rfl⟩) fun vl s2 ⟨l, H2, I2, pl, el, e2⟩ => ?_)
  subst el e2
  refine thn (po_none.run pins s2 σ H2 (fun o G => o = none ∧ G = H2) I2 ⟨rfl, rfl⟩) fun vu s3 ⟨uu, H3, I3, pu, eu, e3⟩ => ?_
  subst eu e3
  refine thn (hst.run pins s3 σ H3 (fun o G => o = some (-1) ∧ G = H3) I3 ⟨1, rfl, -1, rfl, rfl, rfl⟩) fun vs s4 ⟨o, H4, I4, ps, eo, e4⟩ => ?_
  subst eo e4
  cases pl; cases pu
  obtain ⟨tk, rfl⟩ : ∃ tk, vs = .int (-1) tk := by cases ps; exact ⟨_, rfl⟩
  have I5 : Inv X pins σ H4 { s4 with heap := s4.heap.push { cls := .type "slice", data := .fields #[.none, .none, .int (-1) tk] } } := I4.kept (t' := s4.toks) fun b ob z => Heap.get?_push_of_some _ z
  obtain ⟨its, r, ht, hz⟩ := I5.list hx
  have hlen := r.length
  show wpAny (model X.prog X.w) X.A (subscriptTail e (.Slice none none (some (.UnaryOp .USub (.Constant (.int 1) k p1) p2)) p3) (.ref a) (.ref s4.heap.objs.size)) (EP X pins σ Q) X.xe { s4 with heap := s4.heap.push { cls := .type "slice", data := .fields #[.none, .none, .int (-1) tk] } }
  refine tail_any (ops := [.ref a, .ref s4.heap.objs.size]) (Heap.IsList.typeIs ht.isList) list_getitem_lookup ?_ (by with_unfolding_all rfl)
  refine wpAny_getItem_list_slice ht.isList (Heap.IsSliceOf.new _ _ _ _) .none .none (.int (-1) tk) (by decide) ?_ (by rw [List.size_toArray]; omega)
  rw [PySem.W.krv_pick]
  refine ⟨.ref _, _, I5.laid (t' := s4.toks) (o := .lst xs.reverse) (fun b ob z => Heap.get?_push_of_some _ z) (Nat.le_refl _) ?_, rfl, q _ (I5.hok.fresh (Nat.le_refl _))⟩
  exact ⟨by rw [List.length_reverse]; exact hz, its.reverse, 0, r.reverse, Heap.get?_push_size _ rfl⟩
section
variable {C : MC} {g g1 : Gh} {H H1 : Hp} {s : MS} {σ : L2.St} {T : Tab} {ex e2 : Expr} {a : ME} {ma : MA} {pos p tpos : Pos}
def mRevL (a : ME) : ME := fun s => (a s).bind fun m s1 => match seqL s1.hp m with
  | some ms => .ok (.lst ms.reverse) s1
  | none => .stuck
theorem em_revL {k : Nat} {p1 p2 p3 : Pos} (ha : PMe C ex a) : PMe C (.Subscript ex (.Slice none none (some (.UnaryOp .USub (.Constant (.int 1) k p1) p2)) p3) pos) (mRevL a) :=
  wkE (pe_revL ha) fun σ H Q h => by
    obtain ⟨g, s, r, q⟩ := rdE_bind h
    refine ⟨g, s, r, q.imp ?_⟩
    rintro x H1 ⟨m, s1, g1, r1, rv, q1⟩
    split at q1
    · rename_i ms hms
      obtain ⟨q, vs, rfl, hq, rs⟩ := seqL_at r1 hms rv
      exact ⟨q, vs, rfl, hq, fun p hp => q1.newL r1 rs.rev hp⟩
    · exact q1.elim
end
end Ma
/-! Ma107: sorted(xs, key=f) and sorted(xs, key=f, reverse=True) by a def of the text whose keys are ints. -/
namespace Ma
open L2 PySem.W PySem.Spec PySem PySem.Calls PyProof.Rows
/-- the keys of some values, one after the other -/
def keyzM (F : Fn) : List M → List Cell → Option (List Int × List Cell)
  | [], hp => some ([], hp)
  | m :: ms, hp => match F [m] hp with
    | .ok (.int n) hp1 => match keyzM F ms hp1 with
      | some (ns, hp2) => some (n :: ns, hp2)
      | none => none
    | _ => none
theorem keyzM_cons {F : Fn} {m : M} {ms : List M} {hp hp2 : List Cell} {ns : List Int} (h : keyzM F (m :: ms) hp = some (ns, hp2)) : ∃ n ns' hp1, ns = n :: ns' ∧ F [m] hp = .ok (.int n) hp1 ∧ keyzM F ms hp1 = some (ns', hp2) := by
  unfold keyzM at h
  split at h
  · rename_i n hp1 e
    split at h
    · rename_i ns' hp2' e2
      cases h
      exact ⟨n, ns', hp1, rfl, e, e2⟩
    · cases h
  · cases h
theorem keyzM_len {F : Fn} : ∀ {ms : List M} {hp hp2 : List Cell} {ns : List Int}, keyzM F ms hp = some (ns, hp2) → ns.length = ms.length
  | [], _, _, _, h => by
    unfold keyzM at h
    cases h
    rfl
  | m :: ms, _, _, _, h => by
    obtain ⟨n, ns', hp1, rfl, _, e⟩ := keyzM_cons h
    rw [List.length_cons, List.length_cons, keyzM_len e]
def sortM (b : Bool) (ms : List M) (ns : List Int) : List M := ((ms.zip ns).mergeSort fun p q => if b = true then decide (q.2 ≤ p.2) else decide (p.2 ≤ q.2)).map (·.1)
section
variable {C : MC} {g : Gh} {H : Hp} {σ : L2.St} {k : Nat} {f : Addr} {F : Fn} {pins : List (Addr × Obj)} {sh s : Shared} {env : List (Option M)} {hp hp' : List Cell}
theorem key_run {m : M} {n : Int} {x : V} {v : Value} (G : FnP C.X.prog C.X.w C.X.mg C.X.base C.T k f F) (hr : RoomG (k + 2) C.X.A) (I : Inv C.X pins σ H sh) (r : C.rel g ⟨env, hp⟩ σ H) (rv : RV C.T g H m x) (l : RelV x v) (hF : F [m] hp = .ok (.int n) hp') :
    wpAny (model C.X.prog C.X.w) C.X.A.in1.in1 (call (.ref f) [v]) (fun u s' => ∃ t g' H', u = .int n t ∧ Mono g H g' H' ∧ Inv C.X pins σ H' s' ∧ C.rel g' ⟨env, hp'⟩ σ H') (fun _ _ => False) sh := by
  have e0 : Env0 C.X.prog C.X.w C.T.K C.X.mg C.X.base C.X.A C.X.stack sh H := C.hK ▸ I.env0
  let Q : VK := fun w H' => w = V.int n ∧ ∃ g', Mono g H g' H' ∧ C.rel g' ⟨env, hp'⟩ σ H'
  have go : GoF C.T g H (F [m] hp) Q (fun _ _ _ => False) := by
    rw [hF]
    intro g' H' w rl rw'
    cases rw'
    exact ⟨rfl, g', rl.m0, r.env rl.m0 (r.h.comp rl)⟩
  refine wpAny_call (codeAny_mono (G.run C.X.A.in1.in1 C.X.stack sh H [v] [x] Q (fun _ _ _ => False) hr.in1.in1 e0.in1.in1 (.cons l .nil) ⟨g, hp, [m], r.h.self, .cons rv .nil, go⟩) fun res s' hq => ?_)
  cases res with
  | error e =>
    obtain ⟨_, _, _, _, _, _, _, _, _, _, _, _, z⟩ := hq
    exact z.elim
  | ok fl =>
    cases fl with
    | ret u =>
      obtain ⟨w, H', J, lw, rfl, g', mo, r'⟩ := I.after hq
      obtain ⟨t, rfl⟩ := lw
      exact ⟨t, g', H', rfl, mo, J, r'⟩
    | next => exact hq.elim
    | brk => exact hq.elim
    | cont => exact hq.elim
theorem FpOk.at {H H' : Hp} {X : Cx} {b : Addr} (f : FpOk X pins H b) (h : H' b = none) : FpOk X pins H' b := ⟨h, f.2⟩
theorem each_out {T : Tab} : ∀ {out : List Value} {qs : List (M × Int)}, EachIs (fun v (p : M × Int) => ∃ x, RelV x v ∧ RV T g H p.1 x) out qs → ∃ xs, Vals xs out ∧ RVs T g H (qs.map (·.1)) xs
  | [], _, .nil => ⟨[], .nil, .nil⟩
  | v :: out, q :: qs, .cons ⟨x, l, r⟩ t => by
    obtain ⟨xs, ls, rs⟩ := each_out t
    exact ⟨x :: xs, .cons l ls, .cons r rs⟩
theorem each_in {T : Tab} : ∀ {ms : List M} {ys : List V} {its : List Value} {ns : List Int}, RVs T g H ms ys → Vals ys its → ns.length = ms.length → EachIs (fun v (p : M × Int) => ∃ x, RelV x v ∧ RV T g H p.1 x) its (ms.zip ns)
  | [], _, _, _, .nil, .nil, _ => .nil
  | m :: ms, _, _, [], .cons r rs, .cons l ls, h => by cases h
  | m :: ms, _, _, n :: ns, .cons r rs, .cons l ls, h => .cons ⟨_, l, r⟩ (each_in rs ls (by simpa using h))
theorem each_ints {h : Heap} : ∀ {us : List Value} {ns : List Int}, EachIs (fun u (n : Int) => ∃ t, u = Value.int n t) us ns → EachIs (fun v d => ∃ as, Reads h v d as) us (ns.map PyData.int)
  | [], [], .nil => .nil
  | _ :: _, _ :: _, .cons q e => by
    obtain ⟨t, rfl⟩ := q
    exact .cons ⟨[], .int _ _⟩ (each_ints e)
theorem zip_snd : ∀ {ms : List M} {ns : List Int}, ns.length = ms.length → (ms.zip ns).map (fun p => PyData.int p.2) = ns.map PyData.int
  | [], [], _ => rfl
  | m :: ms, n :: ns, h => by
    show PyData.int n :: (ms.zip ns).map _ = _
    rw [zip_snd (by simpa using h)]
    rfl
  | [], n :: ns, h => by cases h
  | m :: ms, [], h => by cases h
theorem sortM_eq {b : Bool} {ms : List M} {ns : List Int} : sortM b ms ns = ((ms.zip ns).mergeSort (dataLe b fun p => .int p.2)).map (·.1) := by
  cases b with
  | false => rw [dataLe_int]; rfl
  | true => rw [dataGe_int]; rfl
theorem sortK_run {l : Addr} {ys : List V} {ms : List M} {ns : List Int} {b : Bool} {kw : List (Str × Value)} {Q : VK} (G : FnP C.X.prog C.X.w C.X.mg C.X.base C.T k f F) (hr : RoomG (k + 2) C.X.A)
    (I : Inv C.X pins σ H s) (r : C.rel g ⟨env, hp⟩ σ H) (hs : SqL C.X.K H l ys) (rs : RVs C.T g H ms ys) (hk : keyzM F ms hp = some (ns, hp'))
    (ha1 : argsOk "sorted" ⟨[.ref l], kw⟩) (ha2 : ∀ x, argsOk "list.sort" ⟨[.ref x], kw⟩) (ht : ∀ x, Builtin.«list.sort» ⟨[.ref x], kw⟩ = ksk_tree x (.ref f) b)
    (h : Go C C.V1 σ (.ok (.lst (sortM b ms ns)) ⟨env, hp'⟩) g H Q) : wpAny (model C.X.prog C.X.w) C.X.A (call (.builtin "sorted") [.ref l] kw) (EP C.X pins σ Q) C.X.xe s := by
  obtain ⟨its, rv, pl, hz⟩ := I.list hs
  have hlen := rv.length
  have nlen := keyzM_len hk
  have mlen := rs.length
  have hz' : its.length ≤ sizeLine := by rw [← hlen]; exact hz
  refine sorted_of_sort (vs := its) pl.isList hz' ha1 ha2 fun E' => ?_
  rw [ht]
  have I0 : Inv C.X pins σ H { s with heap := copyHeap s.heap its } := I.kept (t' := s.toks) fun _ _ => copyHeap_old
  have hD := copyHeap_at s.heap its
  generalize hDe : s.heap.objs.size + 1 = D at hD ⊢
  have fD : FpOk C.X pins H D := I.fpOk (by omega) (I.hok.fresh (by omega))
  generalize copyHeap s.heap its = h0 at I0 hD
  obtain ⟨e1, ho1⟩ : ∃ e1, (h0.update D (Obj.mapSeq fun _ => (#[] : Array Value))).get? D = some (seqObj "list" #[] e1) := ⟨_, get?_update_seq hD fun _ => #[]⟩
  have s1 := Heap.SameBut.update h0 D (Obj.mapSeq fun _ => (#[] : Array Value))
  unfold ksk_tree
  refine wpAny_bind (listItems_at hD rfl ?_)
  refine wpAny_bind (listUpdate_at hD rfl ?_ (by rw [List.size_toArray]; exact hz') (Nat.zero_le _))
  refine wpAny_bind (seqEpoch_at ho1 rfl ?_)
  refine wpAny_bind (wpAny_newTuple ?_ (by show its.length ≤ _; exact hz'))
  refine wpAny_bind (wpAny_newList ?_ (Nat.zero_le _))
  refine wpAny_holding ?_
  have kS0 : h0.objs.size ≤ ((h0.update D (Obj.mapSeq fun _ => (#[] : Array Value))).push (seqObj "tuple" its.toArray 0)).objs.size := by rw [size_push', Heap.size_update]; exact Nat.le_succ _
  have fK0 : FpOk C.X pins H ((h0.update D (Obj.mapSeq fun _ => (#[] : Array Value))).push (seqObj "tuple" its.toArray 0)).objs.size := I0.fpOk kS0 (I0.hok.fresh kS0)
  have hK0 : (((h0.update D (Obj.mapSeq fun _ => (#[] : Array Value))).push (seqObj "tuple" its.toArray 0)).push (seqObj "list" #[] 0)).get? ((h0.update D (Obj.mapSeq fun _ => (#[] : Array Value))).push (seqObj "tuple" its.toArray 0)).objs.size = some (seqObj "list" #[] 0) := Heap.get?_push_size _ rfl
  have hDK : D < ((h0.update D (Obj.mapSeq fun _ => (#[] : Array Value))).push (seqObj "tuple" its.toArray 0)).objs.size := Nat.lt_of_lt_of_le (Heap.lt_size hD) kS0
  have hD2 : (((h0.update D (Obj.mapSeq fun _ => (#[] : Array Value))).push (seqObj "tuple" its.toArray 0)).push (seqObj "list" #[] 0)).get? D = some (seqObj "list" #[] e1) := Heap.get?_push_of_some _ (Heap.get?_push_of_some _ ho1)
  have I3 : Inv C.X pins σ H { s with heap := ((h0.update D (Obj.mapSeq fun _ => (#[] : Array Value))).push (seqObj "tuple" its.toArray 0)).push (seqObj "list" #[] 0) } :=
    Inv.turnedL (s := { s with heap := h0 }) (t' := s.toks) (ch := [D]) I0 (fun c o hc q => Heap.get?_push_of_some _ (Heap.get?_push_of_some _ ((s1.2 c (fun z => hc (by simp [z]))).trans q))) (fun c hc => by
      have e : c = D := by simpa using hc
      subst e
      exact fD)
  generalize ((h0.update D (Obj.mapSeq fun _ => (#[] : Array Value))).push (seqObj "tuple" its.toArray 0)).objs.size = kS at fK0 hK0 hDK ⊢
  generalize ((h0.update D (Obj.mapSeq fun _ => (#[] : Array Value))).push (seqObj "tuple" its.toArray 0)).push (seqObj "list" #[] 0) = h3 at hK0 hD2 I3
  have hKD : kS ≠ D := by omega
  unfold ksk_rest
  refine wpAny_bind (wpAny_rule ?_)
  first
    | rw [List.forIn_toArray]
    | (rw [← Array.forIn_toList]; simp only [List.toList_toArray])
    | rw [← Array.forIn_toList]
  refine wpAny_bind (ksk_fold (fun i s' => ∃ g1 H1 hp1 kA e, Mono g H g1 H1 ∧ Inv C.X pins σ H1 s' ∧ C.rel g1 ⟨env, hp1⟩ σ H1 ∧ FpOk C.X pins H1 kS ∧ FpOk C.X pins H1 D ∧ s'.heap.get? kS = some (seqObj "list" kA e) ∧ s'.heap.get? D = some (seqObj "list" #[] e1) ∧
      EachIs (fun u (n : Int) => ∃ t, u = Value.int n t) kA.toList (ns.take i) ∧ keyzM F (ms.drop i) hp1 = some (ns.drop i, hp')) its 0 _
    ⟨g, H, hp, #[], 0, Mono.refl _ _, I3, r, fK0, fD, hK0, hD2, by rw [List.take_zero]; exact EachIs.nil, by rw [List.drop_zero, List.drop_zero]; exact hk⟩ ?step ?done)
  case step =>
    rintro j v s' hv ⟨g1, H1, hp1, kA, e, mo, I1, r1, fK, fD1, hK, hD1, ek, hk1⟩
    simp only [Nat.zero_add] at ek hk1 ⊢
    obtain ⟨y, hy, ly⟩ : ∃ y, ys[j]? = some y ∧ RelV y v := by
      have hj : j < ys.length := by rw [hlen]; exact (List.getElem?_eq_some_iff.mp hv).1
      obtain ⟨u, q1, q2⟩ := Vals.get rv (List.getElem?_eq_getElem hj)
      rw [hv] at q1
      cases q1
      exact ⟨_, List.getElem?_eq_getElem hj, q2⟩
    have hjm : j < ms.length := by rw [mlen]; exact (List.getElem?_eq_some_iff.mp hy).1
    have em := List.getElem?_eq_getElem hjm
    obtain ⟨y', hy', rm⟩ := rs.get em
    rw [hy] at hy'
    cases hy'
    rw [List.drop_eq_getElem_cons hjm] at hk1
    obtain ⟨n, ns', hp2, en, eF, ek2⟩ := keyzM_cons hk1
    have ns1 : ns.drop (j + 1) = ns' := by rw [← List.drop_drop, en]; rfl
    have nsj : ns[j]? = some n := by
      have := congrArg (·[0]?) en
      simpa using this
    have ho : ∀ c ∈ [kS, D], ∃ o, s'.heap.get? c = some o ∧ ∀ v, o.data ≠ .cell v := fun c hc => by
      rcases List.mem_cons.mp hc with rfl | hc
      · exact ⟨_, hK, fun v z => by cases z⟩
      · rw [List.mem_singleton.mp hc]
        exact ⟨_, hD1, fun v z => by cases z⟩
    have IP := I1.pinned (fp := [kS, D]) (fun c hc => by
      rcases List.mem_cons.mp hc with rfl | hc
      · exact fK
      · rw [List.mem_singleton.mp hc]; exact fD1) ho
    refine wpAny_bind (wpAny_attempt (wpAny_mono (key_run G hr IP r1 (rm.mono mo) ly eF) (fun u s2 he => ?_) fun _ _ hF => hF.elim))
    obtain ⟨t, g2, H2, rfl, mo2, I2p, r2⟩ := he
    have I2 := I2p.unpinned
    have pK := I2p.pin (kS, seqObj "list" kA e) (List.mem_append_right _ (List.mem_append_right _ (mem_pinsAt (by simp) hK)))
    have pD := I2p.pin (D, seqObj "list" #[] e1) (List.mem_append_right _ (List.mem_append_right _ (mem_pinsAt (by simp) hD1)))
    have fK2 := FpOk.at fK pK.2.1
    have fD2 := FpOk.at fD1 pD.2.1
    have s2' := Heap.SameBut.update s2.heap kS (Obj.mapSeq (·.push (Value.int n t)))
    obtain ⟨c2, hc2⟩ : ∃ c2, (s2.heap.update kS (Obj.mapSeq (·.push (Value.int n t)))).get? kS = some (seqObj "list" (kA.push (.int n t)) c2) := ⟨_, get?_update_seq pK.1 (·.push _)⟩
    have kz : kA.size ≤ its.length := by
      have h1 := ek.length
      rw [Array.length_toList, List.length_take] at h1
      omega
    try dsimp only
    refine wpAny_bind (listUpdate_at pK.1 rfl ?_ (Nat.le_trans kz hz') (Nat.le_trans (Nat.le_of_eq (Array.size_push ..)) (Nat.succ_le_succ (Nat.le_trans kz hz'))))
    refine wpAny_pure ⟨rfl, g2, H2, hp2, kA.push (.int n t), c2, mo.trans mo2, ?_, r2, fK2, fD2, hc2, (s2'.2 D hKD.symm).trans pD.1, ?_, ?_⟩
    · exact Inv.turnedL (t' := s2.toks) (ch := [kS]) I2 (fun c o hc q => (s2'.2 c (fun z => hc (by simp [z]))).trans q) (fun c hc => by
        have e : c = kS := by simpa using hc
        subst e
        exact fK2)
    · have e3 : ns.take (j + 1) = ns.take j ++ [n] := by rw [List.take_add_one, nsj]; rfl
      have e4 : (kA.push (Value.int n t)).toList = kA.toList ++ [.int n t] := by simp
      rw [e3, e4]
      exact each_snoc (R := fun u (n : Int) => ∃ t, u = Value.int n t) ⟨t, rfl⟩ ek
    · rw [ns1]; exact ek2
  case done =>
    rintro s' ⟨g1, H1, hp1, kA, e, mo, I1, r1, fK, fD1, hK, hD1, ek, hk1⟩
    rw [Nat.zero_add] at ek hk1
    have em : ms.drop its.length = [] := List.drop_of_length_le (by omega)
    have en : ns.take its.length = ns := List.take_of_length_le (by omega)
    rw [em] at hk1
    rw [en] at ek
    have ehp : hp1 = hp' := by
      simp only [keyzM, Option.some.injEq, Prod.mk.injEq] at hk1
      exact hk1.2
    subst ehp
    have ekR := each_ints (h := s'.heap) ek
    have ksz : kA.size = its.length := by
      have h1 := ek.length
      rw [Array.length_toList] at h1
      omega
    have al : AllAlike (ns.map PyData.int) := AllAlike.of fun _ _ => by simp [alike]
    have sk : Sortable (ns.map PyData.int) := Sortable.others fun _ => ⟨by simp, fun _ => by simp⟩
    obtain ⟨G1, hG1, hG2⟩ := restrict s'.heap (fun c => decide (c ≠ kS))
    refine wpAny_bind (listItems_at hK rfl ?_)
    have un : ∀ d, d ∈ ns.map PyData.int → C.X.A.in1.in1.units + d.depth < cLine := fun d hd => by
      obtain ⟨i, _, rfl⟩ := List.mem_map.mp hd
      have := hr.in1.in1.toRoom.un
      show C.X.A.in1.in1.units + 0 < cLine
      omega
    refine keyH_end (κ := dataKind s'.heap (ns.map PyData.int)) (h₁ := G1) (fun c o hc q => ?_) (hG2 kS (by simp)) hK hD1 hKD (SortsAt.data ekR al sk un) ksz hz' fun h4 tk c4 k4 n4 => ⟨rfl, ?_⟩
    · by_cases z : c = kS
      · rw [z, hG2 kS (by simp)] at q; cases q
      · rw [← hG1 c (by simp [z])]; exact q
    have I4 : Inv C.X pins σ H1 { s' with heap := h4, toks := tk } := Inv.turnedL (ch := [kS, D]) I1 (fun c o hc q => k4 c o (fun z => hc (by simp [z])) (by
      rw [hG1 c (by
        have : c ≠ kS := fun z => hc (by simp [z])
        simp [this])]
      exact q)) (fun c hc => by
        rcases List.mem_cons.mp hc with rfl | hc
        · exact fK
        · rw [List.mem_singleton.mp hc]; exact fD1)
    have eo : EachIs (fun v (p : M × Int) => ∃ x, RelV x v ∧ RV C.T g1 H1 p.1 x) (sortVals (dataKind s'.heap (ns.map PyData.int)) b kA.toList its) ((ms.zip ns).mergeSort (dataLe b fun p => .int p.2)) := by
      refine keyedOut_each (fun p : M × Int => .int p.2) ⟨s'.heap, kA.toList, ?_, ?_, ?_⟩ (each_in (rs.mono mo) rv nlen)
      · rw [zip_snd nlen]; exact al
      · rw [zip_snd nlen]
      · rw [zip_snd nlen]; exact ekR
    obtain ⟨xs, lx, rx⟩ := each_out eo
    rw [← sortM_eq] at rx
    have xl : xs.length ≤ sizeLine := by
      have h1 := rx.length
      have h2 : (sortM b ms ns).length = ms.length := by
        unfold sortM
        rw [List.length_map, List.length_mergeSort, List.length_zip]
        omega
      omega
    have I5 := Inv.take (t' := tk) (o := .lst xs) I4 (it := D) (fun c o _ q => q) fD1 ⟨xl, _, c4, lx, n4⟩
    exact ⟨.ref D, upd H1 D (.lst xs), I5, rfl, (Go.later mo h).newL r1 rx fD1.1⟩
/-! ### the expression -/
def mSrtK (b : Bool) (F : Fn) (a : ME) : ME := fun s => (a s).bind fun m s1 => match lstOf s1.hp m with
  | some ms => match keyzM F ms s1.hp with
    | some (ns, hp2) => .ok (.lst (sortM b ms ns)) ⟨s1.env, hp2⟩
    | none => .stuck
  | none => .stuck
theorem as1 (a v : Value) : argsOk "sorted" ⟨[a], [(Str.ofString "key", v)]⟩ := by unfold argsOk; kernel_rfl
theorem as2 (a v u : Value) : argsOk "sorted" ⟨[a], [(Str.ofString "key", v), (Str.ofString "reverse", u)]⟩ := by unfold argsOk; kernel_rfl
theorem al1 (a v : Value) : argsOk "list.sort" ⟨[a], [(Str.ofString "key", v)]⟩ := by unfold argsOk; kernel_rfl
theorem al2 (a v u : Value) : argsOk "list.sort" ⟨[a], [(Str.ofString "key", v), (Str.ofString "reverse", u)]⟩ := by unfold argsOk; kernel_rfl
variable {ex : Expr} {a : ME} {fn : Str} {p p2 p3 pos kp kp2 : Pos} {j : Nat} {b : Bool}
theorem sortK_any {m : M} {s1 : MS} {kw : List (Str × Value)} {Q : VK} {x : V} {u : Value} (G : FnP C.X.prog C.X.w C.X.mg C.X.base C.T k f F) (hr : RoomG (k + 2) C.X.A) (I : Inv C.X pins σ H sh) (r : C.rel g s1 σ H) (rv : RV C.T g H m x) (lu : RelV x u)
    (q : Go C C.V1 σ (match lstOf s1.hp m with | some ms => (match keyzM F ms s1.hp with | some (ns, hp2) => Res.ok (.lst (sortM b ms ns)) ⟨s1.env, hp2⟩ | none => .stuck) | none => .stuck) g H Q)
    (ha1 : ∀ x, argsOk "sorted" ⟨[x], kw⟩) (ha2 : ∀ x, argsOk "list.sort" ⟨[x], kw⟩) (ht : ∀ x, Builtin.«list.sort» ⟨[.ref x], kw⟩ = ksk_tree x (.ref f) b) :
    wpAny (model C.X.prog C.X.w) C.X.A (call (.builtin "sorted") [u] kw) (EP C.X pins σ Q) C.X.xe sh := by
  split at q
  · rename_i ms hl
    split at q
    · rename_i ns hp2 hk
      obtain ⟨l, vs, rfl, e, rs⟩ := lstOf_at r hl rv
      obtain rfl : u = .ref l := lu
      exact sortK_run (env := s1.env) (hp := s1.hp) G hr I r (SqL.of e) rs hk (ha1 _) (fun x => ha2 _) ht q
    · exact q.elim
  · exact q.elim
theorem em_sortK (G : Kn C.X.prog C.X.w C.X.mg C.X.base C.T fn k F) (hr : RoomG (k + 2) C.X.A) (hm1 : C.X.mg "sorted" = none) (ha : PMe C ex a) (hg1 : Gl C.X "sorted" := by rfl) (hg2 : Gl C.X fn := by rfl) (hdb : (fn == ("__debug__" : Str)) = false := by decide)
    (he1 : starEach [ex] C.X.env = (false, eval ex C.X.env) :: starEach [] C.X.env := by rfl)
    (he : backTo pos (starEach [ex] C.X.env) = (false, eval ex C.X.env) :: backTo pos (starEach [] C.X.env) := by rfl) (hpl : (backTo pos (starEach [ex] C.X.env)).any (·.1) = false := by rfl)
    (hall : (backToKw pos (keywordEach [⟨some "key", .Name fn p2, kp⟩] C.X.env)).all (·.1.isSome) = true := by rfl) (hnone : (backToKw pos (keywordEach [⟨some "key", .Name fn p2, kp⟩] C.X.env)).any (·.1.isNone) = false := by rfl)
    (hks : (backToKw pos (keywordEach [⟨some "key", .Name fn p2, kp⟩] C.X.env)).filterMap (·.1) = [Str.ofString "key"] := by rfl)
    (hv1 : bootBuiltins "sorted" = some (.builtin "sorted") := by first | rfl | decide +kernel) :
    PMe C (.Call (.Name "sorted" p) [ex] [⟨some "key", .Name fn p2, kp⟩] pos) (mSrtK false F a) := by
  obtain ⟨f, G, hm, hkp⟩ := G.ex
  refine ⟨fun pins s σ H Q I h => ?_⟩
  refine wpAny_Call_Name_kw (ld_blt I hg1 hm1 hv1 ?_)
  refine PyProof.Rows.callWith_kw (thn ((pa_cons ha pa_nil he1).run pos pins s σ H (fun vs H1 => ∃ x, vs = [x] ∧ ∃ m s1 g1, C.rel g1 s1 σ H1 ∧ RV C.T g1 H1 m x ∧ Go C C.V1 σ (match lstOf s1.hp m with | some ms => (match keyzM F ms s1.hp with | some (ns, hp2) => Res.ok (.lst (sortM false ms ns)) ⟨s1.env, hp2⟩ | none => .stuck) | none => .stuck) g1 H1 Q) I ?_) fun us s1 ⟨vs, H1, I1, r1, q1⟩ => ?_) he hpl hall hnone
  · have h' := rdE_bind h
    obtain ⟨g, s0, r, q⟩ := h'
    refine ⟨g, s0, r, q.imp ?_⟩
    rintro v H1 ⟨m, s1, g1, r1, rv, q1⟩
    exact ⟨v, rfl, m, s1, g1, r1, rv, q1⟩
  obtain ⟨x, rfl, m, s2, g1, r2, rv, q2⟩ := q1
  obtain ⟨u, rfl, lu⟩ := r1.one
  refine thn ((pk_cons (nm := some "key") (kpos := kp) (pe_glob (pos := p2) (v := .ref f) hg2 hm rfl hdb) pk_nil).run pos pins s1 σ H1 (fun zs H2 => zs = [V.ref f] ∧ H2 = H1) I1 ⟨rfl, rfl⟩) fun ws s3 ⟨zs, H2, I2, r3, e3, e4⟩ => ?_
  subst e3 e4
  obtain ⟨w, rfl, lw⟩ := r3.one
  obtain rfl : w = .ref f := lw
  rw [hks]
  exact sortK_any G hr I2 r2 rv lu q2 (fun x => as1 _ _) (fun x => al1 _ _) fun x => ksk_t1 _ _
theorem em_sortKR (G : Kn C.X.prog C.X.w C.X.mg C.X.base C.T fn k F) (hr : RoomG (k + 2) C.X.A) (hm1 : C.X.mg "sorted" = none) (ha : PMe C ex a) (hg1 : Gl C.X "sorted" := by rfl) (hg2 : Gl C.X fn := by rfl) (hdb : (fn == ("__debug__" : Str)) = false := by decide)
    (he1 : starEach [ex] C.X.env = (false, eval ex C.X.env) :: starEach [] C.X.env := by rfl)
    (he : backTo pos (starEach [ex] C.X.env) = (false, eval ex C.X.env) :: backTo pos (starEach [] C.X.env) := by rfl) (hpl : (backTo pos (starEach [ex] C.X.env)).any (·.1) = false := by rfl)
    (hall : (backToKw pos (keywordEach [⟨some "key", .Name fn p2, kp⟩, ⟨some "reverse", .Constant (.bool true) j p3, kp2⟩] C.X.env)).all (·.1.isSome) = true := by rfl) (hnone : (backToKw pos (keywordEach [⟨some "key", .Name fn p2, kp⟩, ⟨some "reverse", .Constant (.bool true) j p3, kp2⟩] C.X.env)).any (·.1.isNone) = false := by rfl)
    (hks : (backToKw pos (keywordEach [⟨some "key", .Name fn p2, kp⟩, ⟨some "reverse", .Constant (.bool true) j p3, kp2⟩] C.X.env)).filterMap (·.1) = [Str.ofString "key", Str.ofString "reverse"] := by rfl)
    (hv1 : bootBuiltins "sorted" = some (.builtin "sorted") := by first | rfl | decide +kernel) :
    PMe C (.Call (.Name "sorted" p) [ex] [⟨some "key", .Name fn p2, kp⟩, ⟨some "reverse", .Constant (.bool true) j p3, kp2⟩] pos) (mSrtK true F a) := by
  obtain ⟨f, G, hm, hkp⟩ := G.ex
  refine ⟨fun pins s σ H Q I h => ?_⟩
  refine wpAny_Call_Name_kw (ld_blt I hg1 hm1 hv1 ?_)
  refine PyProof.Rows.callWith_kw (thn ((pa_cons ha pa_nil he1).run pos pins s σ H (fun vs H1 => ∃ x, vs = [x] ∧ ∃ m s1 g1, C.rel g1 s1 σ H1 ∧ RV C.T g1 H1 m x ∧ Go C C.V1 σ (match lstOf s1.hp m with | some ms => (match keyzM F ms s1.hp with | some (ns, hp2) => Res.ok (.lst (sortM true ms ns)) ⟨s1.env, hp2⟩ | none => .stuck) | none => .stuck) g1 H1 Q) I ?_) fun us s1 ⟨vs, H1, I1, r1, q1⟩ => ?_) he hpl hall hnone
  · have h' := rdE_bind h
    obtain ⟨g, s0, r, q⟩ := h'
    refine ⟨g, s0, r, q.imp ?_⟩
    rintro v H1 ⟨m, s1, g1, r1, rv, q1⟩
    exact ⟨v, rfl, m, s1, g1, r1, rv, q1⟩
  obtain ⟨x, rfl, m, s2, g1, r2, rv, q2⟩ := q1
  obtain ⟨u, rfl, lu⟩ := r1.one
  refine thn ((pk_cons (nm := some "key") (kpos := kp) (pe_glob (pos := p2) (v := .ref f) hg2 hm rfl hdb) (pk_cons (nm := some "reverse") (kpos := kp2) pe_bl pk_nil)).run pos pins s1 σ H1 (fun zs H2 => zs = [V.ref f, V.bl true] ∧ H2 = H1) I1 ⟨rfl, rfl⟩) fun ws s3 ⟨zs, H2, I2, r3, e3, e4⟩ => ?_
  subst e3 e4
  obtain ⟨w, w2, rfl, lw, lw2⟩ : ∃ w w2, ws = [w, w2] ∧ RelV (.ref f) w ∧ RelV (.bl true) w2 := by
    cases r3 with
    | cons a b => cases b with
      | cons c d => cases d; exact ⟨_, _, rfl, a, c⟩
  obtain rfl : w = .ref f := lw
  obtain rfl : w2 = .bool true := lw2
  rw [hks]
  exact sortK_any G hr I2 r2 rv lu q2 (fun x => as2 _ _ _) (fun x => al2 _ _ _) fun x => ksk_t2 _ _ _
/-! ### key=abs -/
def absI (i : Int) : Int := if i < 0 then -i else i
end
end Ma
/-! Ma108: i // j of either sign; in, not in of a tuple of data. -/
namespace Ma
open L2 PySem.Spec PySem PyProof.Rows
def CDivS (_ j : Int) : Prop := j ≠ 0 ∧ j.natAbs < 18446744073709551616
theorem op_fdivS {X : Cx} : OpR X (binaryOp .FloorDiv) (rI CDivS fun i j => .int (i.fdiv j)) := opI fun _ j _ _ _ _ _ hc q => floordiv_int hc.1 q (.inl (PyProof.noPylong_of_log2 (by
  have h : j.natAbs.log2 < 64 := PySem.Flt.log2_lt_of (n := j.natAbs) (k := 64) (by decide) (by have := hc.2; omega)
  omega)))
def oFdv := oInt (fun _ j => decide (j ≠ 0 ∧ j.natAbs < 18446744073709551616)) fun i j => .int (i.fdiv j)
theorem ok_fdv {C : MC} : Op2Ok C (binaryOp .FloorDiv) oFdv := Op2Ok.of op_fdivS fun σ H g s m1 m2 x y Q r r1 r2 h => by
  obtain ⟨i, j, rfl, rfl, hc, q⟩ := oInt_at h r1 r2
  have hc := of_decide_eq_true hc
  exact ⟨i, j, rfl, rfl, hc, q.same r (.int _)⟩
end Ma
namespace Lw
open L2 Ma PySem.Spec PySem PyProof.Rows
structure Bt (P : Program) (w : World) (mg : Str → Option Value) (T : Tab) : Prop where
  b_ValueError : mg "ValueError" = none
  b_abs : mg "abs" = none
  b_all : mg "all" = none
  b_bool : mg "bool" = none
  b_dict : mg "dict" = none
  b_enumerate : mg "enumerate" = none
  b_int : mg "int" = none
  b_isinstance : mg "isinstance" = none
  b_len : mg "len" = none
  b_list : mg "list" = none
  b_max : mg "max" = none
  b_min : mg "min" = none
  b_range : mg "range" = none
  b_repr : mg "repr" = none
  b_set : mg "set" = none
  b_sorted : mg "sorted" = none
  b_tuple : mg "tuple" = none
  c_KEY_BOUND : ∃ t, mg "KEY_BOUND" = some (.int 1000000000000000000000000000000 t)
  c_MOST_ROWS : ∃ t, mg "MOST_ROWS" = some (.int 40 t)
  c_SMALL_BOUND : ∃ t, mg "SMALL_BOUND" = some (.int 1000000000000000 t)
  kc_Collision : KnC mg T "Collision"
  kc_Competing : KnC mg T "Competing"
  kc_Formula : KnC mg T "Formula"
  kc_Held : KnC mg T "Held"
  kc_Impossible : KnC mg T "Impossible"
  kc_Missing : KnC mg T "Missing"
  kc_NotBound : KnC mg T "NotBound"
  kc_NotBytes : KnC mg T "NotBytes"
  kc_NotDeed : KnC mg T "NotDeed"
  kc_NotFormula : KnC mg T "NotFormula"
  kc_NotInteger : KnC mg T "NotInteger"
  kc_NotKey : KnC mg T "NotKey"
  kc_NotKeys : KnC mg T "NotKeys"
  kc_NotLine : KnC mg T "NotLine"
  kc_NotOrder : KnC mg T "NotOrder"
  kc_NotRow : KnC mg T "NotRow"
  kc_NotRows : KnC mg T "NotRows"
  kc_NotRule : KnC mg T "NotRule"
  kc_NotScan : KnC mg T "NotScan"
  kc_NotTable : KnC mg T "NotTable"
  kc_NotText : KnC mg T "NotText"
  kc_NothingDone : KnC mg T "NothingDone"
  kc_Ringed : KnC mg T "Ringed"
  kc_TooLarge : KnC mg T "TooLarge"
  kc_TooMany : KnC mg T "TooMany"
  kc_Twice : KnC mg T "Twice"
  ke_NotBound : KnE mg T "NotBound"
  ke_NotFormula : KnE mg T "NotFormula"
  ke_NotInteger : KnE mg T "NotInteger"
  ke_NotKeys : KnE mg T "NotKeys"
  ke_NotRow : KnE mg T "NotRow"
  ke_NotScan : KnE mg T "NotScan"
  ke_TooLarge : KnE mg T "TooLarge"
  ki_TooMany : KnI P w mg T "TooMany" ["many", "most"] [.inr 0, .inl " are too many, ", .inr 1, .inl " is the most"]
  ki_Twice : KnI P w mg T "Twice" ["key"] [.inl "two rows have the key ", .inr 0]
  f__new_keys : FldK T ["Table"] [] "_new_keys"
  f__plus : FldK T ["Formula"] [] "_plus"
  f__times : FldK T ["Formula"] [] "_times"
  fc_Formula__plus : FldC T "Formula" "_plus"
  fc_Formula__times : FldC T "Formula" "_times"
  fc_Table__new_keys : FldC T "Table" "_new_keys"
  kt_SCANS : KTup mg T "SCANS" [.str "up", .str "down", .str "far", .str "near"]
  ra_NotBound : RaiF T "NotBound"
  ra_NotFormula : RaiF T "NotFormula"
  ra_NotInteger : RaiF T "NotInteger"
  ra_NotKeys : RaiF T "NotKeys"
  ra_NotRow : RaiF T "NotRow"
  ra_NotScan : RaiF T "NotScan"
  ra_TooLarge : RaiF T "TooLarge"
  ra_TooMany : RaiF T "TooMany"
  ra_Twice : RaiF T "Twice"
  sf : SaidF T mg "RowError" (["NotRow", "NotTable", "NotKey", "NotKeys", "NotRows", "NotOrder", "NotRule", "NotInteger", "NotScan", "NotBound", "NotFormula", "NotDeed", "NotText", "NotBytes", "NotLine", "Missing", "Impossible", "TooLarge", "NothingDone", "Twice", "Held", "TooMany", "Competing", "Ringed", "Collision"]) SFS
  x : Cx0 T IS XS isi
theorem sc__law_cell_at : FnScope ["_law_script", "_law_k"] ["_law_script", "_law_k"] (defScope s__law_cell_at) := ⟨rfl, rfl, rfl, by decide +kernel, rfl, by decide +kernel, by decide +kernel⟩
def m__law_cell_at : MStm := (sSeq (sIf (mB (m2 oLt (mv 1) (mCall (mCons (mv 0) mNil) (cLenD cLen)))) (sRet (m2 (oIxD oIx) (mv 0) (mv 1))) sNx) (sRet (mc (.int 0))))
def F__law_cell_at : Fn := posF 2 [] (bodyF 2 2 m__law_cell_at)
theorem d__law_cell_at {P : Program} {w : World} {mg : Str → Option Value} {base : Heap} {T : Tab} (B : Bt P w mg T)  {f : Addr} {cdv : Value} {A : Around} {outer : List Env} {s : Shared} {H : Hp} {E : XK} {g : Gh}  (hr : RoomG 0 (A.deeper (envOfC "_law_cell_at" (defScope s__law_cell_at) s.heap.objs.size f cdv))) :
    PMb (cAt P w mg base T ["_law_script", "_law_k"] "_law_cell_at" (defScope s__law_cell_at) f cdv A outer s H E g) (defBody s__law_cell_at) m__law_cell_at :=
  have nd := sc__law_cell_at.nd
  have hu := hr.toRoom.units
  have hu2 := room65 hr
  have hgd := hr.gs
  (bm_cons (sm_if (tm_cmp ok_lt (em_v 1) (em_callG (callG_lenD (CallG.of call_len ok_len)) B.b_len (am_cons (em_v 0) am_nil)) (nomark _)) (bm_one (sm_ret (em_ixG (ixG_dict (room1 hu) ixG_seq) (em_v 0) (em_v 1) ⟨fun _ _ => rfl, fun _ _ => rfl⟩))) bm_nil) (bm_one (sm_ret em_int)))
theorem k__law_cell_at {P : Program} {w : World} {mg : Str → Option Value} {base : Heap} {T : Tab} (B : Bt P w mg T)  {f : Addr} {fd : FuncData} (F : Fun T.K "_law_cell_at" "_law_cell_at" s__law_cell_at f fd) (hm : mg "_law_cell_at" = some (.ref f)) : Kn P w mg base T "_law_cell_at" 1 F__law_cell_at :=
  ⟨f, FnP.of (dms := []) (fnG_of F sc__law_cell_at fun cdv A outer s H E g hr => d__law_cell_at B  hr) (F.binds (fun _ _ _ _ _ _ us hl => match us, hl with | [_, _], _ => rfl)) .nil (fun _ _ => .nil), hm, F.kp⟩
theorem sc__law_pen : FnScope ["_law_cell"] ["_law_cell"] (defScope s__law_pen) := ⟨rfl, rfl, rfl, by decide +kernel, rfl, by decide +kernel, by decide +kernel⟩
def m__law_pen : MStm := (sRet (mLstB (mCons (mCall (mCons (mc (.int 0)) (mCons (m2 oSub (mv 0) (m2 oPow (mc (.int 10)) (mc (.int 18)))) mNil)) cMax) (mCons (m2 oMod (mCall (mCons (mv 0) mNil) cInt) (mc (.int 2147483629))) (mCons (mc (.int 1)) mNil)))))
def F__law_pen : Fn := posF 1 [] (bodyF 1 1 m__law_pen)
theorem d__law_pen {P : Program} {w : World} {mg : Str → Option Value} {base : Heap} {T : Tab} (B : Bt P w mg T)  {f : Addr} {cdv : Value} {A : Around} {outer : List Env} {s : Shared} {H : Hp} {E : XK} {g : Gh}  (hr : RoomG 0 (A.deeper (envOfC "_law_pen" (defScope s__law_pen) s.heap.objs.size f cdv))) :
    PMb (cAt P w mg base T ["_law_cell"] "_law_pen" (defScope s__law_pen) f cdv A outer s H E g) (defBody s__law_pen) m__law_pen :=
  have nd := sc__law_pen.nd
  have hu := hr.toRoom.units
  have hu2 := room65 hr
  have hgd := hr.gs
  (bm_one (sm_ret (em_lstB (am_cons (em_callB (call_max2 rfl) ok_max2 B.b_max (am_cons em_int (am_cons (em_bin ok_sub (em_v 0) (em_bin ok_pow em_int em_int)) am_nil))) (am_cons (em_bin ok_mod (em_callT call_int1 ok_int B.b_int (am_cons (em_v 0) am_nil)) em_int) (am_cons em_int am_nil))))))
theorem k__law_pen {P : Program} {w : World} {mg : Str → Option Value} {base : Heap} {T : Tab} (B : Bt P w mg T)  {f : Addr} {fd : FuncData} (F : Fun T.K "_law_pen" "_law_pen" s__law_pen f fd) (hm : mg "_law_pen" = some (.ref f)) : Kn P w mg base T "_law_pen" 1 F__law_pen :=
  ⟨f, FnP.of (dms := []) (fnG_of F sc__law_pen fun cdv A outer s H E g hr => d__law_pen B  hr) (F.binds (fun _ _ _ _ _ _ us hl => match us, hl with | [_], _ => rfl)) .nil (fun _ _ => .nil), hm, F.kp⟩
theorem sc__law_draw : FnScope ["_law_pen_here", "_law_many", "_law_stirred", "_law_digit"] ["_law_pen_here", "_law_many"] (defScope s__law_draw) := ⟨rfl, rfl, rfl, by decide +kernel, rfl, by decide +kernel, by decide +kernel⟩
def m__law_draw : MStm := (sSeq (sIf (mB (m2 oGt (m2 (oIxD oIx) (mv 0) (mc (.int 0))) (mc (.int 0)))) (sSeq (sSet 3 (m2 oMod (mCall (mCons (m2 (oIxD oIx) (mv 0) (mc (.int 0))) mNil) cInt) (mv 1))) (sSeq (sAsg (m2 oDivW (m2 (oIxD oIx) (mv 0) (mc (.int 0))) (mv 1)) (gSub (mv 0) (mc (.int 0)) (fSetD fSetL))) (sRet (mv 3)))) sNx) (sSeq (sAsg (m2 oAdd (m2 (oIxD oIx) (mv 0) (mc (.int 2))) (mc (.int 1))) (gSub (mv 0) (mc (.int 2)) (fSetD fSetL))) (sSeq (sAsg (m2 oMod (mCall (mCons (m2 oAdd (m2 oAdd (m2 oMul (m2 (oIxD oIx) (mv 0) (mc (.int 1))) (mc (.int 48271))) (m2 oMul (mc (.int 7919)) (m2 (oIxD oIx) (mv 0) (mc (.int 2))))) (mc (.int 11))) mNil) cInt) (mc (.int 2147483647))) (gSub (mv 0) (mc (.int 1)) (fSetD fSetL))) (sSeq (sSet 2 (m2 oMod (mCall (mCons (m2 oAdd (m2 oAdd (m2 oMul (m2 (oIxD oIx) (mv 0) (mc (.int 1))) (m2 (oIxD oIx) (mv 0) (mc (.int 1)))) (m2 oMul (mc (.int 40014)) (m2 (oIxD oIx) (mv 0) (mc (.int 1))))) (m2 (oIxD oIx) (mv 0) (mc (.int 2)))) mNil) cInt) (mc (.int 2147483563)))) (sRet (m2 oMod (mCall (mCons (m2 oDivW (m2 oMod (mCall (mCons (m2 oMul (mv 2) (mc (.int 16807))) mNil) cInt) (mc (.int 2147483647))) (mc (.int 64))) mNil) cInt) (mv 1)))))))
def F__law_draw : Fn := posF 2 [] (bodyF 2 4 m__law_draw)
theorem d__law_draw {P : Program} {w : World} {mg : Str → Option Value} {base : Heap} {T : Tab} (B : Bt P w mg T)  {f : Addr} {cdv : Value} {A : Around} {outer : List Env} {s : Shared} {H : Hp} {E : XK} {g : Gh}  (hr : RoomG 0 (A.deeper (envOfC "_law_draw" (defScope s__law_draw) s.heap.objs.size f cdv))) :
    PMb (cAt P w mg base T ["_law_pen_here", "_law_many", "_law_stirred", "_law_digit"] "_law_draw" (defScope s__law_draw) f cdv A outer s H E g) (defBody s__law_draw) m__law_draw :=
  have nd := sc__law_draw.nd
  have hu := hr.toRoom.units
  have hu2 := room65 hr
  have hgd := hr.gs
  (bm_cons (sm_if (tm_cmp ok_gt (em_ixG (ixG_dict (room1 hu) ixG_seq) (em_v 0) em_int ⟨fun _ _ => rfl, fun _ _ => rfl⟩) em_int (nomark _)) (bm_cons (sm_set 3 nd rfl (Or.inl rfl) (em_bin ok_mod (em_callT call_int1 ok_int B.b_int (am_cons (em_ixG (ixG_dict (room1 hu) ixG_seq) (em_v 0) em_int ⟨fun _ _ => rfl, fun _ _ => rfl⟩) am_nil)) (em_v 1))) (bm_cons (sm_asg (em_bin ok_divW (em_ixG (ixG_dict (room1 hu) ixG_seq) (em_v 0) em_int ⟨fun _ _ => rfl, fun _ _ => rfl⟩) (em_v 1)) (gm_subG (setG_dict (room1 hu) (setG_list set_list)) (em_v 0) em_int)) (bm_one (sm_ret (em_v 3))))) bm_nil) (bm_cons (sm_asg (em_bin ok_add (em_ixG (ixG_dict (room1 hu) ixG_seq) (em_v 0) em_int ⟨fun _ _ => rfl, fun _ _ => rfl⟩) em_int) (gm_subG (setG_dict (room1 hu) (setG_list set_list)) (em_v 0) em_int)) (bm_cons (sm_asg (em_bin ok_mod (em_callT call_int1 ok_int B.b_int (am_cons (em_bin ok_add (em_bin ok_add (em_bin ok_mul (em_ixG (ixG_dict (room1 hu) ixG_seq) (em_v 0) em_int ⟨fun _ _ => rfl, fun _ _ => rfl⟩) em_int) (em_bin ok_mul em_int (em_ixG (ixG_dict (room1 hu) ixG_seq) (em_v 0) em_int ⟨fun _ _ => rfl, fun _ _ => rfl⟩))) em_int) am_nil)) em_int) (gm_subG (setG_dict (room1 hu) (setG_list set_list)) (em_v 0) em_int)) (bm_cons (sm_set 2 nd rfl (Or.inl rfl) (em_bin ok_mod (em_callT call_int1 ok_int B.b_int (am_cons (em_bin ok_add (em_bin ok_add (em_bin ok_mul (em_ixG (ixG_dict (room1 hu) ixG_seq) (em_v 0) em_int ⟨fun _ _ => rfl, fun _ _ => rfl⟩) (em_ixG (ixG_dict (room1 hu) ixG_seq) (em_v 0) em_int ⟨fun _ _ => rfl, fun _ _ => rfl⟩)) (em_bin ok_mul em_int (em_ixG (ixG_dict (room1 hu) ixG_seq) (em_v 0) em_int ⟨fun _ _ => rfl, fun _ _ => rfl⟩))) (em_ixG (ixG_dict (room1 hu) ixG_seq) (em_v 0) em_int ⟨fun _ _ => rfl, fun _ _ => rfl⟩)) am_nil)) em_int)) (bm_one (sm_ret (em_bin ok_mod (em_callT call_int1 ok_int B.b_int (am_cons (em_bin ok_divW (em_bin ok_mod (em_callT call_int1 ok_int B.b_int (am_cons (em_bin ok_mul (em_v 2) em_int) am_nil)) em_int) em_int) am_nil)) (em_v 1))))))))
theorem k__law_draw {P : Program} {w : World} {mg : Str → Option Value} {base : Heap} {T : Tab} (B : Bt P w mg T)  {f : Addr} {fd : FuncData} (F : Fun T.K "_law_draw" "_law_draw" s__law_draw f fd) (hm : mg "_law_draw" = some (.ref f)) : Kn P w mg base T "_law_draw" 1 F__law_draw :=
  ⟨f, FnP.of (dms := []) (fnG_of F sc__law_draw fun cdv A outer s H E g hr => d__law_draw B  hr) (F.binds (fun _ _ _ _ _ _ us hl => match us, hl with | [_, _], _ => rfl)) .nil (fun _ _ => .nil), hm, F.kp⟩
theorem sc__law_pick : FnScope ["_law_pen_here", "_law_things"] ["_law_pen_here", "_law_things"] (defScope s__law_pick) := ⟨rfl, rfl, rfl, by decide +kernel, rfl, by decide +kernel, by decide +kernel⟩
def m__law_pick : MStm := (sRet (m2 (oIxD oIx) (mv 1) (mFn (mCons (mv 0) (mCons (mCall (mCons (mv 1) mNil) (cLenD cLen)) mNil)) F__law_draw)))
def F__law_pick : Fn := posF 2 [] (bodyF 2 2 m__law_pick)
theorem d__law_pick {P : Program} {w : World} {mg : Str → Option Value} {base : Heap} {T : Tab} (B : Bt P w mg T) (h__law_draw : Kn P w mg base T "_law_draw" 1 F__law_draw) {f : Addr} {cdv : Value} {A : Around} {outer : List Env} {s : Shared} {H : Hp} {E : XK} {g : Gh}  (hr : RoomG 1 (A.deeper (envOfC "_law_pick" (defScope s__law_pick) s.heap.objs.size f cdv))) :
    PMb (cAt P w mg base T ["_law_pen_here", "_law_things"] "_law_pick" (defScope s__law_pick) f cdv A outer s H E g) (defBody s__law_pick) m__law_pick :=
  have nd := sc__law_pick.nd
  have hu := hr.toRoom.units
  have hu2 := room65 hr
  have hgd := hr.gs
  (bm_one (sm_ret (em_ixG (ixG_dict (room1 hu) ixG_seq) (em_v 1) (em_kn h__law_draw (hr.less (by decide)) cAt_takes (am_cons (em_v 0) (am_cons (em_callG (callG_lenD (CallG.of call_len ok_len)) B.b_len (am_cons (em_v 1) am_nil)) am_nil))) ⟨fun _ _ => rfl, fun _ _ => rfl⟩)))
theorem k__law_pick {P : Program} {w : World} {mg : Str → Option Value} {base : Heap} {T : Tab} (B : Bt P w mg T) (h__law_draw : Kn P w mg base T "_law_draw" 1 F__law_draw) {f : Addr} {fd : FuncData} (F : Fun T.K "_law_pick" "_law_pick" s__law_pick f fd) (hm : mg "_law_pick" = some (.ref f)) : Kn P w mg base T "_law_pick" 2 F__law_pick :=
  ⟨f, FnP.of (dms := []) (fnG_of F sc__law_pick fun cdv A outer s H E g hr => d__law_pick B h__law_draw hr) (F.binds (fun _ _ _ _ _ _ us hl => match us, hl with | [_, _], _ => rfl)) .nil (fun _ _ => .nil), hm, F.kp⟩
theorem sc__law_numbers : FnScope ["_law_pen_here", "_law_times", "_law_plus"] ["_law_pen_here"] (defScope s__law_numbers) := ⟨rfl, rfl, rfl, by decide +kernel, rfl, by decide +kernel, by decide +kernel⟩
def m__law_numbers : MStm := (sSeq (sSet 1 (mFn (mCons (mv 0) (mCons (mLst (mCons (mc (.int 1)) (mCons (mc (.int 1)) (mCons (mc (.int 1)) (mCons (mc (.int 0)) (mCons (mNeg (mc (.int 1))) (mCons (mc (.int 2)) (mCons (mNeg (mc (.int 2))) (mCons (mc (.int 3)) (mCons (mNeg (mc (.int 3))) (mCons (m2 oSub (mFn (mCons (mv 0) (mCons (mc (.int 99)) mNil)) F__law_draw) (mc (.int 49))) (mCons (m2 oSub (m2 oPow (mc (.int 10)) (mc (.int 15))) (mc (.int 1))) (mCons (m2 oSub (mc (.int 1)) (m2 oPow (mc (.int 10)) (mc (.int 15)))) mNil))))))))))))) mNil)) F__law_pick)) (sSeq (sSet 2 (mFn (mCons (mv 0) (mCons (mLst (mCons (mc (.int 0)) (mCons (mc (.int 1)) (mCons (mNeg (mc (.int 1))) (mCons (m2 oSub (mFn (mCons (mv 0) (mCons (mc (.int 30)) mNil)) F__law_draw) (mc (.int 15))) (mCons (mFn (mCons (mv 0) (mCons (m2 oPow (mc (.int 10)) (mc (.int 12))) mNil)) F__law_draw) (mCons (m2 oSub (m2 oPow (mc (.int 10)) (mc (.int 15))) (mc (.int 1))) (mCons (m2 oSub (mc (.int 1)) (m2 oPow (mc (.int 10)) (mc (.int 15)))) mNil)))))))) mNil)) F__law_pick)) (sRet (mTup (mCons (mv 1) (mCons (mv 2) mNil))))))
def F__law_numbers : Fn := posF 1 [] (bodyF 1 3 m__law_numbers)
theorem d__law_numbers {P : Program} {w : World} {mg : Str → Option Value} {base : Heap} {T : Tab} (B : Bt P w mg T) (h__law_pick : Kn P w mg base T "_law_pick" 2 F__law_pick) (h__law_draw : Kn P w mg base T "_law_draw" 1 F__law_draw) {f : Addr} {cdv : Value} {A : Around} {outer : List Env} {s : Shared} {H : Hp} {E : XK} {g : Gh}  (hr : RoomG 2 (A.deeper (envOfC "_law_numbers" (defScope s__law_numbers) s.heap.objs.size f cdv))) :
    PMb (cAt P w mg base T ["_law_pen_here", "_law_times", "_law_plus"] "_law_numbers" (defScope s__law_numbers) f cdv A outer s H E g) (defBody s__law_numbers) m__law_numbers :=
  have nd := sc__law_numbers.nd
  have hu := hr.toRoom.units
  have hu2 := room65 hr
  have hgd := hr.gs
  (bm_cons (sm_set 1 nd rfl (Or.inl rfl) (em_kn h__law_pick (hr.less (by decide)) cAt_takes (am_cons (em_v 0) (am_cons (em_lst (am_cons em_int (am_cons em_int (am_cons em_int (am_cons em_int (am_cons (em_neg em_int) (am_cons em_int (am_cons (em_neg em_int) (am_cons em_int (am_cons (em_neg em_int) (am_cons (em_bin ok_sub (em_kn h__law_draw (hr.less (by decide)) cAt_takes (am_cons (em_v 0) (am_cons em_int am_nil))) em_int) (am_cons (em_bin ok_sub (em_bin ok_pow em_int em_int) em_int) (am_cons (em_bin ok_sub em_int (em_bin ok_pow em_int em_int)) am_nil))))))))))))) am_nil)))) (bm_cons (sm_set 2 nd rfl (Or.inl rfl) (em_kn h__law_pick (hr.less (by decide)) cAt_takes (am_cons (em_v 0) (am_cons (em_lst (am_cons em_int (am_cons em_int (am_cons (em_neg em_int) (am_cons (em_bin ok_sub (em_kn h__law_draw (hr.less (by decide)) cAt_takes (am_cons (em_v 0) (am_cons em_int am_nil))) em_int) (am_cons (em_kn h__law_draw (hr.less (by decide)) cAt_takes (am_cons (em_v 0) (am_cons (em_bin ok_pow em_int em_int) am_nil))) (am_cons (em_bin ok_sub (em_bin ok_pow em_int em_int) em_int) (am_cons (em_bin ok_sub em_int (em_bin ok_pow em_int em_int)) am_nil)))))))) am_nil)))) (bm_one (sm_ret (em_tup (am_cons (em_v 1) (am_cons (em_v 2) am_nil)))))))
theorem k__law_numbers {P : Program} {w : World} {mg : Str → Option Value} {base : Heap} {T : Tab} (B : Bt P w mg T) (h__law_pick : Kn P w mg base T "_law_pick" 2 F__law_pick) (h__law_draw : Kn P w mg base T "_law_draw" 1 F__law_draw) {f : Addr} {fd : FuncData} (F : Fun T.K "_law_numbers" "_law_numbers" s__law_numbers f fd) (hm : mg "_law_numbers" = some (.ref f)) : Kn P w mg base T "_law_numbers" 3 F__law_numbers :=
  ⟨f, FnP.of (dms := []) (fnG_of F sc__law_numbers fun cdv A outer s H E g hr => d__law_numbers B h__law_pick h__law_draw hr) (F.binds (fun _ _ _ _ _ _ us hl => match us, hl with | [_], _ => rfl)) .nil (fun _ _ => .nil), hm, F.kp⟩
theorem sc__law_mixed : FnScope ["_law_pen_here", "_law_things", "_law_left", "_law_found"] ["_law_pen_here", "_law_things"] (defScope s__law_mixed) := ⟨rfl, rfl, rfl, by decide +kernel, rfl, by decide +kernel, by decide +kernel⟩
def m__law_mixed : MStm := (sSeq (sPar2 2 3 (mCons (mCall (mCons (mv 1) mNil) cListB) (mCons (mLstB mNil) mNil))) (sSeq (sWh (mB (m2 (oEqK true (oEqD true)) (mv 2) (mLst mNil))) (sExpr (mAppend (mv 3) (mPopAt (mv 2) (mFn (mCons (mv 0) (mCons (mCall (mCons (mv 2) mNil) (cLenD cLen)) mNil)) F__law_draw)))) 1000000) (sRet (mFrz (mv 3)))))
def F__law_mixed : Fn := posF 2 [] (bodyF 2 4 m__law_mixed)
theorem d__law_mixed {P : Program} {w : World} {mg : Str → Option Value} {base : Heap} {T : Tab} (B : Bt P w mg T) (h__law_draw : Kn P w mg base T "_law_draw" 1 F__law_draw) {f : Addr} {cdv : Value} {A : Around} {outer : List Env} {s : Shared} {H : Hp} {E : XK} {g : Gh}  (hr : RoomG 1 (A.deeper (envOfC "_law_mixed" (defScope s__law_mixed) s.heap.objs.size f cdv))) :
    PMb (cAt P w mg base T ["_law_pen_here", "_law_things", "_law_left", "_law_found"] "_law_mixed" (defScope s__law_mixed) f cdv A outer s H E g) (defBody s__law_mixed) m__law_mixed :=
  have nd := sc__law_mixed.nd
  have hu := hr.toRoom.units
  have hu2 := room65 hr
  have hgd := hr.gs
  (bm_cons (sm_par2 2 3 rfl nd (am_cons (em_callT call_list_of ok_listB B.b_list (am_cons (em_v 1) am_nil)) (am_cons (em_lstB am_nil) am_nil))) (bm_cons (sm_while 1000000 (passes_of rfl) (tm_cmp (op_neK (room0 hu) (ok_neD hu)) (em_v 2) (em_lst am_nil) (nomark _)) (bm_one (sm_expr (em_append (em_v 3) (em_popAt (em_v 2) (em_kn h__law_draw (hr.less (by decide)) cAt_takes (am_cons (em_v 0) (am_cons (em_callG (callG_lenD (CallG.of call_len ok_len)) B.b_len (am_cons (em_v 2) am_nil)) am_nil)))))))) (bm_one (sm_ret (em_frz (em_v 3))))))
theorem k__law_mixed {P : Program} {w : World} {mg : Str → Option Value} {base : Heap} {T : Tab} (B : Bt P w mg T) (h__law_draw : Kn P w mg base T "_law_draw" 1 F__law_draw) {f : Addr} {fd : FuncData} (F : Fun T.K "_law_mixed" "_law_mixed" s__law_mixed f fd) (hm : mg "_law_mixed" = some (.ref f)) : Kn P w mg base T "_law_mixed" 2 F__law_mixed :=
  ⟨f, FnP.of (dms := []) (fnG_of F sc__law_mixed fun cdv A outer s H E g hr => d__law_mixed B h__law_draw hr) (F.binds (fun _ _ _ _ _ _ us hl => match us, hl with | [_, _], _ => rfl)) .nil (fun _ _ => .nil), hm, F.kp⟩
theorem sc__law_pairs : FnScope ["_law_pen_here", "_law_most", "_law_many", "_law_spots", "_law_pairs_here", "_law_scale", "_law_shift", "_law_way", "_law_keys", "_law_free", "_law_turned", "_law_at", "_law_key", "_law_to"] ["_law_pen_here", "_law_most"] (defScope s__law_pairs) := ⟨rfl, rfl, rfl, by decide +kernel, rfl, by decide +kernel, by decide +kernel⟩
def m__law_pairs : MStm := (sSeq (sSet 2 (mFn (mCons (mv 0) (mCons (m2 oAdd (mv 1) (mc (.int 1))) mNil)) F__law_draw)) (sSeq (sPar3 5 6 7 (mCons (mFn (mCons (mv 0) (mCons (mLst (mCons (mc (.int 1)) (mCons (mc (.int 1)) (mCons (mc (.int 3)) (mCons (m2 oPow (mc (.int 10)) (mc (.int 9))) (mCons (m2 oPow (mc (.int 10)) (mc (.int 28))) mNil)))))) mNil)) F__law_pick) (mCons (mFn (mCons (mv 0) (mCons (m2 oAdd (m2 oMul (mc (.int 2)) (mv 2)) (mc (.int 2))) mNil)) F__law_draw) (mCons (mFn (mCons (mv 0) (mCons (mc (.int 7)) mNil)) F__law_draw) mNil)))) (sSeq (sSet 3 (mFn (mCons (mv 0) (mCons (mListRange (m2 oAdd (m2 oMul (mc (.int 2)) (mv 2)) (mc (.int 2)))) mNil)) F__law_mixed)) (sSeq (sPar3 8 9 10 (mCons (mSl (mv 3) oNo (oSome (mv 2))) (mCons (mSl (mv 3) (oSome (mv 2)) oNo) (mCons (mFn (mCons (mv 0) (mCons (mSl (mv 3) oNo (oSome (mv 2))) mNil)) F__law_mixed) mNil)))) (sSeq (sSet 4 (mLstB mNil)) (sSeq (sForI (iEnum (mCons (mv 8) mNil)) (gUnpN [11, 12]) (sSeq (sSet 13 (mFn (mCons (mv 0) (mCons (mLst (mCons (mFn (mCons (mv 0) (mCons (mv 3) mNil)) F__law_pick) (mCons (mFn (mCons (mv 0) (mCons (mv 9) mNil)) F__law_pick) (mCons (mv 12) (mCons (mFn (mCons (mv 0) (mCons (mv 8) mNil)) F__law_pick) mNil))))) mNil)) F__law_pick)) (sSeq (sIf (mB (m2 (oEqK false (oEqD false)) (mv 7) (mc (.int 1)))) (sSet 13 (m2 (oIxD oIx) (mv 10) (mv 11))) sNx) (sSeq (sIf (mAnd (mB (m2 (oEqK false (oEqD false)) (mv 7) (mc (.int 2)))) (mB (m2 oGt (mFn (mCons (mv 0) (mCons (mc (.int 8)) mNil)) F__law_draw) (mc (.int 0))))) (sSet 13 (m2 (oIxD oIx) (m2 oAdd (mv 8) (mv 9)) (m2 oAdd (mv 11) (mc (.int 1))))) sNx) (sSeq (sIf (mB (m2 (oEqK false (oEqD false)) (mv 7) (mc (.int 3)))) (sSet 13 (m2 (oIxD oIx) (m2 oAdd (mv 8) (mv 9)) (m2 oSub (m2 oAdd (mv 11) (mc (.int 1))) (m2 oMul (mFn (mCons (mv 0) (mCons (mc (.int 2)) mNil)) F__law_draw) (mv 11))))) sNx) (sSeq (sIf (mB (m2 (oEqK false (oEqD false)) (mv 7) (mc (.int 4)))) (sSet 13 (m2 (oIxD oIx) (m2 oAdd (mSl (mv 9) oNo (oSome (mc (.int 1)))) (mv 8)) (mCall (mCons (mc (.int 0)) (mCons (m2 oSub (mv 11) (mFn (mCons (mv 0) (mCons (mc (.int 4)) mNil)) F__law_draw)) mNil)) cMax))) sNx) (sSeq (sIf (mAnd (mB (m2 (oEqK false (oEqD false)) (mv 7) (mc (.int 5)))) (mB (m2 oGt (mv 11) (mc (.int 0))))) (sSet 13 (mFn (mCons (mv 0) (mCons (m2 oAdd (mSl (mv 8) oNo (oSome (mv 11))) (mSl (mv 9) oNo (oSome (mc (.int 2))))) mNil)) F__law_pick)) sNx) (sExpr (mAppend (mv 4) (mTup (mCons (m2 oMul (m2 oSub (mv 12) (mv 6)) (mv 5)) (mCons (m2 oMul (m2 oSub (mv 13) (mv 6)) (mv 5)) mNil)))))))))))) (sRet (mFrz (mv 4)))))))))
def F__law_pairs : Fn := posF 2 [] (bodyF 2 14 m__law_pairs)
theorem d__law_pairs {P : Program} {w : World} {mg : Str → Option Value} {base : Heap} {T : Tab} (B : Bt P w mg T) (h__law_draw : Kn P w mg base T "_law_draw" 1 F__law_draw) (h__law_pick : Kn P w mg base T "_law_pick" 2 F__law_pick) (h__law_mixed : Kn P w mg base T "_law_mixed" 2 F__law_mixed) {f : Addr} {cdv : Value} {A : Around} {outer : List Env} {s : Shared} {H : Hp} {E : XK} {g : Gh}  (hr : RoomG 2 (A.deeper (envOfC "_law_pairs" (defScope s__law_pairs) s.heap.objs.size f cdv))) :
    PMb (cAt P w mg base T ["_law_pen_here", "_law_most", "_law_many", "_law_spots", "_law_pairs_here", "_law_scale", "_law_shift", "_law_way", "_law_keys", "_law_free", "_law_turned", "_law_at", "_law_key", "_law_to"] "_law_pairs" (defScope s__law_pairs) f cdv A outer s H E g) (defBody s__law_pairs) m__law_pairs :=
  have nd := sc__law_pairs.nd
  have hu := hr.toRoom.units
  have hu2 := room65 hr
  have hgd := hr.gs
  (bm_cons (sm_set 2 nd rfl (Or.inl rfl) (em_kn h__law_draw (hr.less (by decide)) cAt_takes (am_cons (em_v 0) (am_cons (em_bin ok_add (em_v 1) em_int) am_nil)))) (bm_cons (sm_par3 5 6 7 rfl nd (am_cons (em_kn h__law_pick (hr.less (by decide)) cAt_takes (am_cons (em_v 0) (am_cons (em_lst (am_cons em_int (am_cons em_int (am_cons em_int (am_cons (em_bin ok_pow em_int em_int) (am_cons (em_bin ok_pow em_int em_int) am_nil)))))) am_nil))) (am_cons (em_kn h__law_draw (hr.less (by decide)) cAt_takes (am_cons (em_v 0) (am_cons (em_bin ok_add (em_bin ok_mul em_int (em_v 2)) em_int) am_nil))) (am_cons (em_kn h__law_draw (hr.less (by decide)) cAt_takes (am_cons (em_v 0) (am_cons em_int am_nil))) am_nil)))) (bm_cons (sm_set 3 nd rfl (Or.inl rfl) (em_kn h__law_mixed (hr.less (by decide)) cAt_takes (am_cons (em_v 0) (am_cons (em_listRange rfl B.b_list B.b_range (em_bin ok_add (em_bin ok_mul em_int (em_v 2)) em_int)) am_nil)))) (bm_cons (sm_par3 8 9 10 rfl nd (am_cons (em_sl (em_v 3) om_none (om_some (em_v 2))) (am_cons (em_sl (em_v 3) (om_some (em_v 2)) om_none) (am_cons (em_kn h__law_mixed (hr.less (by decide)) cAt_takes (am_cons (em_v 0) (am_cons (em_sl (em_v 3) om_none (om_some (em_v 2))) am_nil))) am_nil)))) (bm_cons (sm_set 4 nd rfl (Or.inl rfl) (em_lstB am_nil)) (bm_cons (sm_for (passes_of rfl) rfl (im_enum (am_cons (em_v 8) am_nil) B.b_enumerate) (gm_unpN (is := [11, 12]) rfl (pgs_cons (pg_name (i := 11) nd rfl (Or.inl rfl)) (pgs_cons (pg_name (i := 12) nd rfl (Or.inl rfl)) pgs_nil))) (bm_cons (sm_set 13 nd rfl (Or.inl rfl) (em_kn h__law_pick (hr.less (by decide)) cAt_takes (am_cons (em_v 0) (am_cons (em_lst (am_cons (em_kn h__law_pick (hr.less (by decide)) cAt_takes (am_cons (em_v 0) (am_cons (em_v 3) am_nil))) (am_cons (em_kn h__law_pick (hr.less (by decide)) cAt_takes (am_cons (em_v 0) (am_cons (em_v 9) am_nil))) (am_cons (em_v 12) (am_cons (em_kn h__law_pick (hr.less (by decide)) cAt_takes (am_cons (em_v 0) (am_cons (em_v 8) am_nil))) am_nil))))) am_nil)))) (bm_cons (sm_if (tm_cmp (op_eqK (room0 hu) (ok_eqD hu)) (em_v 7) em_int (nomark _)) (bm_one (sm_set 13 nd rfl (Or.inl rfl) (em_ixG (ixG_dict (room1 hu) ixG_seq) (em_v 10) (em_v 11) ⟨fun _ _ => rfl, fun _ _ => rfl⟩))) bm_nil) (bm_cons (sm_if (tm_w (wm_and (tm_cmp (op_eqK (room0 hu) (ok_eqD hu)) (em_v 7) em_int (nomark _)) (wm_and1 (tm_cmp ok_gt (em_kn h__law_draw (hr.less (by decide)) cAt_takes (am_cons (em_v 0) (am_cons em_int am_nil))) em_int (nomark _))))) (bm_one (sm_set 13 nd rfl (Or.inl rfl) (em_ixG (ixG_dict (room1 hu) ixG_seq) (em_bin ok_add (em_v 8) (em_v 9)) (em_bin ok_add (em_v 11) em_int) ⟨fun _ _ => rfl, fun _ _ => rfl⟩))) bm_nil) (bm_cons (sm_if (tm_cmp (op_eqK (room0 hu) (ok_eqD hu)) (em_v 7) em_int (nomark _)) (bm_one (sm_set 13 nd rfl (Or.inl rfl) (em_ixG (ixG_dict (room1 hu) ixG_seq) (em_bin ok_add (em_v 8) (em_v 9)) (em_bin ok_sub (em_bin ok_add (em_v 11) em_int) (em_bin ok_mul (em_kn h__law_draw (hr.less (by decide)) cAt_takes (am_cons (em_v 0) (am_cons em_int am_nil))) (em_v 11))) ⟨fun _ _ => rfl, fun _ _ => rfl⟩))) bm_nil) (bm_cons (sm_if (tm_cmp (op_eqK (room0 hu) (ok_eqD hu)) (em_v 7) em_int (nomark _)) (bm_one (sm_set 13 nd rfl (Or.inl rfl) (em_ixG (ixG_dict (room1 hu) ixG_seq) (em_bin ok_add (em_sl (em_v 9) om_none (om_some em_int)) (em_v 8)) (em_callB (call_max2 rfl) ok_max2 B.b_max (am_cons em_int (am_cons (em_bin ok_sub (em_v 11) (em_kn h__law_draw (hr.less (by decide)) cAt_takes (am_cons (em_v 0) (am_cons em_int am_nil)))) am_nil))) ⟨fun _ _ => rfl, fun _ _ => rfl⟩))) bm_nil) (bm_cons (sm_if (tm_w (wm_and (tm_cmp (op_eqK (room0 hu) (ok_eqD hu)) (em_v 7) em_int (nomark _)) (wm_and1 (tm_cmp ok_gt (em_v 11) em_int (nomark _))))) (bm_one (sm_set 13 nd rfl (Or.inl rfl) (em_kn h__law_pick (hr.less (by decide)) cAt_takes (am_cons (em_v 0) (am_cons (em_bin ok_add (em_sl (em_v 8) om_none (om_some (em_v 11))) (em_sl (em_v 9) om_none (om_some em_int))) am_nil))))) bm_nil) (bm_one (sm_expr (em_append (em_v 4) (em_tup (am_cons (em_bin ok_mul (em_bin ok_sub (em_v 12) (em_v 6)) (em_v 5)) (am_cons (em_bin ok_mul (em_bin ok_sub (em_v 13) (em_v 6)) (em_v 5)) am_nil))))))))))))) (bm_one (sm_ret (em_frz (em_v 4))))))))))
theorem k__law_pairs {P : Program} {w : World} {mg : Str → Option Value} {base : Heap} {T : Tab} (B : Bt P w mg T) (h__law_draw : Kn P w mg base T "_law_draw" 1 F__law_draw) (h__law_pick : Kn P w mg base T "_law_pick" 2 F__law_pick) (h__law_mixed : Kn P w mg base T "_law_mixed" 2 F__law_mixed) {f : Addr} {fd : FuncData} (F : Fun T.K "_law_pairs" "_law_pairs" s__law_pairs f fd) (hm : mg "_law_pairs" = some (.ref f)) : Kn P w mg base T "_law_pairs" 3 F__law_pairs :=
  ⟨f, FnP.of (dms := []) (fnG_of F sc__law_pairs fun cdv A outer s H E g hr => d__law_pairs B h__law_draw h__law_pick h__law_mixed hr) (F.binds (fun _ _ _ _ _ _ us hl => match us, hl with | [_, _], _ => rfl)) .nil (fun _ _ => .nil), hm, F.kp⟩
theorem sc_is_integer : FnScope ["thing"] ["thing"] (defScope s_is_integer) := ⟨rfl, rfl, rfl, by decide +kernel, rfl, by decide +kernel, by decide +kernel⟩
def m_is_integer : MStm := (sRet (mAndV (mCall (mCons (mv 0) (mCons (mc (.ty "int")) mNil)) (cIsi IS XS isi)) (mNotV (mCall (mCons (mv 0) (mCons (mc (.ty "bool")) mNil)) (cIsi IS XS isi)))))
def F_is_integer : Fn := posF 1 [] (bodyF 1 1 m_is_integer)
theorem d_is_integer {P : Program} {w : World} {mg : Str → Option Value} {base : Heap} {T : Tab} (B : Bt P w mg T)  {f : Addr} {cdv : Value} {A : Around} {outer : List Env} {s : Shared} {H : Hp} {E : XK} {g : Gh}  (hr : RoomG 0 (A.deeper (envOfC "is_integer" (defScope s_is_integer) s.heap.objs.size f cdv))) :
    PMb (cAt P w mg base T ["thing"] "is_integer" (defScope s_is_integer) f cdv A outer s H E g) (defBody s_is_integer) m_is_integer :=
  have nd := sc_is_integer.nd
  have hu := hr.toRoom.units
  have hu2 := room65 hr
  have hgd := hr.gs
  (bm_one (sm_ret (em_and (em_callB call_isA (ok_isK B.x) B.b_isinstance (am_cons (em_v 0) (am_cons (em_ty B.b_int) am_nil))) (em_one (em_not (em_callB call_isA (ok_isK B.x) B.b_isinstance (am_cons (em_v 0) (am_cons (em_ty B.b_bool) am_nil))))))))
theorem k_is_integer {P : Program} {w : World} {mg : Str → Option Value} {base : Heap} {T : Tab} (B : Bt P w mg T)  {f : Addr} {fd : FuncData} (F : Fun T.K "is_integer" "is_integer" s_is_integer f fd) (hm : mg "is_integer" = some (.ref f)) : Kn P w mg base T "is_integer" 1 F_is_integer :=
  ⟨f, FnP.of (dms := []) (fnG_of F sc_is_integer fun cdv A outer s H E g hr => d_is_integer B  hr) (F.binds (fun _ _ _ _ _ _ us hl => match us, hl with | [_], _ => rfl)) .nil (fun _ _ => .nil), hm, F.kp⟩
theorem sc_is_small : FnScope ["thing"] ["thing"] (defScope s_is_small) := ⟨rfl, rfl, rfl, by decide +kernel, rfl, by decide +kernel, by decide +kernel⟩
def m_is_small : MStm := (sRet (mAndV (mFn (mCons (mv 0) mNil) F_is_integer) (mChain oLt oLt (mNeg (mc (.int 1000000000000000))) (mv 0) (mc (.int 1000000000000000)))))
def F_is_small : Fn := posF 1 [] (bodyF 1 1 m_is_small)
theorem d_is_small {P : Program} {w : World} {mg : Str → Option Value} {base : Heap} {T : Tab} (B : Bt P w mg T) (h_is_integer : Kn P w mg base T "is_integer" 1 F_is_integer) {f : Addr} {cdv : Value} {A : Around} {outer : List Env} {s : Shared} {H : Hp} {E : XK} {g : Gh}  (hr : RoomG 1 (A.deeper (envOfC "is_small" (defScope s_is_small) s.heap.objs.size f cdv))) :
    PMb (cAt P w mg base T ["thing"] "is_small" (defScope s_is_small) f cdv A outer s H E g) (defBody s_is_small) m_is_small :=
  have nd := sc_is_small.nd
  have hu := hr.toRoom.units
  have hu2 := room65 hr
  have hgd := hr.gs
  (bm_one (sm_ret (em_and (em_kn h_is_integer (hr.less (by decide)) cAt_takes (am_cons (em_v 0) am_nil)) (em_one (em_chain ok_lt ok_lt (em_neg (em_gi B.c_SMALL_BOUND)) (em_v 0) (em_gi B.c_SMALL_BOUND))))))
theorem k_is_small {P : Program} {w : World} {mg : Str → Option Value} {base : Heap} {T : Tab} (B : Bt P w mg T) (h_is_integer : Kn P w mg base T "is_integer" 1 F_is_integer) {f : Addr} {fd : FuncData} (F : Fun T.K "is_small" "is_small" s_is_small f fd) (hm : mg "is_small" = some (.ref f)) : Kn P w mg base T "is_small" 2 F_is_small :=
  ⟨f, FnP.of (dms := []) (fnG_of F sc_is_small fun cdv A outer s H E g hr => d_is_small B h_is_integer hr) (F.binds (fun _ _ _ _ _ _ us hl => match us, hl with | [_], _ => rfl)) .nil (fun _ _ => .nil), hm, F.kp⟩
theorem sc_Formula___init__ : FnScope ["self", "times", "plus"] ["self", "times", "plus"] (defScope s_Formula___init__) := ⟨rfl, rfl, rfl, by decide +kernel, rfl, by decide +kernel, by decide +kernel⟩
def m_Formula___init__ : MStm := (sSeq (sIf (mOr (mNot (mB (mFn (mCons (mv 1) mNil) F_is_integer))) (mNot (mB (mFn (mCons (mv 2) mNil) F_is_integer)))) (sRai "NotInteger" (mCons (mc (.str "times and plus are integers")) mNil)) sNx) (sSeq (sIf (mOr (mNot (mB (mFn (mCons (mv 1) mNil) F_is_small))) (mNot (mB (mFn (mCons (mv 2) mNil) F_is_small)))) (sRai "TooLarge" (mCons (mc (.str "times and plus have at most 15 digits")) mNil)) sNx) (sSeq (sPut "Formula" "_times" (mv 0) (mv 1)) (sPut "Formula" "_plus" (mv 0) (mv 2)))))
def F_Formula___init__ : Fn := posF 3 [] (bodyF 3 3 m_Formula___init__)
theorem d_Formula___init__ {P : Program} {w : World} {mg : Str → Option Value} {base : Heap} {T : Tab} (B : Bt P w mg T) (h_is_integer : Kn P w mg base T "is_integer" 1 F_is_integer) (h_is_small : Kn P w mg base T "is_small" 2 F_is_small) {f : Addr} {cdv : Value} {A : Around} {outer : List Env} {s : Shared} {H : Hp} {E : XK} {g : Gh}  (hr : RoomG 2 (A.deeper (envOfC "Formula.__init__" (defScope s_Formula___init__) s.heap.objs.size f cdv))) :
    PMb (cAt P w mg base T ["self", "times", "plus"] "Formula.__init__" (defScope s_Formula___init__) f cdv A outer s H E g) (defBody s_Formula___init__) m_Formula___init__ :=
  have nd := sc_Formula___init__.nd
  have hu := hr.toRoom.units
  have hu2 := room65 hr
  have hgd := hr.gs
  (bm_cons (sm_if (tm_w (wm_or (tm_not (tm_val (em_kn h_is_integer (hr.less (by decide)) cAt_takes (am_cons (em_v 1) am_nil)))) (wm_or1 (tm_not (tm_val (em_kn h_is_integer (hr.less (by decide)) cAt_takes (am_cons (em_v 2) am_nil))))))) (bm_one (sm_raiK B.ke_NotInteger B.ra_NotInteger rfl cAt_takes (am_cons em_str am_nil))) bm_nil) (bm_cons (sm_if (tm_w (wm_or (tm_not (tm_val (em_kn h_is_small (hr.less (by decide)) cAt_takes (am_cons (em_v 1) am_nil)))) (wm_or1 (tm_not (tm_val (em_kn h_is_small (hr.less (by decide)) cAt_takes (am_cons (em_v 2) am_nil))))))) (bm_one (sm_raiK B.ke_TooLarge B.ra_TooLarge rfl cAt_takes (am_cons em_str am_nil))) bm_nil) (bm_cons (sm_put B.fc_Formula__times (em_v 0) (em_v 1)) (bm_one (sm_put B.fc_Formula__plus (em_v 0) (em_v 2))))))
theorem k_Formula___init__ {P : Program} {w : World} {mg : Str → Option Value} {base : Heap} {T : Tab} (B : Bt P w mg T) (h_is_integer : Kn P w mg base T "is_integer" 1 F_is_integer) (h_is_small : Kn P w mg base T "is_small" 2 F_is_small) {f : Addr} {fd : FuncData} (F : L2.FunD T.K "__init__" "Formula.__init__" (defArgs s_Formula___init__) (defBody s_Formula___init__) (defScope s_Formula___init__) [V.int 1, V.int 0] [] f fd) : FnP P w mg base T 3 f F_Formula___init__ :=
  fnP_d (dms := []) F sc_Formula___init__ 3 2 (by simp) rfl (fun _ _ => .nil) (fun _ _ _ _ _ _ _ us its hl hi => match us, hl, its, hi with | [_, _, _], _, [_, _], _ => ⟨_, rfl, rfl⟩) fun cdv A outer s H E g hr => d_Formula___init__ B h_is_integer h_is_small hr
theorem sc__law_bounds : FnScope ["_law_pen_here", "_law_pair", "_law_middle", "_law_some", "_law_one", "_law_other", "_law_small", "_law_great", "_law_least", "_law_most"] ["_law_pen_here", "_law_pair"] (defScope s__law_bounds) := ⟨rfl, rfl, rfl, by decide +kernel, rfl, by decide +kernel, by decide +kernel⟩
def m__law_bounds : MStm := (sSeq (sSet 2 (mIf (mB (m2 (oEqK true (oEqD true)) (m2 (oIxD oIx) (mv 1) (mc (.int 0))) (mc (.int 1)))) (m2 oFdv (m2 (oIxD oIx) (mv 1) (mc (.int 1))) (m2 oSub (mc (.int 1)) (m2 (oIxD oIx) (mv 1) (mc (.int 0))))) (mc (.int 0)))) (sSeq (sSet 2 (mCall (mCons (mNeg (m2 oPow (mc (.int 10)) (mc (.int 14)))) (mCons (mCall (mCons (m2 oPow (mc (.int 10)) (mc (.int 14))) (mCons (mv 2) mNil)) cMin) mNil)) cMax)) (sSeq (sPar2 4 5 (mCons (m2 oSub (m2 oAdd (mv 2) (mFn (mCons (mv 0) (mCons (mc (.int 9)) mNil)) F__law_draw)) (mc (.int 4))) (mCons (m2 oSub (m2 oAdd (mv 2) (mFn (mCons (mv 0) (mCons (mc (.int 25)) mNil)) F__law_draw)) (mc (.int 12))) mNil))) (sSeq (sPar2 6 7 (mCons (mCall (mCons (mv 4) (mCons (mv 5) mNil)) cMin) (mCons (mCall (mCons (mv 4) (mCons (mv 5) mNil)) cMax) mNil))) (sSeq (sSet 3 (mLstB (mCons (mTup (mCons (mc .non) (mCons (mc .non) mNil))) (mCons (mTup (mCons (mv 6) (mCons (mc .non) mNil))) (mCons (mTup (mCons (mc .non) (mCons (mv 7) mNil))) (mCons (mTup (mCons (mv 6) (mCons (mv 7) mNil))) (mCons (mTup (mCons (mv 6) (mCons (mv 6) mNil))) (mCons (mTup (mCons (m2 oAdd (mv 7) (mc (.int 1))) (mCons (m2 oSub (mv 6) (mc (.int 1))) mNil))) mNil)))))))) (sSeq (sExpr (mAppend (mv 3) (mTup (mCons (mv 4) (mCons (m2 oSub (m2 (oIxD oIx) (mv 1) (mc (.int 1))) (mv 4)) mNil))))) (sSeq (sAsg (mFn (mCons (mv 0) (mCons (mv 3) mNil)) F__law_pick) (gUnpN [8, 9])) (sRet (mIf (mOr (mB (m2 (oIsN false) (mv 9) (mc .non))) (mB (m2 oLt (mCall (mCons (mv 9) mNil) cAbs) (m2 oPow (mc (.int 10)) (mc (.int 15)))))) (mTup (mCons (mv 8) (mCons (mv 9) mNil))) (mTup (mCons (mv 8) (mCons (mc .non) mNil))))))))))))
def F__law_bounds : Fn := posF 2 [] (bodyF 2 10 m__law_bounds)
theorem d__law_bounds {P : Program} {w : World} {mg : Str → Option Value} {base : Heap} {T : Tab} (B : Bt P w mg T) (h__law_draw : Kn P w mg base T "_law_draw" 1 F__law_draw) (h__law_pick : Kn P w mg base T "_law_pick" 2 F__law_pick) {f : Addr} {cdv : Value} {A : Around} {outer : List Env} {s : Shared} {H : Hp} {E : XK} {g : Gh}  (hr : RoomG 2 (A.deeper (envOfC "_law_bounds" (defScope s__law_bounds) s.heap.objs.size f cdv))) :
    PMb (cAt P w mg base T ["_law_pen_here", "_law_pair", "_law_middle", "_law_some", "_law_one", "_law_other", "_law_small", "_law_great", "_law_least", "_law_most"] "_law_bounds" (defScope s__law_bounds) f cdv A outer s H E g) (defBody s__law_bounds) m__law_bounds :=
  have nd := sc__law_bounds.nd
  have hu := hr.toRoom.units
  have hu2 := room65 hr
  have hgd := hr.gs
  (bm_cons (sm_set 2 nd rfl (Or.inl rfl) (em_if (tm_cmp (op_neK (room0 hu) (ok_neD hu)) (em_ixG (ixG_dict (room1 hu) ixG_seq) (em_v 1) em_int ⟨fun _ _ => rfl, fun _ _ => rfl⟩) em_int (nomark _)) (em_bin ok_fdv (em_ixG (ixG_dict (room1 hu) ixG_seq) (em_v 1) em_int ⟨fun _ _ => rfl, fun _ _ => rfl⟩) (em_bin ok_sub em_int (em_ixG (ixG_dict (room1 hu) ixG_seq) (em_v 1) em_int ⟨fun _ _ => rfl, fun _ _ => rfl⟩))) em_int)) (bm_cons (sm_set 2 nd rfl (Or.inl rfl) (em_callB (call_max2 rfl) ok_max2 B.b_max (am_cons (em_neg (em_bin ok_pow em_int em_int)) (am_cons (em_callB (call_min2 rfl) ok_min2 B.b_min (am_cons (em_bin ok_pow em_int em_int) (am_cons (em_v 2) am_nil))) am_nil)))) (bm_cons (sm_par2 4 5 rfl nd (am_cons (em_bin ok_sub (em_bin ok_add (em_v 2) (em_kn h__law_draw (hr.less (by decide)) cAt_takes (am_cons (em_v 0) (am_cons em_int am_nil)))) em_int) (am_cons (em_bin ok_sub (em_bin ok_add (em_v 2) (em_kn h__law_draw (hr.less (by decide)) cAt_takes (am_cons (em_v 0) (am_cons em_int am_nil)))) em_int) am_nil))) (bm_cons (sm_par2 6 7 rfl nd (am_cons (em_callB (call_min2 rfl) ok_min2 B.b_min (am_cons (em_v 4) (am_cons (em_v 5) am_nil))) (am_cons (em_callB (call_max2 rfl) ok_max2 B.b_max (am_cons (em_v 4) (am_cons (em_v 5) am_nil))) am_nil))) (bm_cons (sm_set 3 nd rfl (Or.inl rfl) (em_lstB (am_cons (em_tup (am_cons em_non (am_cons em_non am_nil))) (am_cons (em_tup (am_cons (em_v 6) (am_cons em_non am_nil))) (am_cons (em_tup (am_cons em_non (am_cons (em_v 7) am_nil))) (am_cons (em_tup (am_cons (em_v 6) (am_cons (em_v 7) am_nil))) (am_cons (em_tup (am_cons (em_v 6) (am_cons (em_v 6) am_nil))) (am_cons (em_tup (am_cons (em_bin ok_add (em_v 7) em_int) (am_cons (em_bin ok_sub (em_v 6) em_int) am_nil))) am_nil)))))))) (bm_cons (sm_expr (em_append (em_v 3) (em_tup (am_cons (em_v 4) (am_cons (em_bin ok_sub (em_ixG (ixG_dict (room1 hu) ixG_seq) (em_v 1) em_int ⟨fun _ _ => rfl, fun _ _ => rfl⟩) (em_v 4)) am_nil))))) (bm_cons (sm_asg (em_kn h__law_pick (hr.less (by decide)) cAt_takes (am_cons (em_v 0) (am_cons (em_v 3) am_nil))) (gm_unpN (is := [8, 9]) rfl (pgs_cons (pg_name (i := 8) nd rfl (Or.inl rfl)) (pgs_cons (pg_name (i := 9) nd rfl (Or.inl rfl)) pgs_nil)))) (bm_one (sm_ret (em_if (tm_w (wm_or (tm_cmp ok_isN (em_v 9) em_non (nomark _)) (wm_or1 (tm_cmp ok_lt (em_callB call_abs ok_abs B.b_abs (am_cons (em_v 9) am_nil)) (em_bin ok_pow em_int em_int) (nomark _))))) (em_tup (am_cons (em_v 8) (am_cons (em_v 9) am_nil))) (em_tup (am_cons (em_v 8) (am_cons em_non am_nil)))))))))))))
theorem k__law_bounds {P : Program} {w : World} {mg : Str → Option Value} {base : Heap} {T : Tab} (B : Bt P w mg T) (h__law_draw : Kn P w mg base T "_law_draw" 1 F__law_draw) (h__law_pick : Kn P w mg base T "_law_pick" 2 F__law_pick) {f : Addr} {fd : FuncData} (F : Fun T.K "_law_bounds" "_law_bounds" s__law_bounds f fd) (hm : mg "_law_bounds" = some (.ref f)) : Kn P w mg base T "_law_bounds" 3 F__law_bounds :=
  ⟨f, FnP.of (dms := []) (fnG_of F sc__law_bounds fun cdv A outer s H E g hr => d__law_bounds B h__law_draw h__law_pick hr) (F.binds (fun _ _ _ _ _ _ us hl => match us, hl with | [_, _], _ => rfl)) .nil (fun _ _ => .nil), hm, F.kp⟩
theorem sc__law_inside : FnScope ["_law_key", "_law_least", "_law_most"] ["_law_key", "_law_least", "_law_most"] (defScope s__law_inside) := ⟨rfl, rfl, rfl, by decide +kernel, rfl, by decide +kernel, by decide +kernel⟩
def m__law_inside : MStm := (sRet (mAndV (mOrV (m2 (oIsN false) (mv 1) (mc .non)) (m2 oGe (mv 0) (mv 1))) (mOrV (m2 (oIsN false) (mv 2) (mc .non)) (m2 oLe (mv 0) (mv 2)))))
def F__law_inside : Fn := posF 3 [] (bodyF 3 3 m__law_inside)
theorem d__law_inside {P : Program} {w : World} {mg : Str → Option Value} {base : Heap} {T : Tab} (B : Bt P w mg T)  {f : Addr} {cdv : Value} {A : Around} {outer : List Env} {s : Shared} {H : Hp} {E : XK} {g : Gh}  (hr : RoomG 0 (A.deeper (envOfC "_law_inside" (defScope s__law_inside) s.heap.objs.size f cdv))) :
    PMb (cAt P w mg base T ["_law_key", "_law_least", "_law_most"] "_law_inside" (defScope s__law_inside) f cdv A outer s H E g) (defBody s__law_inside) m__law_inside :=
  have nd := sc__law_inside.nd
  have hu := hr.toRoom.units
  have hu2 := room65 hr
  have hgd := hr.gs
  (bm_one (sm_ret (em_and (em_or (em_cmp ok_isN (em_v 1) em_non (nomark _)) (em_one (em_cmp ok_ge (em_v 0) (em_v 1) (nomark _)))) (em_one (em_or (em_cmp ok_isN (em_v 2) em_non (nomark _)) (em_one (em_cmp ok_le (em_v 0) (em_v 2) (nomark _))))))))
theorem k__law_inside {P : Program} {w : World} {mg : Str → Option Value} {base : Heap} {T : Tab} (B : Bt P w mg T)  {f : Addr} {fd : FuncData} (F : Fun T.K "_law_inside" "_law_inside" s__law_inside f fd) (hm : mg "_law_inside" = some (.ref f)) : Kn P w mg base T "_law_inside" 1 F__law_inside :=
  ⟨f, FnP.of (dms := []) (fnG_of F sc__law_inside fun cdv A outer s H E g hr => d__law_inside B  hr) (F.binds (fun _ _ _ _ _ _ us hl => match us, hl with | [_, _, _], _ => rfl)) .nil (fun _ _ => .nil), hm, F.kp⟩
theorem sc__law_ordered : FnScope ["_law_keys", "_law_pair", "_law_way", "_law_moves", "_law_ranks", "_law_key", "_law_move"] ["_law_keys", "_law_pair", "_law_way"] (defScope s__law_ordered) := ⟨rfl, rfl, rfl, by decide +kernel, rfl, by decide +kernel, by decide +kernel⟩
def m__law_ordered : MStm := (sSeq (sSet 3 (mCall (mCons (mLc [5] (iSeq (mv 0)) (gSet 5) mYes (mTup (mCons (mv 5) (mCons (mCall (mCons (m2 oSub (m2 oAdd (m2 oMul (m2 (oIxD oIx) (mv 1) (mc (.int 0))) (mv 5)) (m2 (oIxD oIx) (mv 1) (mc (.int 1)))) (mv 5)) mNil) cAbs) mNil)))) mNil) cDict)) (sSeq (sIf (mOr (mB (m2 (oEqK false (oEqD false)) (mv 2) (mc (.str "up")))) (mB (m2 (oEqK false (oEqD false)) (mv 2) (mc (.str "down"))))) (sRet (mIf (mB (m2 (oEqK false (oEqD false)) (mv 2) (mc (.str "up")))) (mCall (mCons (mv 0) mNil) cSortD) (mRevL (mCall (mCons (mv 0) mNil) cSortD)))) sNx) (sSeq (sSet 4 (mCall (mCons (mLc [5] (iSeq (mv 0)) (gSet 5) mYes (mTup (mCons (m2 (oIxD oIx) (mv 3) (mv 5)) (mCons (mv 5) mNil)))) mNil) cSortD)) (sSeq (sIf (mB (m2 (oEqK false (oEqD false)) (mv 2) (mc (.str "near")))) (sRet (mLc [6, 5] (iSeq (mv 4)) (gTupN [6, 5]) mYes (mv 5))) sNx) (sRet (mLc [6, 5] (iSeq (mCall (mCons (mLc [6, 5] (iSeq (mv 4)) (gTupN [6, 5]) mYes (mTup (mCons (m2 oSub (mc (.int 0)) (mv 6)) (mCons (mv 5) mNil)))) mNil) cSortD)) (gTupN [6, 5]) mYes (mv 5)))))))
def F__law_ordered : Fn := posF 3 [] (bodyF 3 7 m__law_ordered)
theorem d__law_ordered {P : Program} {w : World} {mg : Str → Option Value} {base : Heap} {T : Tab} (B : Bt P w mg T)  {f : Addr} {cdv : Value} {A : Around} {outer : List Env} {s : Shared} {H : Hp} {E : XK} {g : Gh}  (hr : RoomG 0 (A.deeper (envOfC "_law_ordered" (defScope s__law_ordered) s.heap.objs.size f cdv))) :
    PMb (cAt P w mg base T ["_law_keys", "_law_pair", "_law_way", "_law_moves", "_law_ranks", "_law_key", "_law_move"] "_law_ordered" (defScope s__law_ordered) f cdv A outer s H E g) (defBody s__law_ordered) m__law_ordered :=
  have nd := sc__law_ordered.nd
  have hu := hr.toRoom.units
  have hu2 := room65 hr
  have hgd := hr.gs
  (bm_cons (sm_set 3 nd rfl (Or.inr rfl) (em_callT (call_dictP rfl) ok_dict B.b_dict (am_cons (em_lc (own := [("_law_key", 5)]) rfl nd (im_seq (em_v 0)) (blkOk_by rfl) (fun _ _ _ _ _ _ => (gc_name 5 nd rfl (Or.inl rfl) (by decide))) (fun _ _ _ _ _ _ => tsm_nil) (fun _ _ _ _ _ _ => (em_tup (am_cons (em_v 5) (am_cons (em_callB call_abs ok_abs B.b_abs (am_cons (em_bin ok_sub (em_bin ok_add (em_bin ok_mul (em_ixG (ixG_dict (room1 hu) ixG_seq) (em_v 1) em_int ⟨fun _ _ => rfl, fun _ _ => rfl⟩) (em_v 5)) (em_ixG (ixG_dict (room1 hu) ixG_seq) (em_v 1) em_int ⟨fun _ _ => rfl, fun _ _ => rfl⟩)) (em_v 5)) am_nil)) am_nil))))) am_nil))) (bm_cons (sm_if (tm_w (wm_or (tm_cmp (op_eqK (room0 hu) (ok_eqD hu)) (em_v 2) em_str (nomark _)) (wm_or1 (tm_cmp (op_eqK (room0 hu) (ok_eqD hu)) (em_v 2) em_str (nomark _))))) (bm_one (sm_ret (em_if (tm_cmp (op_eqK (room0 hu) (ok_eqD hu)) (em_v 2) em_str (nomark _)) (em_callB (CallR.alt (cr_sortD hu) (call_sortedDI rfl)) ok_sortD B.b_sorted (am_cons (em_v 0) am_nil)) (em_revL (em_callB (CallR.alt (cr_sortD hu) (call_sortedDI rfl)) ok_sortD B.b_sorted (am_cons (em_v 0) am_nil)))))) bm_nil) (bm_cons (sm_set 4 nd rfl (Or.inl rfl) (em_callB (CallR.alt (cr_sortD hu) (call_sortedDI rfl)) ok_sortD B.b_sorted (am_cons (em_lc (own := [("_law_key", 5)]) rfl nd (im_seq (em_v 0)) (blkOk_by rfl) (fun _ _ _ _ _ _ => (gc_name 5 nd rfl (Or.inl rfl) (by decide))) (fun _ _ _ _ _ _ => tsm_nil) (fun _ _ _ _ _ _ => (em_tup (am_cons (em_ixG (ixG_dict (room1 hu) ixG_seq) (em_v 3) (em_v 5) ⟨fun _ _ => rfl, fun _ _ => rfl⟩) (am_cons (em_v 5) am_nil))))) am_nil))) (bm_cons (sm_if (tm_cmp (op_eqK (room0 hu) (ok_eqD hu)) (em_v 2) em_str (nomark _)) (bm_one (sm_ret (em_lc (own := [("_law_move", 6), ("_law_key", 5)]) rfl nd (im_seq (em_v 4)) (blkOk_by rfl) (fun _ _ _ _ _ _ => (gc_tup (is := [6, 5]) rfl (pgs_cons (pg_name (i := 6) nd rfl (Or.inl rfl)) (pgs_cons (pg_name (i := 5) nd rfl (Or.inl rfl)) pgs_nil)) (by decide))) (fun _ _ _ _ _ _ => tsm_nil) (fun _ _ _ _ _ _ => (em_v 5))))) bm_nil) (bm_one (sm_ret (em_lc (own := [("_law_move", 6), ("_law_key", 5)]) rfl nd (im_seq (em_callB (CallR.alt (cr_sortD hu) (call_sortedDI rfl)) ok_sortD B.b_sorted (am_cons (em_lc (own := [("_law_move", 6), ("_law_key", 5)]) rfl nd (im_seq (em_v 4)) (blkOk_by rfl) (fun _ _ _ _ _ _ => (gc_tup (is := [6, 5]) rfl (pgs_cons (pg_name (i := 6) nd rfl (Or.inl rfl)) (pgs_cons (pg_name (i := 5) nd rfl (Or.inl rfl)) pgs_nil)) (by decide))) (fun _ _ _ _ _ _ => tsm_nil) (fun _ _ _ _ _ _ => (em_tup (am_cons (em_bin ok_sub em_int (em_v 6)) (am_cons (em_v 5) am_nil))))) am_nil))) (blkOk_by rfl) (fun _ _ _ _ _ _ => (gc_tup (is := [6, 5]) rfl (pgs_cons (pg_name (i := 6) nd rfl (Or.inl rfl)) (pgs_cons (pg_name (i := 5) nd rfl (Or.inl rfl)) pgs_nil)) (by decide))) (fun _ _ _ _ _ _ => tsm_nil) (fun _ _ _ _ _ _ => (em_v 5)))))))))
theorem k__law_ordered {P : Program} {w : World} {mg : Str → Option Value} {base : Heap} {T : Tab} (B : Bt P w mg T)  {f : Addr} {fd : FuncData} (F : Fun T.K "_law_ordered" "_law_ordered" s__law_ordered f fd) (hm : mg "_law_ordered" = some (.ref f)) : Kn P w mg base T "_law_ordered" 1 F__law_ordered :=
  ⟨f, FnP.of (dms := []) (fnG_of F sc__law_ordered fun cdv A outer s H E g hr => d__law_ordered B  hr) (F.binds (fun _ _ _ _ _ _ us hl => match us, hl with | [_, _, _], _ => rfl)) .nil (fun _ _ => .nil), hm, F.kp⟩
theorem sc__law_planned : FnScope ["_law_keys", "_law_pair", "_law_way", "_law_least", "_law_most", "_law_inside_here", "_law_outside", "_law_rows", "_law_key"] ["_law_keys", "_law_pair", "_law_way", "_law_least", "_law_most"] (defScope s__law_planned) := ⟨rfl, rfl, rfl, by decide +kernel, rfl, by decide +kernel, by decide +kernel⟩
def m__law_planned : MStm := (sSeq (sSet 5 (mLc [8] (iSeq (mv 0)) (gSet 8) (mB (mFn (mCons (mv 8) (mCons (mv 3) (mCons (mv 4) mNil))) F__law_inside)) (mv 8))) (sSeq (sSet 6 (mCall (mCons (mLc [8] (iSeq (mv 0)) (gSet 8) (mNot (mB (mFn (mCons (mv 8) (mCons (mv 3) (mCons (mv 4) mNil))) F__law_inside))) (mv 8)) mNil) (cSortT cSortD))) (sSeq (sSet 7 (m2 oAdd (mLc [8] (iSeq (mv 5)) (gSet 8) mYes (mTup (mCons (mv 8) (mCons (m2 oAdd (m2 oMul (m2 (oIxD oIx) (mv 1) (mc (.int 0))) (mv 8)) (m2 (oIxD oIx) (mv 1) (mc (.int 1)))) mNil)))) (mLc [8] (iSeq (mv 6)) (gSet 8) mYes (mTup (mCons (mv 8) (mCons (mv 8) mNil)))))) (sRet (mTup (mCons (mv 7) (mCons (mCall (mCons (m2 oAdd (mFn (mCons (mv 5) (mCons (mv 1) (mCons (mv 2) mNil))) F__law_ordered) (mv 6)) mNil) cTup) mNil)))))))
def F__law_planned : Fn := posF 5 [] (bodyF 5 9 m__law_planned)
theorem d__law_planned {P : Program} {w : World} {mg : Str → Option Value} {base : Heap} {T : Tab} (B : Bt P w mg T) (h__law_inside : Kn P w mg base T "_law_inside" 1 F__law_inside) (h__law_ordered : Kn P w mg base T "_law_ordered" 1 F__law_ordered) {f : Addr} {cdv : Value} {A : Around} {outer : List Env} {s : Shared} {H : Hp} {E : XK} {g : Gh}  (hr : RoomG 1 (A.deeper (envOfC "_law_planned" (defScope s__law_planned) s.heap.objs.size f cdv))) :
    PMb (cAt P w mg base T ["_law_keys", "_law_pair", "_law_way", "_law_least", "_law_most", "_law_inside_here", "_law_outside", "_law_rows", "_law_key"] "_law_planned" (defScope s__law_planned) f cdv A outer s H E g) (defBody s__law_planned) m__law_planned :=
  have nd := sc__law_planned.nd
  have hu := hr.toRoom.units
  have hu2 := room65 hr
  have hgd := hr.gs
  (bm_cons (sm_setLc (own := [("_law_key", 8)]) 5 rfl nd (im_seq (em_v 0)) (blkOk_by rfl) (fun _ _ _ _ _ _ => (gc_name 8 nd rfl (Or.inl rfl) (by decide))) (fun _ _ _ _ _ _ => (tsm_one (tm_val (em_kn h__law_inside (hr.less (by decide)) takes0 (am_cons (em_v 8) (am_cons (em_v 3) (am_cons (em_v 4) am_nil))))))) (fun _ _ _ _ _ _ => (em_v 8))) (bm_cons (sm_set 6 nd rfl (Or.inl rfl) (em_callB (CallR.alt (cr_sortTD hu) (CallR.alt (cr_sortD hu) (call_sortedDI rfl))) (ok_sortT ok_sortD) B.b_sorted (am_cons (em_lc (own := [("_law_key", 8)]) rfl nd (im_seq (em_v 0)) (blkOk_by rfl) (fun _ _ _ _ _ _ => (gc_name 8 nd rfl (Or.inl rfl) (by decide))) (fun _ _ _ _ _ _ => (tsm_one (tm_not (tm_val (em_kn h__law_inside (hr.less (by decide)) takes0 (am_cons (em_v 8) (am_cons (em_v 3) (am_cons (em_v 4) am_nil)))))))) (fun _ _ _ _ _ _ => (em_v 8))) am_nil))) (bm_cons (sm_set 7 nd rfl (Or.inl rfl) (em_bin ok_add (em_lc (own := [("_law_key", 8)]) rfl nd (im_seq (em_v 5)) (blkOk_by rfl) (fun _ _ _ _ _ _ => (gc_name 8 nd rfl (Or.inl rfl) (by decide))) (fun _ _ _ _ _ _ => tsm_nil) (fun _ _ _ _ _ _ => (em_tup (am_cons (em_v 8) (am_cons (em_bin ok_add (em_bin ok_mul (em_ixG (ixG_dict (room1 hu) ixG_seq) (em_v 1) em_int ⟨fun _ _ => rfl, fun _ _ => rfl⟩) (em_v 8)) (em_ixG (ixG_dict (room1 hu) ixG_seq) (em_v 1) em_int ⟨fun _ _ => rfl, fun _ _ => rfl⟩)) am_nil))))) (em_lc (own := [("_law_key", 8)]) rfl nd (im_seq (em_v 6)) (blkOk_by rfl) (fun _ _ _ _ _ _ => (gc_name 8 nd rfl (Or.inl rfl) (by decide))) (fun _ _ _ _ _ _ => tsm_nil) (fun _ _ _ _ _ _ => (em_tup (am_cons (em_v 8) (am_cons (em_v 8) am_nil))))))) (bm_one (sm_ret (em_tup (am_cons (em_v 7) (am_cons (em_callT call_tuple_of ok_tuple B.b_tuple (am_cons (em_bin ok_add (em_kn h__law_ordered (hr.less (by decide)) cAt_takes (am_cons (em_v 5) (am_cons (em_v 1) (am_cons (em_v 2) am_nil)))) (em_v 6)) am_nil)) am_nil))))))))
theorem k__law_planned {P : Program} {w : World} {mg : Str → Option Value} {base : Heap} {T : Tab} (B : Bt P w mg T) (h__law_inside : Kn P w mg base T "_law_inside" 1 F__law_inside) (h__law_ordered : Kn P w mg base T "_law_ordered" 1 F__law_ordered) {f : Addr} {fd : FuncData} (F : Fun T.K "_law_planned" "_law_planned" s__law_planned f fd) (hm : mg "_law_planned" = some (.ref f)) : Kn P w mg base T "_law_planned" 2 F__law_planned :=
  ⟨f, FnP.of (dms := []) (fnG_of F sc__law_planned fun cdv A outer s H E g hr => d__law_planned B h__law_inside h__law_ordered hr) (F.binds (fun _ _ _ _ _ _ us hl => match us, hl with | [_, _, _, _, _], _ => rfl)) .nil (fun _ _ => .nil), hm, F.kp⟩
theorem sc__law_same : FnScope ["_law_found", "_law_due"] ["_law_found", "_law_due"] (defScope s__law_same) := ⟨rfl, rfl, rfl, by decide +kernel, rfl, by decide +kernel, by decide +kernel⟩
def m__law_same : MStm := (sRet (m2 (oEqK false (oEqD false)) (mCall (mCons (mv 0) mNil) (cReprS cRepr)) (mCall (mCons (mv 1) mNil) (cReprS cRepr))))
def F__law_same : Fn := posF 2 [] (bodyF 2 2 m__law_same)
theorem d__law_same {P : Program} {w : World} {mg : Str → Option Value} {base : Heap} {T : Tab} (B : Bt P w mg T)  {f : Addr} {cdv : Value} {A : Around} {outer : List Env} {s : Shared} {H : Hp} {E : XK} {g : Gh}  (hr : RoomG 0 (A.deeper (envOfC "_law_same" (defScope s__law_same) s.heap.objs.size f cdv))) :
    PMb (cAt P w mg base T ["_law_found", "_law_due"] "_law_same" (defScope s__law_same) f cdv A outer s H E g) (defBody s__law_same) m__law_same :=
  have nd := sc__law_same.nd
  have hu := hr.toRoom.units
  have hu2 := room65 hr
  have hgd := hr.gs
  (bm_one (sm_ret (em_cmp (op_eqK (room0 hu) (ok_eqD hu)) (em_callB (call_reprB hgd hu2) (ok_reprS ok_repr) B.b_repr (am_cons (em_v 0) am_nil)) (em_callB (call_reprB hgd hu2) (ok_reprS ok_repr) B.b_repr (am_cons (em_v 1) am_nil)) (nomark _))))
theorem k__law_same {P : Program} {w : World} {mg : Str → Option Value} {base : Heap} {T : Tab} (B : Bt P w mg T)  {f : Addr} {fd : FuncData} (F : Fun T.K "_law_same" "_law_same" s__law_same f fd) (hm : mg "_law_same" = some (.ref f)) : Kn P w mg base T "_law_same" 1 F__law_same :=
  ⟨f, FnP.of (dms := []) (fnG_of F sc__law_same fun cdv A outer s H E g hr => d__law_same B  hr) (F.binds (fun _ _ _ _ _ _ us hl => match us, hl with | [_, _], _ => rfl)) .nil (fun _ _ => .nil), hm, F.kp⟩
theorem sc__law_word : FnScope ["_law_e", "_law_some", "_law_words"] ["_law_e"] (defScope s__law_word) := ⟨rfl, rfl, rfl, by decide +kernel, rfl, by decide +kernel, by decide +kernel⟩
def m__law_word (a : Addr) (c : Str) : MStm := (sSeq (sSet 1 (mLst (mCons (mCall (mCons (mv 0) (mCons (mc (.cls "NotRow")) mNil)) (cIsP a c isi)) (mCons (mCall (mCons (mv 0) (mCons (mc (.cls "NotTable")) mNil)) (cIsP a c isi)) (mCons (mCall (mCons (mv 0) (mCons (mc (.cls "NotKey")) mNil)) (cIsP a c isi)) (mCons (mCall (mCons (mv 0) (mCons (mc (.cls "NotKeys")) mNil)) (cIsP a c isi)) (mCons (mCall (mCons (mv 0) (mCons (mc (.cls "NotRows")) mNil)) (cIsP a c isi)) (mCons (mCall (mCons (mv 0) (mCons (mc (.cls "NotOrder")) mNil)) (cIsP a c isi)) mNil)))))))) (sSeq (sSet 1 (m2 oAdd (mv 1) (mLst (mCons (mCall (mCons (mv 0) (mCons (mc (.cls "NotRule")) mNil)) (cIsP a c isi)) (mCons (mCall (mCons (mv 0) (mCons (mc (.cls "NotInteger")) mNil)) (cIsP a c isi)) (mCons (mCall (mCons (mv 0) (mCons (mc (.cls "NotScan")) mNil)) (cIsP a c isi)) (mCons (mCall (mCons (mv 0) (mCons (mc (.cls "NotBound")) mNil)) (cIsP a c isi)) (mCons (mCall (mCons (mv 0) (mCons (mc (.cls "NotFormula")) mNil)) (cIsP a c isi)) (mCons (mCall (mCons (mv 0) (mCons (mc (.cls "NotDeed")) mNil)) (cIsP a c isi)) mNil))))))))) (sSeq (sSet 1 (m2 oAdd (mv 1) (mLst (mCons (mCall (mCons (mv 0) (mCons (mc (.cls "NotText")) mNil)) (cIsP a c isi)) (mCons (mCall (mCons (mv 0) (mCons (mc (.cls "NotBytes")) mNil)) (cIsP a c isi)) (mCons (mCall (mCons (mv 0) (mCons (mc (.cls "NotLine")) mNil)) (cIsP a c isi)) (mCons (mCall (mCons (mv 0) (mCons (mc (.cls "Missing")) mNil)) (cIsP a c isi)) (mCons (mCall (mCons (mv 0) (mCons (mc (.cls "Impossible")) mNil)) (cIsP a c isi)) (mCons (mCall (mCons (mv 0) (mCons (mc (.cls "TooLarge")) mNil)) (cIsP a c isi)) mNil))))))))) (sSeq (sSet 1 (m2 oAdd (mv 1) (mLst (mCons (mCall (mCons (mv 0) (mCons (mc (.cls "NothingDone")) mNil)) (cIsP a c isi)) (mCons (mCall (mCons (mv 0) (mCons (mc (.cls "Twice")) mNil)) (cIsP a c isi)) (mCons (mCall (mCons (mv 0) (mCons (mc (.cls "Held")) mNil)) (cIsP a c isi)) (mCons (mCall (mCons (mv 0) (mCons (mc (.cls "TooMany")) mNil)) (cIsP a c isi)) (mCons (mCall (mCons (mv 0) (mCons (mc (.cls "Competing")) mNil)) (cIsP a c isi)) (mCons (mCall (mCons (mv 0) (mCons (mc (.cls "Ringed")) mNil)) (cIsP a c isi)) (mCons (mCall (mCons (mv 0) (mCons (mc (.cls "Collision")) mNil)) (cIsP a c isi)) mNil)))))))))) (sSeq (sSet 2 (mLst (mCons (mc (.str "row")) (mCons (mc (.str "table")) (mCons (mc (.str "key")) (mCons (mc (.str "keys")) (mCons (mc (.str "rows")) (mCons (mc (.str "order")) (mCons (mc (.str "rule")) (mCons (mc (.str "integer")) (mCons (mc (.str "scan")) (mCons (mc (.str "bound")) (mCons (mc (.str "formula")) (mCons (mc (.str "deed")) (mCons (mc (.str "text")) mNil))))))))))))))) (sSeq (sSet 2 (m2 oAdd (mv 2) (mLst (mCons (mc (.str "bytes")) (mCons (mc (.str "line")) (mCons (mc (.str "missing")) (mCons (mc (.str "impossible")) (mCons (mc (.str "large")) (mCons (mc (.str "nothing")) (mCons (mc (.str "twice")) (mCons (mc (.str "held")) (mCons (mc (.str "many")) (mCons (mc (.str "competing")) (mCons (mc (.str "ringed")) (mCons (mc (.str "collision")) mNil))))))))))))))) (sSeq (sIf (mOr (mB (m2 (oEqK true (oEqD true)) (mCnt (mv 1) (mc (.bl true))) (mc (.int 1)))) (mNot (mB (mCall (mCons (mv 0) (mCons (mc (.ty "ValueError")) mNil)) (cIsP a c isi))))) (sRet (mc (.str "other"))) sNx) (sRet (m2 (oIxD oIx) (mv 2) (mIxD (mv 1) (mc (.bl true))))))))))))
def F__law_word (a : Addr) (c : Str) : Fn := bodyF 1 3 (m__law_word a c)
theorem k__law_word {P : Program} {w : World} {mg : Str → Option Value} {base : Heap} {T : Tab} (B : Bt P w mg T)  {f : Addr} {fd : FuncData} (F : Fun T.K "_law_word" "_law_word" s__law_word f fd) (hm : mg "_law_word" = some (.ref f)) : KnW P w mg base T "_law_word" 1 F__law_word := by
  refine ⟨f, fnW_of F sc__law_word (F.binds (fun _ _ _ _ _ _ us hl => match us, hl with | [_], _ => rfl)) (fun cdv A outer s H g p c hun hh => ?_), hm, F.kp⟩
  have hu2 := hun
  have hu : (A.deeper (envOfC "_law_word" (defScope s__law_word) s.heap.objs.size f cdv)).units + 64 < cLine := by omega
  have hp := hh.pin (P := P) (w := w) (mg := mg) (base := base) (N := ["_law_e", "_law_some", "_law_words"]) (qual := "_law_word") (scope := defScope s__law_word) (f := f) (cd := cdv) (A := A) (outer := outer) (s := s) (E := fun _ _ _ => False)
  have nd := sc__law_word.nd
  exact (bm_cons (sm_set 1 nd rfl (Or.inl rfl) (em_lst (am_cons (em_callB (call_isP hp) (ok_isP hp B.x.k) B.b_isinstance (am_cons (em_v 0) (am_cons (em_kc B.kc_NotRow) am_nil))) (am_cons (em_callB (call_isP hp) (ok_isP hp B.x.k) B.b_isinstance (am_cons (em_v 0) (am_cons (em_kc B.kc_NotTable) am_nil))) (am_cons (em_callB (call_isP hp) (ok_isP hp B.x.k) B.b_isinstance (am_cons (em_v 0) (am_cons (em_kc B.kc_NotKey) am_nil))) (am_cons (em_callB (call_isP hp) (ok_isP hp B.x.k) B.b_isinstance (am_cons (em_v 0) (am_cons (em_kc B.kc_NotKeys) am_nil))) (am_cons (em_callB (call_isP hp) (ok_isP hp B.x.k) B.b_isinstance (am_cons (em_v 0) (am_cons (em_kc B.kc_NotRows) am_nil))) (am_cons (em_callB (call_isP hp) (ok_isP hp B.x.k) B.b_isinstance (am_cons (em_v 0) (am_cons (em_kc B.kc_NotOrder) am_nil))) am_nil)))))))) (bm_cons (sm_set 1 nd rfl (Or.inl rfl) (em_bin ok_add (em_v 1) (em_lst (am_cons (em_callB (call_isP hp) (ok_isP hp B.x.k) B.b_isinstance (am_cons (em_v 0) (am_cons (em_kc B.kc_NotRule) am_nil))) (am_cons (em_callB (call_isP hp) (ok_isP hp B.x.k) B.b_isinstance (am_cons (em_v 0) (am_cons (em_kc B.kc_NotInteger) am_nil))) (am_cons (em_callB (call_isP hp) (ok_isP hp B.x.k) B.b_isinstance (am_cons (em_v 0) (am_cons (em_kc B.kc_NotScan) am_nil))) (am_cons (em_callB (call_isP hp) (ok_isP hp B.x.k) B.b_isinstance (am_cons (em_v 0) (am_cons (em_kc B.kc_NotBound) am_nil))) (am_cons (em_callB (call_isP hp) (ok_isP hp B.x.k) B.b_isinstance (am_cons (em_v 0) (am_cons (em_kc B.kc_NotFormula) am_nil))) (am_cons (em_callB (call_isP hp) (ok_isP hp B.x.k) B.b_isinstance (am_cons (em_v 0) (am_cons (em_kc B.kc_NotDeed) am_nil))) am_nil))))))))) (bm_cons (sm_set 1 nd rfl (Or.inl rfl) (em_bin ok_add (em_v 1) (em_lst (am_cons (em_callB (call_isP hp) (ok_isP hp B.x.k) B.b_isinstance (am_cons (em_v 0) (am_cons (em_kc B.kc_NotText) am_nil))) (am_cons (em_callB (call_isP hp) (ok_isP hp B.x.k) B.b_isinstance (am_cons (em_v 0) (am_cons (em_kc B.kc_NotBytes) am_nil))) (am_cons (em_callB (call_isP hp) (ok_isP hp B.x.k) B.b_isinstance (am_cons (em_v 0) (am_cons (em_kc B.kc_NotLine) am_nil))) (am_cons (em_callB (call_isP hp) (ok_isP hp B.x.k) B.b_isinstance (am_cons (em_v 0) (am_cons (em_kc B.kc_Missing) am_nil))) (am_cons (em_callB (call_isP hp) (ok_isP hp B.x.k) B.b_isinstance (am_cons (em_v 0) (am_cons (em_kc B.kc_Impossible) am_nil))) (am_cons (em_callB (call_isP hp) (ok_isP hp B.x.k) B.b_isinstance (am_cons (em_v 0) (am_cons (em_kc B.kc_TooLarge) am_nil))) am_nil))))))))) (bm_cons (sm_set 1 nd rfl (Or.inl rfl) (em_bin ok_add (em_v 1) (em_lst (am_cons (em_callB (call_isP hp) (ok_isP hp B.x.k) B.b_isinstance (am_cons (em_v 0) (am_cons (em_kc B.kc_NothingDone) am_nil))) (am_cons (em_callB (call_isP hp) (ok_isP hp B.x.k) B.b_isinstance (am_cons (em_v 0) (am_cons (em_kc B.kc_Twice) am_nil))) (am_cons (em_callB (call_isP hp) (ok_isP hp B.x.k) B.b_isinstance (am_cons (em_v 0) (am_cons (em_kc B.kc_Held) am_nil))) (am_cons (em_callB (call_isP hp) (ok_isP hp B.x.k) B.b_isinstance (am_cons (em_v 0) (am_cons (em_kc B.kc_TooMany) am_nil))) (am_cons (em_callB (call_isP hp) (ok_isP hp B.x.k) B.b_isinstance (am_cons (em_v 0) (am_cons (em_kc B.kc_Competing) am_nil))) (am_cons (em_callB (call_isP hp) (ok_isP hp B.x.k) B.b_isinstance (am_cons (em_v 0) (am_cons (em_kc B.kc_Ringed) am_nil))) (am_cons (em_callB (call_isP hp) (ok_isP hp B.x.k) B.b_isinstance (am_cons (em_v 0) (am_cons (em_kc B.kc_Collision) am_nil))) am_nil)))))))))) (bm_cons (sm_set 2 nd rfl (Or.inl rfl) (em_lst (am_cons em_str (am_cons em_str (am_cons em_str (am_cons em_str (am_cons em_str (am_cons em_str (am_cons em_str (am_cons em_str (am_cons em_str (am_cons em_str (am_cons em_str (am_cons em_str (am_cons em_str am_nil))))))))))))))) (bm_cons (sm_set 2 nd rfl (Or.inl rfl) (em_bin ok_add (em_v 2) (em_lst (am_cons em_str (am_cons em_str (am_cons em_str (am_cons em_str (am_cons em_str (am_cons em_str (am_cons em_str (am_cons em_str (am_cons em_str (am_cons em_str (am_cons em_str (am_cons em_str am_nil))))))))))))))) (bm_cons (sm_if (tm_w (wm_or (tm_cmp (op_neK (room0 hu) (ok_neD hu)) (em_cnt hu2 (em_v 1) em_bl) em_int (nomark _)) (wm_or1 (tm_not (tm_val (em_callB (call_isP hp) (ok_isP hp B.x.k) B.b_isinstance (am_cons (em_v 0) (am_cons (em_ty B.b_ValueError) am_nil)))))))) (bm_one (sm_ret em_str)) bm_nil) (bm_one (sm_ret (em_ixG (ixG_dict (room1 hu) ixG_seq) (em_v 2) (em_ixD hu2 (em_v 1) em_bl) ⟨fun _ _ => rfl, fun _ _ => rfl⟩))))))))))
theorem sc__law_said : FnScope ["_law_call", "_law_e", "_law_word_here"] ["_law_call"] (defScope s__law_said) := ⟨rfl, rfl, rfl, by decide +kernel, rfl, by decide +kernel, by decide +kernel⟩
abbrev WS : List (Str × Str) := [("NotRow", "row"), ("NotTable", "table"), ("NotKey", "key"), ("NotKeys", "keys"), ("NotRows", "rows"), ("NotOrder", "order"), ("NotRule", "rule"), ("NotInteger", "integer"), ("NotScan", "scan"), ("NotBound", "bound"), ("NotFormula", "formula"), ("NotDeed", "deed"), ("NotText", "text"), ("NotBytes", "bytes"), ("NotLine", "line"), ("Missing", "missing"), ("Impossible", "impossible"), ("TooLarge", "large"), ("NothingDone", "nothing"), ("Twice", "twice"), ("Held", "held"), ("TooMany", "many"), ("Competing", "competing"), ("Ringed", "ringed"), ("Collision", "collision")]
def m__law_said (a : Addr) (x : Exc) : MStm := (sSeq (sSet 2 (mWord 1 a x.c F__law_word)) (sSeq (sIf (mOr (mB (m2 (oEqK false (oEqD false)) (mv 2) (mc (.str "twice")))) (mB (m2 (oEqK false (oEqD false)) (mv 2) (mc (.str "held"))))) (sRet (mTup (mCons (mv 2) (mCons (mXf a x "key" (mv 1)) mNil)))) sNx) (sSeq (sIf (mB (m2 (oEqK false (oEqD false)) (mv 2) (mc (.str "many")))) (sRet (mTup (mCons (mv 2) (mCons (mXf a x "many" (mv 1)) (mCons (mXf a x "most" (mv 1)) mNil))))) sNx) (sSeq (sIf (mB (m2 (oEqK false (oEqD false)) (mv 2) (mc (.str "competing")))) (sRet (mTup (mCons (mv 2) (mCons (mXf a x "pair" (mv 1)) mNil)))) sNx) (sSeq (sIf (mB (m2 (oEqK false (oEqD false)) (mv 2) (mc (.str "ringed")))) (sRet (mTup (mCons (mv 2) (mCons (mXf a x "ring" (mv 1)) mNil)))) sNx) (sRet (mIf (mB (m2 (oEqK false (oEqD false)) (mv 2) (mc (.str "collision")))) (mTup (mCons (mv 2) (mCons (mXf a x "row" (mv 1)) (mCons (mXf a x "holder" (mv 1)) mNil)))) (mTup (mCons (mv 2) mNil)))))))))
theorem bls_all : ∀ p ∈ WS, ∃ i, i < 25 ∧ (WS.map fun r => M.bl (p.1 == r.1)) = bl25 i ∧ atI (WS.map fun r => M.str r.2) ((i : Nat) : Int) = some (.str p.2) := by
  intro p hp
  simp only [WS, List.mem_cons, List.not_mem_nil, or_false] at hp
  rcases hp with rfl | rfl | rfl | rfl | rfl | rfl | rfl | rfl | rfl | rfl | rfl | rfl | rfl | rfl | rfl | rfl | rfl | rfl | rfl | rfl | rfl | rfl | rfl | rfl | rfl
  · exact ⟨0, by decide, by kernel_rfl, by kernel_rfl⟩
  · exact ⟨1, by decide, by kernel_rfl, by kernel_rfl⟩
  · exact ⟨2, by decide, by kernel_rfl, by kernel_rfl⟩
  · exact ⟨3, by decide, by kernel_rfl, by kernel_rfl⟩
  · exact ⟨4, by decide, by kernel_rfl, by kernel_rfl⟩
  · exact ⟨5, by decide, by kernel_rfl, by kernel_rfl⟩
  · exact ⟨6, by decide, by kernel_rfl, by kernel_rfl⟩
  · exact ⟨7, by decide, by kernel_rfl, by kernel_rfl⟩
  · exact ⟨8, by decide, by kernel_rfl, by kernel_rfl⟩
  · exact ⟨9, by decide, by kernel_rfl, by kernel_rfl⟩
  · exact ⟨10, by decide, by kernel_rfl, by kernel_rfl⟩
  · exact ⟨11, by decide, by kernel_rfl, by kernel_rfl⟩
  · exact ⟨12, by decide, by kernel_rfl, by kernel_rfl⟩
  · exact ⟨13, by decide, by kernel_rfl, by kernel_rfl⟩
  · exact ⟨14, by decide, by kernel_rfl, by kernel_rfl⟩
  · exact ⟨15, by decide, by kernel_rfl, by kernel_rfl⟩
  · exact ⟨16, by decide, by kernel_rfl, by kernel_rfl⟩
  · exact ⟨17, by decide, by kernel_rfl, by kernel_rfl⟩
  · exact ⟨18, by decide, by kernel_rfl, by kernel_rfl⟩
  · exact ⟨19, by decide, by kernel_rfl, by kernel_rfl⟩
  · exact ⟨20, by decide, by kernel_rfl, by kernel_rfl⟩
  · exact ⟨21, by decide, by kernel_rfl, by kernel_rfl⟩
  · exact ⟨22, by decide, by kernel_rfl, by kernel_rfl⟩
  · exact ⟨23, by decide, by kernel_rfl, by kernel_rfl⟩
  · exact ⟨24, by decide, by kernel_rfl, by kernel_rfl⟩
theorem word_all : ∀ p ∈ WS, ∀ (a : Addr) (hp : List Cell), F__law_word a p.1 [.raw a] hp = .ok (.str p.2) hp := by
  intro p hp a h
  have K : ∀ k r, isi (.own p.1) (.own k) = some r → ∀ (e1 e2 : Option M) (hp : List Cell), mCall (mCons (mv 0) (mCons (mc (.cls k)) mNil)) (cIsP a p.1 isi) ⟨[some (.raw a), e1, e2], hp⟩ = .ok (.bl r) ⟨[some (.raw a), e1, e2], hp⟩ := fun k r e e1 e2 hp => by
    show (if a = a then _ else _) = _
    rw [if_pos rfl]
    show (match isi (.own p.1) (.own k) with | some r => _ | none => _) = _
    rw [e]
  have V : ∀ (e1 e2 : Option M) (hp : List Cell), isi (.own p.1) (.bi "ValueError") = some true → mCall (mCons (mv 0) (mCons (mc (.ty "ValueError")) mNil)) (cIsP a p.1 isi) ⟨[some (.raw a), e1, e2], hp⟩ = .ok (.bl true) ⟨[some (.raw a), e1, e2], hp⟩ := fun e1 e2 hp e => by
    show (if a = a then _ else _) = _
    rw [if_pos rfl]
    show (match isi (.own p.1) (.bi "ValueError") with | some r => _ | none => _) = _
    rw [e]
  have all : (WS.all fun q => WS.all fun r => decide (isi (.own q.1) (.own r.1) = some (q.1 == r.1))) = true := by decide +kernel
  have allV : (WS.all fun q => decide (isi (.own q.1) (.bi "ValueError") = some true)) = true := by decide +kernel
  have I : ∀ r ∈ WS, isi (.own p.1) (.own r.1) = some (p.1 == r.1) := fun r hr => of_decide_eq_true (List.all_eq_true.mp (List.all_eq_true.mp all p hp) r hr)
  have IV := of_decide_eq_true (List.all_eq_true.mp allV p hp)
  unfold F__law_word bodyF
  have st : m__law_word a p.1 ⟨[some (.raw a), none, none], h⟩ = .ok (.rt (.str p.2)) ⟨[some (.raw a), some (.lst (WS.map fun r => .bl (p.1 == r.1))), some (.lst (WS.map fun r => .str r.2))], h⟩ := by
    unfold m__law_word
    have row : ∀ (ks : List (Str × Str)), (∀ r ∈ ks, r ∈ WS) → ∀ (e1 e2 : Option M), (ks.foldr (fun r (b : MA) => mCons (mCall (mCons (mv 0) (mCons (mc (.cls r.1)) mNil)) (cIsP a p.1 isi)) b) mNil) ⟨[some (.raw a), e1, e2], h⟩ = .ok (ks.map fun r => .bl (p.1 == r.1)) ⟨[some (.raw a), e1, e2], h⟩ := by
      intro ks
      induction ks with
      | nil => intro _ e1 e2; rfl
      | cons r ks ih => intro hk e1 e2; exact mcons_of (K _ _ (I r (hk r List.mem_cons_self)) e1 e2 h) (ih (fun q hq => hk q (List.mem_cons_of_mem _ hq)) e1 e2)
    have r1 := row (WS.take 6) (fun r hr => List.mem_of_mem_take hr) none none
    have r2 := row ((WS.drop 6).take 6) (fun r hr => List.mem_of_mem_drop (List.mem_of_mem_take hr)) (some (.lst ((WS.take 6).map fun r => .bl (p.1 == r.1)))) none
    have r3 := row ((WS.drop 12).take 6) (fun r hr => List.mem_of_mem_drop (List.mem_of_mem_take hr)) (some (.lst ((WS.take 12).map fun r => .bl (p.1 == r.1)))) none
    have r4 := row (WS.drop 18) (fun r hr => List.mem_of_mem_drop hr) (some (.lst ((WS.take 18).map fun r => .bl (p.1 == r.1)))) none
    refine (seq_nx (s1 := ⟨[some (.raw a), some (.lst ((WS.take 6).map fun r => .bl (p.1 == r.1))), none], h⟩) (set_of (mlst_of r1 (show 6 ≤ big by decide)))).trans ?_
    have o2 : oAdd (.lst ((WS.take 6).map fun r => .bl (p.1 == r.1))) (.lst (((WS.drop 6).take 6).map fun r => .bl (p.1 == r.1))) ⟨[some (.raw a), some (.lst ((WS.take 6).map fun r => .bl (p.1 == r.1))), none], h⟩ = .ok (.lst ((WS.take 12).map fun r => .bl (p.1 == r.1))) ⟨[some (.raw a), some (.lst ((WS.take 6).map fun r => .bl (p.1 == r.1))), none], h⟩ := by kernel_rfl
    refine (seq_nx (s1 := ⟨[some (.raw a), some (.lst ((WS.take 12).map fun r => .bl (p.1 == r.1))), none], h⟩) (set_of (m := .lst ((WS.take 12).map fun r => .bl (p.1 == r.1))) (m2_of (mv_of rfl) (mlst_of r2 (show 6 ≤ big by decide)) o2))).trans ?_
    have o3 : oAdd (.lst ((WS.take 12).map fun r => .bl (p.1 == r.1))) (.lst (((WS.drop 12).take 6).map fun r => .bl (p.1 == r.1))) ⟨[some (.raw a), some (.lst ((WS.take 12).map fun r => .bl (p.1 == r.1))), none], h⟩ = .ok (.lst ((WS.take 18).map fun r => .bl (p.1 == r.1))) ⟨[some (.raw a), some (.lst ((WS.take 12).map fun r => .bl (p.1 == r.1))), none], h⟩ := by kernel_rfl
    refine (seq_nx (s1 := ⟨[some (.raw a), some (.lst ((WS.take 18).map fun r => .bl (p.1 == r.1))), none], h⟩) (set_of (m := .lst ((WS.take 18).map fun r => .bl (p.1 == r.1))) (m2_of (mv_of rfl) (mlst_of r3 (show 6 ≤ big by decide)) o3))).trans ?_
    have o4 : oAdd (.lst ((WS.take 18).map fun r => .bl (p.1 == r.1))) (.lst ((WS.drop 18).map fun r => .bl (p.1 == r.1))) ⟨[some (.raw a), some (.lst ((WS.take 18).map fun r => .bl (p.1 == r.1))), none], h⟩ = .ok (.lst (WS.map fun r => .bl (p.1 == r.1))) ⟨[some (.raw a), some (.lst ((WS.take 18).map fun r => .bl (p.1 == r.1))), none], h⟩ := by kernel_rfl
    refine (seq_nx (s1 := ⟨[some (.raw a), some (.lst (WS.map fun r => .bl (p.1 == r.1))), none], h⟩) (set_of (m := .lst (WS.map fun r => .bl (p.1 == r.1))) (m2_of (mv_of rfl) (mlst_of r4 (show 7 ≤ big by decide)) o4))).trans ?_
    refine (seq_nx (s1 := ⟨[some (.raw a), some (.lst (WS.map fun r => .bl (p.1 == r.1))), some (.lst ((WS.take 13).map fun r => .str r.2))], h⟩) (set_of (mlst_of (ms := (WS.take 13).map fun r => .str r.2) rfl (by decide)))).trans ?_
    have o5 : oAdd (.lst ((WS.take 13).map fun r => .str r.2)) (.lst ((WS.drop 13).map fun r => .str r.2)) ⟨[some (.raw a), some (.lst (WS.map fun r => .bl (p.1 == r.1))), some (.lst ((WS.take 13).map fun r => .str r.2))], h⟩ = .ok (.lst (WS.map fun r => .str r.2)) ⟨[some (.raw a), some (.lst (WS.map fun r => .bl (p.1 == r.1))), some (.lst ((WS.take 13).map fun r => .str r.2))], h⟩ := by kernel_rfl
    refine (seq_nx (s1 := ⟨[some (.raw a), some (.lst (WS.map fun r => .bl (p.1 == r.1))), some (.lst (WS.map fun r => .str r.2))], h⟩) (set_of (m := .lst (WS.map fun r => .str r.2)) (m2_of (mv_of rfl) (mlst_of (ms := (WS.drop 13).map fun r => .str r.2) rfl (by decide)) o5))).trans ?_
    have ev : mCall (mCons (mv 0) (mCons (mc (.ty "ValueError")) mNil)) (cIsP a p.1 isi) ⟨[some (.raw a), some (.lst (WS.map fun r => .bl (p.1 == r.1))), some (.lst (WS.map fun r => .str r.2))], h⟩ = .ok (.bl true) ⟨[some (.raw a), some (.lst (WS.map fun r => .bl (p.1 == r.1))), some (.lst (WS.map fun r => .str r.2))], h⟩ := V _ _ _ IV
    obtain ⟨i, hi, hb, hat⟩ := bls_all p hp
    refine (seq_nx (s1 := ⟨[some (.raw a), some (.lst (WS.map fun r => .bl (p.1 == r.1))), some (.lst (WS.map fun r => .str r.2))], h⟩) ((if_of (k := false) ((or_f (b_of ?_)).trans (not_of (b_of ev)))).trans rfl)).trans (ret_of ?_)
    · rw [hb]
      exact m2_of (cnt25 i hi) rfl (by kernel_rfl)
    · rw [hb]
      exact m2_of (mv_of rfl) (ix25 i hi) (ixD_lst hat)
  show (match m__law_word a p.1 ⟨[some (.raw a), none, none], h⟩ with | .ok (.rt v) s => ResF.ok v s.hp | .ok .nx s => .ok .non s.hp | .ok _ _ => .stuck | .err x s => .err x s.hp | .stuck => .stuck) = _
  rw [st]
theorem ha__law_said {a : Addr} {x : Exc} {s : MS} {m : M} (hv : saidX WS x = some m) (hl : 3 ≤ s.env.length) : ∃ e', e'.length = s.env.length ∧ m__law_said a x ⟨s.env.set 1 (some (.raw a)), s.hp⟩ = .ok (.rt m) ⟨e', s.hp⟩ := by
  obtain ⟨w, hw, hm⟩ := saidX_has hv
  have hq := word_all _ hm a s.hp
  have hlow : lowS w := lowS_of (List.all_eq_true.mp (show (WS.all fun p => lowB p.2) = true by decide +kernel) _ hm)
  obtain ⟨env, hp⟩ := s
  match env, hl with
  | e0 :: e1 :: e2 :: r, _ =>
  refine ⟨e0 :: some (.raw a) :: some (.str w) :: r, rfl, ?_⟩
  have h1 : mWord 1 a x.c F__law_word ⟨e0 :: some (.raw a) :: e2 :: r, hp⟩ = .ok (.str w) ⟨e0 :: some (.raw a) :: e2 :: r, hp⟩ := by
    unfold mWord
    show (if a = a then _ else _) = _
    rw [if_pos rfl]
    show upF _ (F__law_word a x.c [.raw a] hp) = _
    rw [hq]; rfl
  have tq : ∀ lit : Str, lowB lit = true → mB (m2 (oEqK false (oEqD false)) (mv 2) (mc (.str lit))) ⟨e0 :: some (.raw a) :: some (.str w) :: r, hp⟩ = .ok (w == lit) ⟨e0 :: some (.raw a) :: some (.str w) :: r, hp⟩ := fun lit hlit =>
    b_of (m2_of (mv_of rfl) rfl ((show oEqK false (oEqD false) (.str w) (.str lit) _ = oEqD false (.str w) (.str lit) _ from rfl).trans (oEqD_str (neg := false) hlow (lowS_of hlit))))
  have hf : ∀ f k, fldX x f = some k → mXf a x f (mv 1) ⟨e0 :: some (.raw a) :: some (.str w) :: r, hp⟩ = .ok k ⟨e0 :: some (.raw a) :: some (.str w) :: r, hp⟩ := fun f k e => by
    unfold mXf
    show (if a = a then _ else _) = _
    rw [if_pos rfl]
    unfold fldX at e
    rw [e]
  unfold m__law_said
  refine (seq_nx (s1 := ⟨e0 :: some (.raw a) :: some (.str w) :: r, hp⟩) (set_of h1)).trans ?_
  unfold saidX at hv
  rw [hw] at hv
  dsimp only at hv
  by_cases c1 : (w == "twice" || w == "held") = true
  · rw [if_pos c1] at hv
    cases e : fldX x "key" with
    | none => rw [e] at hv; cases hv
    | some k =>
      rw [e] at hv; cases hv
      exact seq_rt ((if_of (or_val (tq _ rfl) (tq _ rfl))).trans (by rw [if_pos c1]; exact ret_of (mtup_of (mcons_of (mv_of rfl) (mone (hf _ _ e))) (show 2 ≤ big by decide))))
  rw [if_neg c1] at hv
  refine (seq_nx ((if_of (or_val (tq _ rfl) (tq _ rfl))).trans (by rw [if_neg c1]; rfl))).trans ?_
  by_cases c2 : (w == "many") = true
  · rw [if_pos c2] at hv
    cases e : fldX x "many" with
    | none => rw [e] at hv; cases hv
    | some k =>
      cases e2 : fldX x "most" with
      | none => rw [e, e2] at hv; cases hv
      | some l =>
        rw [e, e2] at hv; cases hv
        exact seq_rt ((if_of (tq _ rfl)).trans (by rw [if_pos c2]; exact ret_of (mtup_of (mcons_of (mv_of rfl) (mcons_of (hf _ _ e) (mone (hf _ _ e2)))) (show 3 ≤ big by decide))))
  rw [if_neg c2] at hv
  refine (seq_nx ((if_of (tq _ rfl)).trans (by rw [if_neg c2]; rfl))).trans ?_
  by_cases c3 : (w == "competing") = true
  · rw [if_pos c3] at hv
    cases e : fldX x "pair" with
    | none => rw [e] at hv; cases hv
    | some k =>
      rw [e] at hv; cases hv
      exact seq_rt ((if_of (tq _ rfl)).trans (by rw [if_pos c3]; exact ret_of (mtup_of (mcons_of (mv_of rfl) (mone (hf _ _ e))) (show 2 ≤ big by decide))))
  rw [if_neg c3] at hv
  refine (seq_nx ((if_of (tq _ rfl)).trans (by rw [if_neg c3]; rfl))).trans ?_
  by_cases c4 : (w == "ringed") = true
  · rw [if_pos c4] at hv
    cases e : fldX x "ring" with
    | none => rw [e] at hv; cases hv
    | some k =>
      rw [e] at hv; cases hv
      exact seq_rt ((if_of (tq _ rfl)).trans (by rw [if_pos c4]; exact ret_of (mtup_of (mcons_of (mv_of rfl) (mone (hf _ _ e))) (show 2 ≤ big by decide))))
  rw [if_neg c4] at hv
  refine (seq_nx ((if_of (tq _ rfl)).trans (by rw [if_neg c4]; rfl))).trans ?_
  by_cases c5 : (w == "collision") = true
  · rw [if_pos c5] at hv
    cases e : fldX x "row" with
    | none => rw [e] at hv; cases hv
    | some k =>
      cases e2 : fldX x "holder" with
      | none => rw [e, e2] at hv; cases hv
      | some l =>
        rw [e, e2] at hv; cases hv
        exact ret_of ((mif_of (tq _ rfl)).trans (by rw [if_pos c5]; exact mtup_of (mcons_of (mv_of rfl) (mcons_of (hf _ _ e) (mone (hf _ _ e2)))) (show 3 ≤ big by decide)))
  rw [if_neg c5] at hv
  cases hv
  exact ret_of ((mif_of (tq _ rfl)).trans (by rw [if_neg c5]; exact mtup_of (mone (mv_of rfl)) (show 1 ≤ big by decide)))
theorem k__law_said {P : Program} {w : World} {mg : Str → Option Value} {base : Heap} {T : Tab} (B : Bt P w mg T) (h__law_word : KnW P w mg base T "_law_word" 1 F__law_word) {f : Addr} {fd : FuncData} (F : Fun T.K "_law_said" "_law_said" s__law_said f fd) (hm : mg "_law_said" = some (.ref f)) : KnS P w mg base T "_law_said" 10 (saidX WS) := by
  obtain ⟨CS, hCS, hSF⟩ := B.sf.ex
  refine ⟨f, fd, s__law_said, ["_law_call", "_law_e", "_law_word_here"], "_law_call", F, sc__law_said, F.binds (fun _ _ _ _ _ _ us hl => match us, hl with | [_], _ => rfl), hm, F.kp, rfl, by decide, Or.inl rfl, by decide, by decide, fun cdv A outer s H E g ml hr hcall => ?_⟩
  have nd := sc__law_said.nd
  refine bm_one (sm_said (CS := CS) (i := 1) (u := m__law_said) rfl rfl nd rfl rfl ⟨rfl, by decide, Or.inl hCS⟩ cAt_takes (fun W pn xe tkW => bm_one (sm_ret (em_tup (am_cons em_str (am_cons (hcall W pn xe _ _ tkW) am_nil)))))
    (fun x m A hv ad => ?_) (fun a oe pn gc Hc x m hv hca => ?_) (fun a x s m hv hl => ha__law_said hv hl))
  · obtain ⟨w, hw, hx⟩ := saidX_has hv
    obtain ⟨h1, h2, h3, _⟩ := hSF x.c (show x.c ∈ List.map Prod.fst WS from List.mem_map.mpr ⟨(x.c, w), hx, rfl⟩) A ad
    exact ⟨h1, h2, h3⟩
  · obtain ⟨w, hw, hx⟩ := saidX_has hv
    have hno : ∀ f ∈ SFS, ∀ A, T.ad x.c = some A → PySem.W.findIn T.K (.ref A) f = some none := fun f hf A ad => (hSF x.c (show x.c ∈ List.map Prod.fst WS from List.mem_map.mpr ⟨(x.c, w), hx, rfl⟩) A ad).2.2.2 f hf
    have hu := hr.toRoom.units
    have hu2 := room65 hr
    have hgd := hr.gs
    exact (bm_cons (sm_set 2 nd rfl (Or.inl rfl) (em_word hca h__law_word (hr.less (by decide)) (i := 1) rfl (Or.inl rfl))) (bm_cons (sm_if (tm_w (wm_or (tm_cmp (op_eqK (room0 hu) (ok_eqD hu)) (em_v 2) em_str (nomark _)) (wm_or1 (tm_cmp (op_eqK (room0 hu) (ok_eqD hu)) (em_v 2) em_str (nomark _))))) (bm_one (sm_ret (em_tup (am_cons (em_v 2) (am_cons (em_xfP hca.pin (hno "key" (by decide)) (em_v 1)) am_nil))))) bm_nil) (bm_cons (sm_if (tm_cmp (op_eqK (room0 hu) (ok_eqD hu)) (em_v 2) em_str (nomark _)) (bm_one (sm_ret (em_tup (am_cons (em_v 2) (am_cons (em_xfP hca.pin (hno "many" (by decide)) (em_v 1)) (am_cons (em_xfP hca.pin (hno "most" (by decide)) (em_v 1)) am_nil)))))) bm_nil) (bm_cons (sm_if (tm_cmp (op_eqK (room0 hu) (ok_eqD hu)) (em_v 2) em_str (nomark _)) (bm_one (sm_ret (em_tup (am_cons (em_v 2) (am_cons (em_xfP hca.pin (hno "pair" (by decide)) (em_v 1)) am_nil))))) bm_nil) (bm_cons (sm_if (tm_cmp (op_eqK (room0 hu) (ok_eqD hu)) (em_v 2) em_str (nomark _)) (bm_one (sm_ret (em_tup (am_cons (em_v 2) (am_cons (em_xfP hca.pin (hno "ring" (by decide)) (em_v 1)) am_nil))))) bm_nil) (bm_one (sm_ret (em_if (tm_cmp (op_eqK (room0 hu) (ok_eqD hu)) (em_v 2) em_str (nomark _)) (em_tup (am_cons (em_v 2) (am_cons (em_xfP hca.pin (hno "row" (by decide)) (em_v 1)) (am_cons (em_xfP hca.pin (hno "holder" (by decide)) (em_v 1)) am_nil)))) (em_tup (am_cons (em_v 2) am_nil))))))))))
theorem sc_is_key : FnScope ["thing"] ["thing"] (defScope s_is_key) := ⟨rfl, rfl, rfl, by decide +kernel, rfl, by decide +kernel, by decide +kernel⟩
def m_is_key : MStm := (sRet (mAndV (mFn (mCons (mv 0) mNil) F_is_integer) (mChain oLt oLt (mNeg (mc (.int 1000000000000000000000000000000))) (mv 0) (mc (.int 1000000000000000000000000000000)))))
def F_is_key : Fn := posF 1 [] (bodyF 1 1 m_is_key)
theorem d_is_key {P : Program} {w : World} {mg : Str → Option Value} {base : Heap} {T : Tab} (B : Bt P w mg T) (h_is_integer : Kn P w mg base T "is_integer" 1 F_is_integer) {f : Addr} {cdv : Value} {A : Around} {outer : List Env} {s : Shared} {H : Hp} {E : XK} {g : Gh}  (hr : RoomG 1 (A.deeper (envOfC "is_key" (defScope s_is_key) s.heap.objs.size f cdv))) :
    PMb (cAt P w mg base T ["thing"] "is_key" (defScope s_is_key) f cdv A outer s H E g) (defBody s_is_key) m_is_key :=
  have nd := sc_is_key.nd
  have hu := hr.toRoom.units
  have hu2 := room65 hr
  have hgd := hr.gs
  (bm_one (sm_ret (em_and (em_kn h_is_integer (hr.less (by decide)) cAt_takes (am_cons (em_v 0) am_nil)) (em_one (em_chain ok_lt ok_lt (em_neg (em_gi B.c_KEY_BOUND)) (em_v 0) (em_gi B.c_KEY_BOUND))))))
theorem k_is_key {P : Program} {w : World} {mg : Str → Option Value} {base : Heap} {T : Tab} (B : Bt P w mg T) (h_is_integer : Kn P w mg base T "is_integer" 1 F_is_integer) {f : Addr} {fd : FuncData} (F : Fun T.K "is_key" "is_key" s_is_key f fd) (hm : mg "is_key" = some (.ref f)) : Kn P w mg base T "is_key" 2 F_is_key :=
  ⟨f, FnP.of (dms := []) (fnG_of F sc_is_key fun cdv A outer s H E g hr => d_is_key B h_is_integer hr) (F.binds (fun _ _ _ _ _ _ us hl => match us, hl with | [_], _ => rfl)) .nil (fun _ _ => .nil), hm, F.kp⟩
theorem sc_are_different_keys : FnScope ["thing", "part"] ["thing"] (defScope s_are_different_keys) := ⟨rfl, rfl, rfl, by decide +kernel, rfl, by decide +kernel, by decide +kernel⟩
def m_are_different_keys : MStm := (sSeq (sIf (mOr (mNot (mB (mCall (mCons (mv 0) (mCons (mc (.ty "tuple")) mNil)) (cIsi IS XS isi)))) (mNot (mB (mCall (mCons (mLc [1] (iSeq (mv 0)) (gSet 1) mYes (mFn (mCons (mv 1) mNil) F_is_key)) mNil) (cAll false))))) (sRet (mc (.bl false))) sNx) (sRet (m2 (oEqK false (oEqD false)) (mCall (mCons (mCall (mCons (mv 0) mNil) cSetI) mNil) (cLenD (cLenS cLen))) (mCall (mCons (mv 0) mNil) (cLenD (cLenS cLen))))))
def F_are_different_keys : Fn := posF 1 [] (bodyF 1 2 m_are_different_keys)
theorem d_are_different_keys {P : Program} {w : World} {mg : Str → Option Value} {base : Heap} {T : Tab} (B : Bt P w mg T) (h_is_key : Kn P w mg base T "is_key" 2 F_is_key) {f : Addr} {cdv : Value} {A : Around} {outer : List Env} {s : Shared} {H : Hp} {E : XK} {g : Gh}  (hr : RoomG 2 (A.deeper (envOfC "are_different_keys" (defScope s_are_different_keys) s.heap.objs.size f cdv))) :
    PMb (cAt P w mg base T ["thing", "part"] "are_different_keys" (defScope s_are_different_keys) f cdv A outer s H E g) (defBody s_are_different_keys) m_are_different_keys :=
  have nd := sc_are_different_keys.nd
  have hu := hr.toRoom.units
  have hu2 := room65 hr
  have hgd := hr.gs
  (bm_cons (sm_if (tm_w (wm_or (tm_not (tm_val (em_callB call_isA (ok_isK B.x) B.b_isinstance (am_cons (em_v 0) (am_cons (em_ty B.b_tuple) am_nil))))) (wm_or1 (tm_not (tm_val (em_callB (cr_all rfl) ok_all B.b_all (am_cons (em_lc (own := [("part", 1)]) rfl nd (im_seq (em_v 0)) (blkOk_by rfl) (fun _ _ _ _ _ _ => (gc_name 1 nd rfl (Or.inl rfl) (by decide))) (fun _ _ _ _ _ _ => tsm_nil) (fun _ _ _ _ _ _ => (em_kn h_is_key (hr.less (by decide)) takes0 (am_cons (em_v 1) am_nil)))) am_nil))))))) (bm_one (sm_ret em_bl)) bm_nil) (bm_one (sm_ret (em_cmp (op_eqK (room0 hu) (ok_eqD hu)) (em_callG (callG_lenD (CallG.of (CallR.alt call_lenS call_len) (ok_lenS ok_len))) B.b_len (am_cons (em_callT (cr_setI rfl) ok_setI B.b_set (am_cons (em_v 0) am_nil)) am_nil)) (em_callG (callG_lenD (CallG.of (CallR.alt call_lenS call_len) (ok_lenS ok_len))) B.b_len (am_cons (em_v 0) am_nil)) (nomark _)))))
theorem k_are_different_keys {P : Program} {w : World} {mg : Str → Option Value} {base : Heap} {T : Tab} (B : Bt P w mg T) (h_is_key : Kn P w mg base T "is_key" 2 F_is_key) {f : Addr} {fd : FuncData} (F : Fun T.K "are_different_keys" "are_different_keys" s_are_different_keys f fd) (hm : mg "are_different_keys" = some (.ref f)) : Kn P w mg base T "are_different_keys" 3 F_are_different_keys :=
  ⟨f, FnP.of (dms := []) (fnG_of F sc_are_different_keys fun cdv A outer s H E g hr => d_are_different_keys B h_is_key hr) (F.binds (fun _ _ _ _ _ _ us hl => match us, hl with | [_], _ => rfl)) .nil (fun _ _ => .nil), hm, F.kp⟩
theorem sc_check_formula : FnScope ["formula"] ["formula"] (defScope s_check_formula) := ⟨rfl, rfl, rfl, by decide +kernel, rfl, by decide +kernel, by decide +kernel⟩
def m_check_formula : MStm := (sIf (mNot (mB (mCall (mCons (mv 0) (mCons (mc (.cls "Formula")) mNil)) (cIsi IS XS isi)))) (sRai "NotFormula" (mCons (mc (.str "a formula is asked for")) mNil)) sNx)
def F_check_formula : Fn := posF 1 [] (bodyF 1 1 m_check_formula)
theorem d_check_formula {P : Program} {w : World} {mg : Str → Option Value} {base : Heap} {T : Tab} (B : Bt P w mg T)  {f : Addr} {cdv : Value} {A : Around} {outer : List Env} {s : Shared} {H : Hp} {E : XK} {g : Gh}  (hr : RoomG 0 (A.deeper (envOfC "check_formula" (defScope s_check_formula) s.heap.objs.size f cdv))) :
    PMb (cAt P w mg base T ["formula"] "check_formula" (defScope s_check_formula) f cdv A outer s H E g) (defBody s_check_formula) m_check_formula :=
  have nd := sc_check_formula.nd
  have hu := hr.toRoom.units
  have hu2 := room65 hr
  have hgd := hr.gs
  (bm_one (sm_if (tm_not (tm_val (em_callB call_isA (ok_isK B.x) B.b_isinstance (am_cons (em_v 0) (am_cons (em_kc B.kc_Formula) am_nil))))) (bm_one (sm_raiK B.ke_NotFormula B.ra_NotFormula rfl cAt_takes (am_cons em_str am_nil))) bm_nil))
theorem k_check_formula {P : Program} {w : World} {mg : Str → Option Value} {base : Heap} {T : Tab} (B : Bt P w mg T)  {f : Addr} {fd : FuncData} (F : Fun T.K "check_formula" "check_formula" s_check_formula f fd) (hm : mg "check_formula" = some (.ref f)) : Kn P w mg base T "check_formula" 1 F_check_formula :=
  ⟨f, FnP.of (dms := []) (fnG_of F sc_check_formula fun cdv A outer s H E g hr => d_check_formula B  hr) (F.binds (fun _ _ _ _ _ _ us hl => match us, hl with | [_], _ => rfl)) .nil (fun _ _ => .nil), hm, F.kp⟩
theorem sc_check_scan : FnScope ["scan"] ["scan"] (defScope s_check_scan) := ⟨rfl, rfl, rfl, by decide +kernel, rfl, by decide +kernel, by decide +kernel⟩
def m_check_scan : MStm := (sIf (mB (mInK true [.str "up", .str "down", .str "far", .str "near"] (mv 0))) (sRai "NotScan" (mCons (mc (.str "the scans are up, down, far and near")) mNil)) sNx)
def F_check_scan : Fn := posF 1 [] (bodyF 1 1 m_check_scan)
theorem d_check_scan {P : Program} {w : World} {mg : Str → Option Value} {base : Heap} {T : Tab} (B : Bt P w mg T)  {f : Addr} {cdv : Value} {A : Around} {outer : List Env} {s : Shared} {H : Hp} {E : XK} {g : Gh}  (hr : RoomG 0 (A.deeper (envOfC "check_scan" (defScope s_check_scan) s.heap.objs.size f cdv))) :
    PMb (cAt P w mg base T ["scan"] "check_scan" (defScope s_check_scan) f cdv A outer s H E g) (defBody s_check_scan) m_check_scan :=
  have nd := sc_check_scan.nd
  have hu := hr.toRoom.units
  have hu2 := room65 hr
  have hgd := hr.gs
  (bm_one (sm_if (tm_notInK B.kt_SCANS hu2 (em_v 0)) (bm_one (sm_raiK B.ke_NotScan B.ra_NotScan rfl cAt_takes (am_cons em_str am_nil))) bm_nil))
theorem k_check_scan {P : Program} {w : World} {mg : Str → Option Value} {base : Heap} {T : Tab} (B : Bt P w mg T)  {f : Addr} {fd : FuncData} (F : Fun T.K "check_scan" "check_scan" s_check_scan f fd) (hm : mg "check_scan" = some (.ref f)) : Kn P w mg base T "check_scan" 1 F_check_scan :=
  ⟨f, FnP.of (dms := []) (fnG_of F sc_check_scan fun cdv A outer s H E g hr => d_check_scan B  hr) (F.binds (fun _ _ _ _ _ _ us hl => match us, hl with | [_], _ => rfl)) .nil (fun _ _ => .nil), hm, F.kp⟩
theorem sc_check_bounds : FnScope ["low", "high", "bound"] ["low", "high"] (defScope s_check_bounds) := ⟨rfl, rfl, rfl, by decide +kernel, rfl, by decide +kernel, by decide +kernel⟩
def m_check_bounds : MStm := (sForI (iSeq (mTup (mCons (mv 0) (mCons (mv 1) mNil)))) (gSet 2) (sIf (mAnd (mB (m2 (oIsN true) (mv 2) (mc .non))) (mNot (mB (mFn (mCons (mv 2) mNil) F_is_small)))) (sRai "NotBound" (mCons (mc (.str "a bound is None or an integer with at most 15 digits")) mNil)) sNx))
def F_check_bounds : Fn := posF 2 [] (bodyF 2 3 m_check_bounds)
theorem d_check_bounds {P : Program} {w : World} {mg : Str → Option Value} {base : Heap} {T : Tab} (B : Bt P w mg T) (h_is_small : Kn P w mg base T "is_small" 2 F_is_small) {f : Addr} {cdv : Value} {A : Around} {outer : List Env} {s : Shared} {H : Hp} {E : XK} {g : Gh}  (hr : RoomG 2 (A.deeper (envOfC "check_bounds" (defScope s_check_bounds) s.heap.objs.size f cdv))) :
    PMb (cAt P w mg base T ["low", "high", "bound"] "check_bounds" (defScope s_check_bounds) f cdv A outer s H E g) (defBody s_check_bounds) m_check_bounds :=
  have nd := sc_check_bounds.nd
  have hu := hr.toRoom.units
  have hu2 := room65 hr
  have hgd := hr.gs
  (bm_one (sm_for (passes_of rfl) rfl (im_seq (em_tup (am_cons (em_v 0) (am_cons (em_v 1) am_nil)))) (gm_name 2 nd rfl (Or.inl rfl)) (bm_one (sm_if (tm_w (wm_and (tm_cmp ok_isntN (em_v 2) em_non (nomark _)) (wm_and1 (tm_not (tm_val (em_kn h_is_small (hr.less (by decide)) cAt_takes (am_cons (em_v 2) am_nil))))))) (bm_one (sm_raiK B.ke_NotBound B.ra_NotBound rfl cAt_takes (am_cons em_str am_nil))) bm_nil))))
theorem k_check_bounds {P : Program} {w : World} {mg : Str → Option Value} {base : Heap} {T : Tab} (B : Bt P w mg T) (h_is_small : Kn P w mg base T "is_small" 2 F_is_small) {f : Addr} {fd : FuncData} (F : Fun T.K "check_bounds" "check_bounds" s_check_bounds f fd) (hm : mg "check_bounds" = some (.ref f)) : Kn P w mg base T "check_bounds" 3 F_check_bounds :=
  ⟨f, FnP.of (dms := []) (fnG_of F sc_check_bounds fun cdv A outer s H E g hr => d_check_bounds B h_is_small hr) (F.binds (fun _ _ _ _ _ _ us hl => match us, hl with | [_, _], _ => rfl)) .nil (fun _ _ => .nil), hm, F.kp⟩
theorem sc_is_within : FnScope ["number", "low", "high"] ["number", "low", "high"] (defScope s_is_within) := ⟨rfl, rfl, rfl, by decide +kernel, rfl, by decide +kernel, by decide +kernel⟩
def m_is_within : MStm := (sRet (mAndV (mOrV (m2 (oIsN false) (mv 1) (mc .non)) (m2 oLe (mv 1) (mv 0))) (mOrV (m2 (oIsN false) (mv 2) (mc .non)) (m2 oLe (mv 0) (mv 2)))))
def F_is_within : Fn := posF 3 [] (bodyF 3 3 m_is_within)
theorem d_is_within {P : Program} {w : World} {mg : Str → Option Value} {base : Heap} {T : Tab} (B : Bt P w mg T)  {f : Addr} {cdv : Value} {A : Around} {outer : List Env} {s : Shared} {H : Hp} {E : XK} {g : Gh}  (hr : RoomG 0 (A.deeper (envOfC "is_within" (defScope s_is_within) s.heap.objs.size f cdv))) :
    PMb (cAt P w mg base T ["number", "low", "high"] "is_within" (defScope s_is_within) f cdv A outer s H E g) (defBody s_is_within) m_is_within :=
  have nd := sc_is_within.nd
  have hu := hr.toRoom.units
  have hu2 := room65 hr
  have hgd := hr.gs
  (bm_one (sm_ret (em_and (em_or (em_cmp ok_isN (em_v 1) em_non (nomark _)) (em_one (em_cmp ok_le (em_v 1) (em_v 0) (nomark _)))) (em_one (em_or (em_cmp ok_isN (em_v 2) em_non (nomark _)) (em_one (em_cmp ok_le (em_v 0) (em_v 2) (nomark _))))))))
theorem k_is_within {P : Program} {w : World} {mg : Str → Option Value} {base : Heap} {T : Tab} (B : Bt P w mg T)  {f : Addr} {fd : FuncData} (F : Fun T.K "is_within" "is_within" s_is_within f fd) (hm : mg "is_within" = some (.ref f)) : Kn P w mg base T "is_within" 1 F_is_within :=
  ⟨f, FnP.of (dms := []) (fnG_of F sc_is_within fun cdv A outer s H E g hr => d_is_within B  hr) (F.binds (fun _ _ _ _ _ _ us hl => match us, hl with | [_, _, _], _ => rfl)) .nil (fun _ _ => .nil), hm, F.kp⟩
theorem sc_Formula_times : FnScope ["self"] ["self"] (defScope s_Formula_times) := ⟨rfl, rfl, rfl, by decide +kernel, rfl, by decide +kernel, by decide +kernel⟩
def m_Formula_times : MStm := (sRet (mFld ["Formula"] [] "_times" (mv 0)))
def F_Formula_times : Fn := posF 1 [] (bodyF 1 1 m_Formula_times)
theorem d_Formula_times {P : Program} {w : World} {mg : Str → Option Value} {base : Heap} {T : Tab} (B : Bt P w mg T)  {f : Addr} {cdv : Value} {A : Around} {outer : List Env} {s : Shared} {H : Hp} {E : XK} {g : Gh}  (hr : RoomG 0 (A.deeper (envOfC "Formula.times" (defScope s_Formula_times) s.heap.objs.size f cdv))) :
    PMb (cAt P w mg base T ["self"] "Formula.times" (defScope s_Formula_times) f cdv A outer s H E g) (defBody s_Formula_times) m_Formula_times :=
  have nd := sc_Formula_times.nd
  have hu := hr.toRoom.units
  have hu2 := room65 hr
  have hgd := hr.gs
  (bm_one (sm_ret (em_kf B.f__times (em_v 0))))
theorem k_Formula_times {P : Program} {w : World} {mg : Str → Option Value} {base : Heap} {T : Tab} (B : Bt P w mg T)  {f : Addr} {fd : FuncData} (F : Fun T.K "times" "Formula.times" s_Formula_times f fd) : FnP P w mg base T 1 f F_Formula_times :=
  FnP.of (dms := []) (fnG_of F sc_Formula_times fun cdv A outer s H E g hr => d_Formula_times B  hr) (F.binds (fun _ _ _ _ _ _ us hl => match us, hl with | [_], _ => rfl)) .nil (fun _ _ => .nil)
theorem sc_Formula_plus : FnScope ["self"] ["self"] (defScope s_Formula_plus) := ⟨rfl, rfl, rfl, by decide +kernel, rfl, by decide +kernel, by decide +kernel⟩
def m_Formula_plus : MStm := (sRet (mFld ["Formula"] [] "_plus" (mv 0)))
def F_Formula_plus : Fn := posF 1 [] (bodyF 1 1 m_Formula_plus)
theorem d_Formula_plus {P : Program} {w : World} {mg : Str → Option Value} {base : Heap} {T : Tab} (B : Bt P w mg T)  {f : Addr} {cdv : Value} {A : Around} {outer : List Env} {s : Shared} {H : Hp} {E : XK} {g : Gh}  (hr : RoomG 0 (A.deeper (envOfC "Formula.plus" (defScope s_Formula_plus) s.heap.objs.size f cdv))) :
    PMb (cAt P w mg base T ["self"] "Formula.plus" (defScope s_Formula_plus) f cdv A outer s H E g) (defBody s_Formula_plus) m_Formula_plus :=
  have nd := sc_Formula_plus.nd
  have hu := hr.toRoom.units
  have hu2 := room65 hr
  have hgd := hr.gs
  (bm_one (sm_ret (em_kf B.f__plus (em_v 0))))
theorem k_Formula_plus {P : Program} {w : World} {mg : Str → Option Value} {base : Heap} {T : Tab} (B : Bt P w mg T)  {f : Addr} {fd : FuncData} (F : Fun T.K "plus" "Formula.plus" s_Formula_plus f fd) : FnP P w mg base T 1 f F_Formula_plus :=
  FnP.of (dms := []) (fnG_of F sc_Formula_plus fun cdv A outer s H E g hr => d_Formula_plus B  hr) (F.binds (fun _ _ _ _ _ _ us hl => match us, hl with | [_], _ => rfl)) .nil (fun _ _ => .nil)
theorem sc_new_key : FnScope ["formula", "number"] ["formula", "number"] (defScope s_new_key) := ⟨rfl, rfl, rfl, by decide +kernel, rfl, by decide +kernel, by decide +kernel⟩
def m_new_key : MStm := (sRet (m2 oAdd (m2 oMul (mAt (mv 0) (oPrp "Formula" F_Formula_times (fun _ _ => .stuck))) (mv 1)) (mAt (mv 0) (oPrp "Formula" F_Formula_plus (fun _ _ => .stuck)))))
def F_new_key : Fn := posF 2 [] (bodyF 2 2 m_new_key)
theorem d_new_key {P : Program} {w : World} {mg : Str → Option Value} {base : Heap} {T : Tab} (B : Bt P w mg T) (hP_Formula_times : PrK T "Formula" "times" P w mg base 1 F_Formula_times) (hP_Formula_plus : PrK T "Formula" "plus" P w mg base 1 F_Formula_plus) {f : Addr} {cdv : Value} {A : Around} {outer : List Env} {s : Shared} {H : Hp} {E : XK} {g : Gh}  (hr : RoomG 2 (A.deeper (envOfC "new_key" (defScope s_new_key) s.heap.objs.size f cdv))) :
    PMb (cAt P w mg base T ["formula", "number"] "new_key" (defScope s_new_key) f cdv A outer s H E g) (defBody s_new_key) m_new_key :=
  have nd := sc_new_key.nd
  have hu := hr.toRoom.units
  have hu2 := room65 hr
  have hgd := hr.gs
  (bm_one (sm_ret (em_bin ok_add (em_bin ok_mul (em_atG (atG_prp hP_Formula_times (hr.less (by decide)) cAt_takes atG_none) (em_v 0)) (em_v 1)) (em_atG (atG_prp hP_Formula_plus (hr.less (by decide)) cAt_takes atG_none) (em_v 0)))))
theorem k_new_key {P : Program} {w : World} {mg : Str → Option Value} {base : Heap} {T : Tab} (B : Bt P w mg T) (hP_Formula_times : PrK T "Formula" "times" P w mg base 1 F_Formula_times) (hP_Formula_plus : PrK T "Formula" "plus" P w mg base 1 F_Formula_plus) {f : Addr} {fd : FuncData} (F : Fun T.K "new_key" "new_key" s_new_key f fd) (hm : mg "new_key" = some (.ref f)) : Kn P w mg base T "new_key" 3 F_new_key :=
  ⟨f, FnP.of (dms := []) (fnG_of F sc_new_key fun cdv A outer s H E g hr => d_new_key B hP_Formula_times hP_Formula_plus hr) (F.binds (fun _ _ _ _ _ _ us hl => match us, hl with | [_, _], _ => rfl)) .nil (fun _ _ => .nil), hm, F.kp⟩
theorem sc_changed_rows : FnScope ["keys", "formula", "low", "high", "key"] ["keys", "formula", "low", "high"] (defScope s_changed_rows) := ⟨rfl, rfl, rfl, by decide +kernel, rfl, by decide +kernel, by decide +kernel⟩
def m_changed_rows : MStm := (sRet (mLc [4] (iSeq (mCall (mCons (mv 0) mNil) (cSortT cSortD))) (gSet 4) mYes (mTup (mCons (mv 4) (mCons (mIf (mB (mFn (mCons (mv 4) (mCons (mv 2) (mCons (mv 3) mNil))) F_is_within)) (mFn (mCons (mv 1) (mCons (mv 4) mNil)) F_new_key) (mv 4)) mNil)))))
def F_changed_rows : Fn := posF 4 [] (bodyF 4 5 m_changed_rows)
theorem d_changed_rows {P : Program} {w : World} {mg : Str → Option Value} {base : Heap} {T : Tab} (B : Bt P w mg T) (h_is_within : Kn P w mg base T "is_within" 1 F_is_within) (h_new_key : Kn P w mg base T "new_key" 3 F_new_key) {f : Addr} {cdv : Value} {A : Around} {outer : List Env} {s : Shared} {H : Hp} {E : XK} {g : Gh}  (hr : RoomG 3 (A.deeper (envOfC "changed_rows" (defScope s_changed_rows) s.heap.objs.size f cdv))) :
    PMb (cAt P w mg base T ["keys", "formula", "low", "high", "key"] "changed_rows" (defScope s_changed_rows) f cdv A outer s H E g) (defBody s_changed_rows) m_changed_rows :=
  have nd := sc_changed_rows.nd
  have hu := hr.toRoom.units
  have hu2 := room65 hr
  have hgd := hr.gs
  (bm_one (sm_ret (em_lc (own := [("key", 4)]) rfl nd (im_seq (em_callB (CallR.alt (cr_sortTD hu) (CallR.alt (cr_sortD hu) (call_sortedDI rfl))) (ok_sortT ok_sortD) B.b_sorted (am_cons (em_v 0) am_nil))) (blkOk_by rfl) (fun _ _ _ _ _ _ => (gc_name 4 nd rfl (Or.inl rfl) (by decide))) (fun _ _ _ _ _ _ => tsm_nil) (fun _ _ _ _ _ _ => (em_tup (am_cons (em_v 4) (am_cons (em_if (tm_val (em_kn h_is_within (hr.less (by decide)) takes0 (am_cons (em_v 4) (am_cons (em_v 2) (am_cons (em_v 3) am_nil))))) (em_kn h_new_key (hr.less (by decide)) takes0 (am_cons (em_v 1) (am_cons (em_v 4) am_nil))) (em_v 4)) am_nil)))))))
theorem k_changed_rows {P : Program} {w : World} {mg : Str → Option Value} {base : Heap} {T : Tab} (B : Bt P w mg T) (h_is_within : Kn P w mg base T "is_within" 1 F_is_within) (h_new_key : Kn P w mg base T "new_key" 3 F_new_key) {f : Addr} {fd : FuncData} (F : Fun T.K "changed_rows" "changed_rows" s_changed_rows f fd) (hm : mg "changed_rows" = some (.ref f)) : Kn P w mg base T "changed_rows" 4 F_changed_rows :=
  ⟨f, FnP.of (dms := []) (fnG_of F sc_changed_rows fun cdv A outer s H E g hr => d_changed_rows B h_is_within h_new_key hr) (F.binds (fun _ _ _ _ _ _ us hl => match us, hl with | [_, _, _, _], _ => rfl)) .nil (fun _ _ => .nil), hm, F.kp⟩
theorem sc_distance : FnScope ["row"] ["row"] (defScope s_distance) := ⟨rfl, rfl, rfl, by decide +kernel, rfl, by decide +kernel, by decide +kernel⟩
def m_distance : MStm := (sRet (mCall (mCons (m2 oSub (m2 (oIxD oIx) (mv 0) (mc (.int 1))) (m2 (oIxD oIx) (mv 0) (mc (.int 0)))) mNil) cAbs))
def F_distance : Fn := posF 1 [] (bodyF 1 1 m_distance)
theorem d_distance {P : Program} {w : World} {mg : Str → Option Value} {base : Heap} {T : Tab} (B : Bt P w mg T)  {f : Addr} {cdv : Value} {A : Around} {outer : List Env} {s : Shared} {H : Hp} {E : XK} {g : Gh}  (hr : RoomG 0 (A.deeper (envOfC "distance" (defScope s_distance) s.heap.objs.size f cdv))) :
    PMb (cAt P w mg base T ["row"] "distance" (defScope s_distance) f cdv A outer s H E g) (defBody s_distance) m_distance :=
  have nd := sc_distance.nd
  have hu := hr.toRoom.units
  have hu2 := room65 hr
  have hgd := hr.gs
  (bm_one (sm_ret (em_callB call_abs ok_abs B.b_abs (am_cons (em_bin ok_sub (em_ixG (ixG_dict (room1 hu) ixG_seq) (em_v 0) em_int ⟨fun _ _ => rfl, fun _ _ => rfl⟩) (em_ixG (ixG_dict (room1 hu) ixG_seq) (em_v 0) em_int ⟨fun _ _ => rfl, fun _ _ => rfl⟩)) am_nil))))
theorem k_distance {P : Program} {w : World} {mg : Str → Option Value} {base : Heap} {T : Tab} (B : Bt P w mg T)  {f : Addr} {fd : FuncData} (F : Fun T.K "distance" "distance" s_distance f fd) (hm : mg "distance" = some (.ref f)) : Kn P w mg base T "distance" 1 F_distance :=
  ⟨f, FnP.of (dms := []) (fnG_of F sc_distance fun cdv A outer s H E g hr => d_distance B  hr) (F.binds (fun _ _ _ _ _ _ us hl => match us, hl with | [_], _ => rfl)) .nil (fun _ _ => .nil), hm, F.kp⟩
theorem sc_visited_rows : FnScope ["rows", "scan", "low", "high", "inside", "outside", "row"] ["rows", "scan", "low", "high"] (defScope s_visited_rows) := ⟨rfl, rfl, rfl, by decide +kernel, rfl, by decide +kernel, by decide +kernel⟩
def m_visited_rows : MStm := (sSeq (sSet 4 (mLc [6] (iSeq (mv 0)) (gSet 6) (mB (mFn (mCons (m2 (oIxD oIx) (mv 6) (mc (.int 0))) (mCons (mv 2) (mCons (mv 3) mNil))) F_is_within)) (mv 6))) (sSeq (sIf (mB (m2 (oEqK false (oEqD false)) (mv 1) (mc (.str "down")))) (sSet 4 (mRevL (mv 4))) sNx) (sSeq (sIf (mB (m2 (oEqK false (oEqD false)) (mv 1) (mc (.str "near")))) (sSet 4 (mSrtK false F_distance (mv 4))) sNx) (sSeq (sIf (mB (m2 (oEqK false (oEqD false)) (mv 1) (mc (.str "far")))) (sSet 4 (mSrtK true F_distance (mv 4))) sNx) (sSeq (sSet 5 (mLc [6] (iSeq (mv 0)) (gSet 6) (mNot (mB (mFn (mCons (m2 (oIxD oIx) (mv 6) (mc (.int 0))) (mCons (mv 2) (mCons (mv 3) mNil))) F_is_within))) (mv 6))) (sRet (mCall (mCons (mLc [6] (iSeq (m2 oAdd (mv 4) (mv 5))) (gSet 6) mYes (m2 (oIxD oIx) (mv 6) (mc (.int 0)))) mNil) cTup)))))))
def F_visited_rows : Fn := posF 4 [] (bodyF 4 7 m_visited_rows)
theorem d_visited_rows {P : Program} {w : World} {mg : Str → Option Value} {base : Heap} {T : Tab} (B : Bt P w mg T) (h_is_within : Kn P w mg base T "is_within" 1 F_is_within) (h_distance : Kn P w mg base T "distance" 1 F_distance) {f : Addr} {cdv : Value} {A : Around} {outer : List Env} {s : Shared} {H : Hp} {E : XK} {g : Gh}  (hr : RoomG 3 (A.deeper (envOfC "visited_rows" (defScope s_visited_rows) s.heap.objs.size f cdv))) :
    PMb (cAt P w mg base T ["rows", "scan", "low", "high", "inside", "outside", "row"] "visited_rows" (defScope s_visited_rows) f cdv A outer s H E g) (defBody s_visited_rows) m_visited_rows :=
  have nd := sc_visited_rows.nd
  have hu := hr.toRoom.units
  have hu2 := room65 hr
  have hgd := hr.gs
  (bm_cons (sm_setLc (own := [("row", 6)]) 4 rfl nd (im_seq (em_v 0)) (blkOk_by rfl) (fun _ _ _ _ _ _ => (gc_name 6 nd rfl (Or.inl rfl) (by decide))) (fun _ _ _ _ _ _ => (tsm_one (tm_val (em_kn h_is_within (hr.less (by decide)) takes0 (am_cons (em_ixG (ixG_dict (room1 hu) ixG_seq) (em_v 6) em_int ⟨fun _ _ => rfl, fun _ _ => rfl⟩) (am_cons (em_v 2) (am_cons (em_v 3) am_nil))))))) (fun _ _ _ _ _ _ => (em_v 6))) (bm_cons (sm_if (tm_cmp (op_eqK (room0 hu) (ok_eqD hu)) (em_v 1) em_str (nomark _)) (bm_one (sm_set 4 nd rfl (Or.inl rfl) (em_revL (em_v 4)))) bm_nil) (bm_cons (sm_if (tm_cmp (op_eqK (room0 hu) (ok_eqD hu)) (em_v 1) em_str (nomark _)) (bm_one (sm_set 4 nd rfl (Or.inl rfl) (em_sortK h_distance (hr.less (by decide)) B.b_sorted (em_v 4)))) bm_nil) (bm_cons (sm_if (tm_cmp (op_eqK (room0 hu) (ok_eqD hu)) (em_v 1) em_str (nomark _)) (bm_one (sm_set 4 nd rfl (Or.inl rfl) (em_sortKR h_distance (hr.less (by decide)) B.b_sorted (em_v 4)))) bm_nil) (bm_cons (sm_setLc (own := [("row", 6)]) 5 rfl nd (im_seq (em_v 0)) (blkOk_by rfl) (fun _ _ _ _ _ _ => (gc_name 6 nd rfl (Or.inl rfl) (by decide))) (fun _ _ _ _ _ _ => (tsm_one (tm_not (tm_val (em_kn h_is_within (hr.less (by decide)) takes0 (am_cons (em_ixG (ixG_dict (room1 hu) ixG_seq) (em_v 6) em_int ⟨fun _ _ => rfl, fun _ _ => rfl⟩) (am_cons (em_v 2) (am_cons (em_v 3) am_nil)))))))) (fun _ _ _ _ _ _ => (em_v 6))) (bm_one (sm_ret (em_callT call_tuple_of ok_tuple B.b_tuple (am_cons (em_lc (own := [("row", 6)]) rfl nd (im_seq (em_bin ok_add (em_v 4) (em_v 5))) (blkOk_by rfl) (fun _ _ _ _ _ _ => (gc_name 6 nd rfl (Or.inl rfl) (by decide))) (fun _ _ _ _ _ _ => tsm_nil) (fun _ _ _ _ _ _ => (em_ixG (ixG_dict (room1 hu) ixG_seq) (em_v 6) em_int ⟨fun _ _ => rfl, fun _ _ => rfl⟩))) am_nil)))))))))
theorem k_visited_rows {P : Program} {w : World} {mg : Str → Option Value} {base : Heap} {T : Tab} (B : Bt P w mg T) (h_is_within : Kn P w mg base T "is_within" 1 F_is_within) (h_distance : Kn P w mg base T "distance" 1 F_distance) {f : Addr} {fd : FuncData} (F : Fun T.K "visited_rows" "visited_rows" s_visited_rows f fd) (hm : mg "visited_rows" = some (.ref f)) : Kn P w mg base T "visited_rows" 4 F_visited_rows :=
  ⟨f, FnP.of (dms := []) (fnG_of F sc_visited_rows fun cdv A outer s H E g hr => d_visited_rows B h_is_within h_distance hr) (F.binds (fun _ _ _ _ _ _ us hl => match us, hl with | [_, _, _, _], _ => rfl)) .nil (fun _ _ => .nil), hm, F.kp⟩
theorem sc_is_pair : FnScope ["thing"] ["thing"] (defScope s_is_pair) := ⟨rfl, rfl, rfl, by decide +kernel, rfl, by decide +kernel, by decide +kernel⟩
def m_is_pair : MStm := (sRet (mAndV (mCall (mCons (mv 0) (mCons (mc (.ty "tuple")) mNil)) (cIsi IS XS isi)) (mAndV (m2 (oEqK false (oEqD false)) (mCall (mCons (mv 0) mNil) (cLenD cLen)) (mc (.int 2))) (mAndV (mFn (mCons (m2 (oIxD oIx) (mv 0) (mc (.int 0))) mNil) F_is_key) (mFn (mCons (m2 (oIxD oIx) (mv 0) (mc (.int 1))) mNil) F_is_key)))))
def F_is_pair : Fn := posF 1 [] (bodyF 1 1 m_is_pair)
theorem d_is_pair {P : Program} {w : World} {mg : Str → Option Value} {base : Heap} {T : Tab} (B : Bt P w mg T) (h_is_key : Kn P w mg base T "is_key" 2 F_is_key) {f : Addr} {cdv : Value} {A : Around} {outer : List Env} {s : Shared} {H : Hp} {E : XK} {g : Gh}  (hr : RoomG 2 (A.deeper (envOfC "is_pair" (defScope s_is_pair) s.heap.objs.size f cdv))) :
    PMb (cAt P w mg base T ["thing"] "is_pair" (defScope s_is_pair) f cdv A outer s H E g) (defBody s_is_pair) m_is_pair :=
  have nd := sc_is_pair.nd
  have hu := hr.toRoom.units
  have hu2 := room65 hr
  have hgd := hr.gs
  (bm_one (sm_ret (em_and (em_callB call_isA (ok_isK B.x) B.b_isinstance (am_cons (em_v 0) (am_cons (em_ty B.b_tuple) am_nil))) (em_and (em_cmp (op_eqK (room0 hu) (ok_eqD hu)) (em_callG (callG_lenD (CallG.of call_len ok_len)) B.b_len (am_cons (em_v 0) am_nil)) em_int (nomark _)) (em_and (em_kn h_is_key (hr.less (by decide)) cAt_takes (am_cons (em_ixG (ixG_dict (room1 hu) ixG_seq) (em_v 0) em_int ⟨fun _ _ => rfl, fun _ _ => rfl⟩) am_nil)) (em_one (em_kn h_is_key (hr.less (by decide)) cAt_takes (am_cons (em_ixG (ixG_dict (room1 hu) ixG_seq) (em_v 0) em_int ⟨fun _ _ => rfl, fun _ _ => rfl⟩) am_nil))))))))
theorem k_is_pair {P : Program} {w : World} {mg : Str → Option Value} {base : Heap} {T : Tab} (B : Bt P w mg T) (h_is_key : Kn P w mg base T "is_key" 2 F_is_key) {f : Addr} {fd : FuncData} (F : Fun T.K "is_pair" "is_pair" s_is_pair f fd) (hm : mg "is_pair" = some (.ref f)) : Kn P w mg base T "is_pair" 3 F_is_pair :=
  ⟨f, FnP.of (dms := []) (fnG_of F sc_is_pair fun cdv A outer s H E g hr => d_is_pair B h_is_key hr) (F.binds (fun _ _ _ _ _ _ us hl => match us, hl with | [_], _ => rfl)) .nil (fun _ _ => .nil), hm, F.kp⟩
theorem sc_check_rows : FnScope ["rows", "seen", "key", "_", "row"] ["rows"] (defScope s_check_rows) := ⟨rfl, rfl, rfl, by decide +kernel, rfl, by decide +kernel, by decide +kernel⟩
def m_check_rows : MStm := (sSeq (sIf (mNot (mB (mCall (mCons (mLc [4] (iSeq (mv 0)) (gSet 4) mYes (mFn (mCons (mv 4) mNil) F_is_pair)) mNil) (cAll false)))) (sRai "NotRow" (mCons (mc (.str "a row is a pair (key, new key) of two keys")) mNil)) sNx) (sSeq (sSet 1 mDnew) (sSeq (sForI (iSeq (mv 0)) (gUnpN [2, 3]) (sSeq (sIf (mB (m2 (oInD false (oInL false)) (mv 2) (mv 1))) (sRaiI "Twice" ["key"] [.inl "two rows have the key ", .inr 0] (mCons (mv 2) mNil)) sNx) (sAsg (mc (.bl true)) (gSub (mv 1) (mv 2) (fSetD fSetL))))) (sIf (mB (m2 oGt (mCall (mCons (mv 0) mNil) (cLenD cLen)) (mc (.int 40)))) (sRaiI "TooMany" ["many", "most"] [.inr 0, .inl " are too many, ", .inr 1, .inl " is the most"] (mCons (mCall (mCons (mv 0) mNil) (cLenD cLen)) (mCons (mc (.int 40)) mNil))) sNx))))
def F_check_rows : Fn := posF 1 [] (bodyF 1 5 m_check_rows)
theorem d_check_rows {P : Program} {w : World} {mg : Str → Option Value} {base : Heap} {T : Tab} (B : Bt P w mg T) (h_is_pair : Kn P w mg base T "is_pair" 3 F_is_pair) {f : Addr} {cdv : Value} {A : Around} {outer : List Env} {s : Shared} {H : Hp} {E : XK} {g : Gh}  (hr : RoomG 3 (A.deeper (envOfC "check_rows" (defScope s_check_rows) s.heap.objs.size f cdv))) :
    PMb (cAt P w mg base T ["rows", "seen", "key", "_", "row"] "check_rows" (defScope s_check_rows) f cdv A outer s H E g) (defBody s_check_rows) m_check_rows :=
  have nd := sc_check_rows.nd
  have hu := hr.toRoom.units
  have hu2 := room65 hr
  have hgd := hr.gs
  (bm_cons (sm_if (tm_not (tm_val (em_callB (cr_all rfl) ok_all B.b_all (am_cons (em_lc (own := [("row", 4)]) rfl nd (im_seq (em_v 0)) (blkOk_by rfl) (fun _ _ _ _ _ _ => (gc_name 4 nd rfl (Or.inl rfl) (by decide))) (fun _ _ _ _ _ _ => tsm_nil) (fun _ _ _ _ _ _ => (em_kn h_is_pair (hr.less (by decide)) takes0 (am_cons (em_v 4) am_nil)))) am_nil)))) (bm_one (sm_raiK B.ke_NotRow B.ra_NotRow rfl cAt_takes (am_cons em_str am_nil))) bm_nil) (bm_cons (sm_set 1 nd rfl (Or.inl rfl) em_dnew) (bm_cons (sm_for (passes_of rfl) rfl (im_seq (em_v 0)) (gm_unpN (is := [2, 3]) rfl (pgs_cons (pg_name (i := 2) nd rfl (Or.inl rfl)) (pgs_cons (pg_name (i := 3) nd rfl (Or.inl rfl)) pgs_nil))) (bm_cons (sm_if (tm_cmp (op_inD (room1 hu) (ok_inL hu2)) (em_v 2) (em_v 1) (by with_unfolding_all rfl)) (bm_one (sm_raiN B.ki_Twice B.ra_Twice rfl cAt_takes (hr.less (by decide)) (am_cons (em_v 2) am_nil))) bm_nil) (bm_one (sm_asg em_bl (gm_subG (setG_dict (room1 hu) (setG_list set_list)) (em_v 1) (em_v 2)))))) (bm_one (sm_if (tm_cmp ok_gt (em_callG (callG_lenD (CallG.of call_len ok_len)) B.b_len (am_cons (em_v 0) am_nil)) (em_gi B.c_MOST_ROWS) (nomark _)) (bm_one (sm_raiN B.ki_TooMany B.ra_TooMany rfl cAt_takes (hr.less (by decide)) (am_cons (em_callG (callG_lenD (CallG.of call_len ok_len)) B.b_len (am_cons (em_v 0) am_nil)) (am_cons (em_gi B.c_MOST_ROWS) am_nil)))) bm_nil)))))
theorem k_check_rows {P : Program} {w : World} {mg : Str → Option Value} {base : Heap} {T : Tab} (B : Bt P w mg T) (h_is_pair : Kn P w mg base T "is_pair" 3 F_is_pair) {f : Addr} {fd : FuncData} (F : Fun T.K "check_rows" "check_rows" s_check_rows f fd) (hm : mg "check_rows" = some (.ref f)) : Kn P w mg base T "check_rows" 4 F_check_rows :=
  ⟨f, FnP.of (dms := []) (fnG_of F sc_check_rows fun cdv A outer s H E g hr => d_check_rows B h_is_pair hr) (F.binds (fun _ _ _ _ _ _ us hl => match us, hl with | [_], _ => rfl)) .nil (fun _ _ => .nil), hm, F.kp⟩
theorem sc_new_keys : FnScope ["rows", "key", "new"] ["rows"] (defScope s_new_keys) := ⟨rfl, rfl, rfl, by decide +kernel, rfl, by decide +kernel, by decide +kernel⟩
def m_new_keys : MStm := (sSeq (sExpr (mFn (mCons (mv 0) mNil) F_check_rows)) (sRet (mDc [1, 2] (iSeq (mCall (mCons (mv 0) mNil) cSort)) (gTupN [1, 2]) mYes (mv 1) (mv 2))))
def F_new_keys : Fn := posF 1 [] (bodyF 1 3 m_new_keys)
theorem d_new_keys {P : Program} {w : World} {mg : Str → Option Value} {base : Heap} {T : Tab} (B : Bt P w mg T) (h_check_rows : Kn P w mg base T "check_rows" 4 F_check_rows) {f : Addr} {cdv : Value} {A : Around} {outer : List Env} {s : Shared} {H : Hp} {E : XK} {g : Gh}  (hr : RoomG 4 (A.deeper (envOfC "new_keys" (defScope s_new_keys) s.heap.objs.size f cdv))) :
    PMb (cAt P w mg base T ["rows", "key", "new"] "new_keys" (defScope s_new_keys) f cdv A outer s H E g) (defBody s_new_keys) m_new_keys :=
  have nd := sc_new_keys.nd
  have hu := hr.toRoom.units
  have hu2 := room65 hr
  have hgd := hr.gs
  (bm_cons (sm_expr (em_kn h_check_rows (hr.less (by decide)) cAt_takes (am_cons (em_v 0) am_nil))) (bm_one (sm_ret (em_dc (own := [("key", 1), ("new", 2)]) rfl nd (im_seq (em_callB cr_sortA ok_sort B.b_sorted (am_cons (em_v 0) am_nil))) (blkOk_by rfl) (fun _ _ _ _ _ _ => (gc_tup (is := [1, 2]) rfl (pgs_cons (pg_name (i := 1) nd rfl (Or.inl rfl)) (pgs_cons (pg_name (i := 2) nd rfl (Or.inl rfl)) pgs_nil)) (by decide))) (fun _ _ _ _ _ _ => tsm_nil) (fun _ _ _ _ _ _ => (em_v 1)) (fun _ _ _ _ _ _ => (em_v 2))))))
theorem k_new_keys {P : Program} {w : World} {mg : Str → Option Value} {base : Heap} {T : Tab} (B : Bt P w mg T) (h_check_rows : Kn P w mg base T "check_rows" 4 F_check_rows) {f : Addr} {fd : FuncData} (F : Fun T.K "new_keys" "new_keys" s_new_keys f fd) (hm : mg "new_keys" = some (.ref f)) : Kn P w mg base T "new_keys" 5 F_new_keys :=
  ⟨f, FnP.of (dms := []) (fnG_of F sc_new_keys fun cdv A outer s H E g hr => d_new_keys B h_check_rows hr) (F.binds (fun _ _ _ _ _ _ us hl => match us, hl with | [_], _ => rfl)) .nil (fun _ _ => .nil), hm, F.kp⟩
theorem sc_Table___init__ : FnScope ["self", "rows"] ["self", "rows"] (defScope s_Table___init__) := ⟨rfl, rfl, rfl, by decide +kernel, rfl, by decide +kernel, by decide +kernel⟩
def m_Table___init__ : MStm := (sPut "Table" "_new_keys" (mv 0) (mFn (mCons (mv 1) mNil) F_new_keys))
def F_Table___init__ : Fn := starF 1 (bodyF 2 2 m_Table___init__)
theorem d_Table___init__ {P : Program} {w : World} {mg : Str → Option Value} {base : Heap} {T : Tab} (B : Bt P w mg T) (h_new_keys : Kn P w mg base T "new_keys" 5 F_new_keys) {f : Addr} {cdv : Value} {A : Around} {outer : List Env} {s : Shared} {H : Hp} {E : XK} {g : Gh}  (hr : RoomG 5 (A.deeper (envOfC "Table.__init__" (defScope s_Table___init__) s.heap.objs.size f cdv))) :
    PMb (cAt P w mg base T ["self", "rows"] "Table.__init__" (defScope s_Table___init__) f cdv A outer s H E g) (defBody s_Table___init__) m_Table___init__ :=
  have nd := sc_Table___init__.nd
  have hu := hr.toRoom.units
  have hu2 := room65 hr
  have hgd := hr.gs
  (bm_one (sm_put B.fc_Table__new_keys (em_v 0) (em_kn h_new_keys (hr.less (by decide)) cAt_takes (am_cons (em_v 1) am_nil))))
theorem k_Table___init__ {P : Program} {w : World} {mg : Str → Option Value} {base : Heap} {T : Tab} (B : Bt P w mg T) (h_new_keys : Kn P w mg base T "new_keys" 5 F_new_keys) {f : Addr} {fd : FuncData} (F : Fun T.K "__init__" "Table.__init__" s_Table___init__ f fd) : FnP P w mg base T 6 f F_Table___init__ :=
  fnP_star (ps := ["self"]) (pv := "rows") F sc_Table___init__ (fun _ _ _ _ _ _ us rest hl => by match us, hl with | [_], _ => cases rest <;> rfl) fun cdv A outer s H E g hr => d_Table___init__ B h_new_keys hr
theorem sc_statement : FnScope ["keys", "formula", "scan", "low", "high", "rows", "row"] ["keys", "formula", "scan", "low", "high"] (defScope s_statement) := ⟨rfl, rfl, rfl, by decide +kernel, rfl, by decide +kernel, by decide +kernel⟩
def m_statement : MStm := (sSeq (sIf (mNot (mB (mFn (mCons (mv 0) mNil) F_are_different_keys))) (sRai "NotKeys" (mCons (mc (.str "keys is a tuple of different keys")) mNil)) sNx) (sSeq (sExpr (mFn (mCons (mv 1) mNil) F_check_formula)) (sSeq (sExpr (mFn (mCons (mv 2) mNil) F_check_scan)) (sSeq (sExpr (mFn (mCons (mv 3) (mCons (mv 4) mNil)) F_check_bounds)) (sSeq (sIf (mB (m2 oGt (mCall (mCons (mv 0) mNil) (cLenD cLen)) (mc (.int 40)))) (sRaiI "TooMany" ["many", "most"] [.inr 0, .inl " are too many, ", .inr 1, .inl " is the most"] (mCons (mCall (mCons (mv 0) mNil) (cLenD cLen)) (mCons (mc (.int 40)) mNil))) sNx) (sSeq (sSet 5 (mFn (mCons (mv 0) (mCons (mv 1) (mCons (mv 3) (mCons (mv 4) mNil)))) F_changed_rows)) (sSeq (sIf (mNot (mB (mCall (mCons (mLc [6] (iSeq (mv 5)) (gSet 6) mYes (mFn (mCons (m2 (oIxD oIx) (mv 6) (mc (.int 1))) mNil) F_is_key)) mNil) (cAll false)))) (sRai "TooLarge" (mCons (mc (.str "a new key would have more than 30 digits")) mNil)) sNx) (sRet (mTup (mCons (mMkS "Table" F_Table___init__ (mv 5)) (mCons (mFn (mCons (mv 5) (mCons (mv 2) (mCons (mv 3) (mCons (mv 4) mNil)))) F_visited_rows) mNil)))))))))))
def F_statement_k2_scan_low_high : Fn := kwF [(true, 0), (true, 1), (true, 2), (true, 3), (true, 4)] [] (bodyF 5 7 m_statement)
def F_statement : Fn := posF 5 [.str "up", .non, .non] (bodyF 5 7 m_statement)
theorem d_statement {P : Program} {w : World} {mg : Str → Option Value} {base : Heap} {T : Tab} (B : Bt P w mg T) (h_are_different_keys : Kn P w mg base T "are_different_keys" 3 F_are_different_keys) (h_check_formula : Kn P w mg base T "check_formula" 1 F_check_formula) (h_check_scan : Kn P w mg base T "check_scan" 1 F_check_scan) (h_check_bounds : Kn P w mg base T "check_bounds" 3 F_check_bounds) (h_changed_rows : Kn P w mg base T "changed_rows" 4 F_changed_rows) (h_is_key : Kn P w mg base T "is_key" 2 F_is_key) (h_visited_rows : Kn P w mg base T "visited_rows" 4 F_visited_rows) (hT_Table : KnT P w mg base T "Table" 6 F_Table___init__) {f : Addr} {cdv : Value} {A : Around} {outer : List Env} {s : Shared} {H : Hp} {E : XK} {g : Gh}  (hr : RoomG 7 (A.deeper (envOfC "statement" (defScope s_statement) s.heap.objs.size f cdv))) :
    PMb (cAt P w mg base T ["keys", "formula", "scan", "low", "high", "rows", "row"] "statement" (defScope s_statement) f cdv A outer s H E g) (defBody s_statement) m_statement :=
  have nd := sc_statement.nd
  have hu := hr.toRoom.units
  have hu2 := room65 hr
  have hgd := hr.gs
  (bm_cons (sm_if (tm_not (tm_val (em_kn h_are_different_keys (hr.less (by decide)) cAt_takes (am_cons (em_v 0) am_nil)))) (bm_one (sm_raiK B.ke_NotKeys B.ra_NotKeys rfl cAt_takes (am_cons em_str am_nil))) bm_nil) (bm_cons (sm_expr (em_kn h_check_formula (hr.less (by decide)) cAt_takes (am_cons (em_v 1) am_nil))) (bm_cons (sm_expr (em_kn h_check_scan (hr.less (by decide)) cAt_takes (am_cons (em_v 2) am_nil))) (bm_cons (sm_expr (em_kn h_check_bounds (hr.less (by decide)) cAt_takes (am_cons (em_v 3) (am_cons (em_v 4) am_nil)))) (bm_cons (sm_if (tm_cmp ok_gt (em_callG (callG_lenD (CallG.of call_len ok_len)) B.b_len (am_cons (em_v 0) am_nil)) (em_gi B.c_MOST_ROWS) (nomark _)) (bm_one (sm_raiN B.ki_TooMany B.ra_TooMany rfl cAt_takes (hr.less (by decide)) (am_cons (em_callG (callG_lenD (CallG.of call_len ok_len)) B.b_len (am_cons (em_v 0) am_nil)) (am_cons (em_gi B.c_MOST_ROWS) am_nil)))) bm_nil) (bm_cons (sm_set 5 nd rfl (Or.inl rfl) (em_kn h_changed_rows (hr.less (by decide)) cAt_takes (am_cons (em_v 0) (am_cons (em_v 1) (am_cons (em_v 3) (am_cons (em_v 4) am_nil)))))) (bm_cons (sm_if (tm_not (tm_val (em_callB (cr_all rfl) ok_all B.b_all (am_cons (em_lc (own := [("row", 6)]) rfl nd (im_seq (em_v 5)) (blkOk_by rfl) (fun _ _ _ _ _ _ => (gc_name 6 nd rfl (Or.inl rfl) (by decide))) (fun _ _ _ _ _ _ => tsm_nil) (fun _ _ _ _ _ _ => (em_kn h_is_key (hr.less (by decide)) takes0 (am_cons (em_ixG (ixG_dict (room1 hu) ixG_seq) (em_v 6) em_int ⟨fun _ _ => rfl, fun _ _ => rfl⟩) am_nil)))) am_nil)))) (bm_one (sm_raiK B.ke_TooLarge B.ra_TooLarge rfl cAt_takes (am_cons em_str am_nil))) bm_nil) (bm_one (sm_ret (em_tup (am_cons (em_mkS hT_Table (hr.less (by decide)) cAt_takes (em_v 5)) (am_cons (em_kn h_visited_rows (hr.less (by decide)) cAt_takes (am_cons (em_v 5) (am_cons (em_v 2) (am_cons (em_v 3) (am_cons (em_v 4) am_nil))))) am_nil))))))))))))
theorem kF_statement_k2_scan_low_high {P : Program} {w : World} {mg : Str → Option Value} {base : Heap} {T : Tab} (B : Bt P w mg T) (h_are_different_keys : Kn P w mg base T "are_different_keys" 3 F_are_different_keys) (h_check_formula : Kn P w mg base T "check_formula" 1 F_check_formula) (h_check_scan : Kn P w mg base T "check_scan" 1 F_check_scan) (h_check_bounds : Kn P w mg base T "check_bounds" 3 F_check_bounds) (h_changed_rows : Kn P w mg base T "changed_rows" 4 F_changed_rows) (h_is_key : Kn P w mg base T "is_key" 2 F_is_key) (h_visited_rows : Kn P w mg base T "visited_rows" 4 F_visited_rows) (hT_Table : KnT P w mg base T "Table" 6 F_Table___init__) {f : Addr} {fd : FuncData} (F : L2.FunD T.K "statement" "statement" (defArgs s_statement) (defBody s_statement) (defScope s_statement) [] [("scan", V.str "up"), ("low", V.non), ("high", V.non)] f fd) (hm : mg "statement" = some (.ref f)) : KnKw P w mg base T "statement" 8 2 ["scan", "low", "high"] F_statement_k2_scan_low_high :=
  ⟨f, fnW_k (ms := []) (dms := []) (sp := [(true, 0), (true, 1), (true, 2), (true, 3), (true, 4)]) (ks := ["scan", "low", "high"]) F sc_statement 2 (by simp) (by simp) (fun _ _ => .nil) (fun vs zs h1 h2 => match vs, h1, zs, h2 with | [_, _], _, [_, _, _], _ => rfl) (fun D doc pm an cdv ct us mv ws hl hm hw => match us, hl, mv, hm, ws, hw with | [_, _], _, [], _, [_, _, _], _ => rfl) fun cdv A outer s H E g hr => d_statement B h_are_different_keys h_check_formula h_check_scan h_check_bounds h_changed_rows h_is_key h_visited_rows hT_Table hr, hm, F.kp⟩
theorem k_statement {P : Program} {w : World} {mg : Str → Option Value} {base : Heap} {T : Tab} (B : Bt P w mg T) (h_are_different_keys : Kn P w mg base T "are_different_keys" 3 F_are_different_keys) (h_check_formula : Kn P w mg base T "check_formula" 1 F_check_formula) (h_check_scan : Kn P w mg base T "check_scan" 1 F_check_scan) (h_check_bounds : Kn P w mg base T "check_bounds" 3 F_check_bounds) (h_changed_rows : Kn P w mg base T "changed_rows" 4 F_changed_rows) (h_is_key : Kn P w mg base T "is_key" 2 F_is_key) (h_visited_rows : Kn P w mg base T "visited_rows" 4 F_visited_rows) (hT_Table : KnT P w mg base T "Table" 6 F_Table___init__) {f : Addr} {fd : FuncData} (F : L2.FunD T.K "statement" "statement" (defArgs s_statement) (defBody s_statement) (defScope s_statement) [] [("scan", V.str "up"), ("low", V.non), ("high", V.non)] f fd) (hm : mg "statement" = some (.ref f)) : Kn P w mg base T "statement" 8 F_statement :=
  ⟨f, fnP_k (dms := [.str "up", .non, .non]) F sc_statement 2 (by simp) rfl (fun _ _ => .cons (.str _) (.cons .non (.cons .non .nil))) (fun D doc pm an cdv ct us ks hl hk => match us, hl, ks, hk with | [_, _], _, [_, _, _], _ => ⟨_, _, _, _, _, _, rfl, rfl, ⟨_, _, _, _, _, _, rfl, rfl, ⟨_, _, _, _, _, _, rfl, rfl, rfl⟩⟩⟩) fun cdv A outer s H E g hr => d_statement B h_are_different_keys h_check_formula h_check_scan h_check_bounds h_changed_rows h_is_key h_visited_rows hT_Table hr, hm, F.kp⟩
theorem sc_Table_rows : FnScope ["self"] ["self"] (defScope s_Table_rows) := ⟨rfl, rfl, rfl, by decide +kernel, rfl, by decide +kernel, by decide +kernel⟩
def m_Table_rows : MStm := (sRet (mItems (mFld ["Table"] [] "_new_keys" (mv 0))))
def F_Table_rows : Fn := posF 1 [] (bodyF 1 1 m_Table_rows)
theorem d_Table_rows {P : Program} {w : World} {mg : Str → Option Value} {base : Heap} {T : Tab} (B : Bt P w mg T)  {f : Addr} {cdv : Value} {A : Around} {outer : List Env} {s : Shared} {H : Hp} {E : XK} {g : Gh}  (hr : RoomG 0 (A.deeper (envOfC "Table.rows" (defScope s_Table_rows) s.heap.objs.size f cdv))) :
    PMb (cAt P w mg base T ["self"] "Table.rows" (defScope s_Table_rows) f cdv A outer s H E g) (defBody s_Table_rows) m_Table_rows :=
  have nd := sc_Table_rows.nd
  have hu := hr.toRoom.units
  have hu2 := room65 hr
  have hgd := hr.gs
  (bm_one (sm_ret (em_tupItems rfl (em_kf B.f__new_keys (em_v 0)) B.b_tuple)))
theorem k_Table_rows {P : Program} {w : World} {mg : Str → Option Value} {base : Heap} {T : Tab} (B : Bt P w mg T)  {f : Addr} {fd : FuncData} (F : Fun T.K "rows" "Table.rows" s_Table_rows f fd) : FnP P w mg base T 1 f F_Table_rows :=
  FnP.of (dms := []) (fnG_of F sc_Table_rows fun cdv A outer s H E g hr => d_Table_rows B  hr) (F.binds (fun _ _ _ _ _ _ us hl => match us, hl with | [_], _ => rfl)) .nil (fun _ _ => .nil)
theorem sc__law_told : FnScope ["_law_keys", "_law_formula", "_law_way", "_law_least", "_law_most", "_law_table", "_law_order"] ["_law_keys", "_law_formula", "_law_way", "_law_least", "_law_most"] (defScope s__law_told) := ⟨rfl, rfl, rfl, by decide +kernel, rfl, by decide +kernel, by decide +kernel⟩
def m__law_told : MStm := (sSeq (sAsg (mFn (mCat 2 3 (mCons (mv 0) (mCons (mv 1) mNil)) (mCons (mv 2) (mCons (mv 3) (mCons (mv 4) mNil)))) F_statement_k2_scan_low_high) (gUnpN [5, 6])) (sRet (mTup (mCons (mAt (mv 5) (oPrp "Table" F_Table_rows (fun _ _ => .stuck))) (mCons (mv 6) mNil)))))
def F__law_told : Fn := posF 5 [] (bodyF 5 7 m__law_told)
theorem d__law_told {P : Program} {w : World} {mg : Str → Option Value} {base : Heap} {T : Tab} (B : Bt P w mg T) (hK_statement_2_scan_low_high : KnKw P w mg base T "statement" 8 2 ["scan", "low", "high"] F_statement_k2_scan_low_high) (hP_Table_rows : PrK T "Table" "rows" P w mg base 1 F_Table_rows) {f : Addr} {cdv : Value} {A : Around} {outer : List Env} {s : Shared} {H : Hp} {E : XK} {g : Gh}  (hr : RoomG 8 (A.deeper (envOfC "_law_told" (defScope s__law_told) s.heap.objs.size f cdv))) :
    PMb (cAt P w mg base T ["_law_keys", "_law_formula", "_law_way", "_law_least", "_law_most", "_law_table", "_law_order"] "_law_told" (defScope s__law_told) f cdv A outer s H E g) (defBody s__law_told) m__law_told :=
  have nd := sc__law_told.nd
  have hu := hr.toRoom.units
  have hu2 := room65 hr
  have hgd := hr.gs
  (bm_cons (sm_asg (em_knW (ks := ["scan", "low", "high"]) hK_statement_2_scan_low_high (hr.less (by decide)) cAt_takes (am_cons (em_v 0) (am_cons (em_v 1) am_nil)) (ak_cons (em_v 2) (ak_cons (em_v 3) (ak_cons (em_v 4) ak_nil)))) (gm_unpN (is := [5, 6]) rfl (pgs_cons (pg_name (i := 5) nd rfl (Or.inl rfl)) (pgs_cons (pg_name (i := 6) nd rfl (Or.inl rfl)) pgs_nil)))) (bm_one (sm_ret (em_tup (am_cons (em_atG (atG_prp hP_Table_rows (hr.less (by decide)) cAt_takes atG_none) (em_v 5)) (am_cons (em_v 6) am_nil))))))
theorem k__law_told {P : Program} {w : World} {mg : Str → Option Value} {base : Heap} {T : Tab} (B : Bt P w mg T) (hK_statement_2_scan_low_high : KnKw P w mg base T "statement" 8 2 ["scan", "low", "high"] F_statement_k2_scan_low_high) (hP_Table_rows : PrK T "Table" "rows" P w mg base 1 F_Table_rows) {f : Addr} {fd : FuncData} (F : Fun T.K "_law_told" "_law_told" s__law_told f fd) (hm : mg "_law_told" = some (.ref f)) : Kn P w mg base T "_law_told" 9 F__law_told :=
  ⟨f, FnP.of (dms := []) (fnG_of F sc__law_told fun cdv A outer s H E g hr => d__law_told B hK_statement_2_scan_low_high hP_Table_rows hr) (F.binds (fun _ _ _ _ _ _ us hl => match us, hl with | [_, _, _, _, _], _ => rfl)) .nil (fun _ _ => .nil), hm, F.kp⟩
theorem sc__law_defaults_right : FnScope ["_law_keys", "_law_formula", "_law_pair", "_law_rows", "_law_order", "_law_table", "_law_found", "_law_key", "_law_new"] ["_law_keys", "_law_formula", "_law_pair"] (defScope s__law_defaults_right) := ⟨rfl, rfl, rfl, by decide +kernel, rfl, by decide +kernel, by decide +kernel⟩
def m__law_defaults_right : MStm := (sSeq (sAsg (mFn (mCons (mv 0) (mCons (mv 2) (mCons (mc (.str "up")) (mCons (mc .non) (mCons (mc .non) mNil))))) F__law_planned) (gUnpN [3, 4])) (sSeq (sIf (mNot (mB (mCall (mCons (mLc [7, 8] (iSeq (mv 3)) (gTupN [7, 8]) mYes (m2 oLt (mCall (mCons (mv 8) mNil) cAbs) (m2 oPow (mc (.int 10)) (mc (.int 30))))) mNil) (cAll false)))) (sRet (mc (.bl true))) sNx) (sSeq (sAsg (mFn (mCons (mv 0) (mCons (mv 1) mNil)) F_statement) (gUnpN [5, 6])) (sRet (mAndV (m2 (oEqK false (oEqD false)) (mAt (mv 5) (oPrp "Table" F_Table_rows (fun _ _ => .stuck))) (mCall (mCons (mCall (mCons (mv 3) mNil) (cSortT cSortD)) mNil) cTup)) (m2 (oEqK false (oEqD false)) (mv 6) (mv 4)))))))
def F__law_defaults_right : Fn := posF 3 [] (bodyF 3 9 m__law_defaults_right)
theorem d__law_defaults_right {P : Program} {w : World} {mg : Str → Option Value} {base : Heap} {T : Tab} (B : Bt P w mg T) (h__law_planned : Kn P w mg base T "_law_planned" 2 F__law_planned) (h_statement : Kn P w mg base T "statement" 8 F_statement) (hP_Table_rows : PrK T "Table" "rows" P w mg base 1 F_Table_rows) {f : Addr} {cdv : Value} {A : Around} {outer : List Env} {s : Shared} {H : Hp} {E : XK} {g : Gh}  (hr : RoomG 8 (A.deeper (envOfC "_law_defaults_right" (defScope s__law_defaults_right) s.heap.objs.size f cdv))) :
    PMb (cAt P w mg base T ["_law_keys", "_law_formula", "_law_pair", "_law_rows", "_law_order", "_law_table", "_law_found", "_law_key", "_law_new"] "_law_defaults_right" (defScope s__law_defaults_right) f cdv A outer s H E g) (defBody s__law_defaults_right) m__law_defaults_right :=
  have nd := sc__law_defaults_right.nd
  have hu := hr.toRoom.units
  have hu2 := room65 hr
  have hgd := hr.gs
  (bm_cons (sm_asg (em_kn h__law_planned (hr.less (by decide)) cAt_takes (am_cons (em_v 0) (am_cons (em_v 2) (am_cons em_str (am_cons em_non (am_cons em_non am_nil)))))) (gm_unpN (is := [3, 4]) rfl (pgs_cons (pg_name (i := 3) nd rfl (Or.inl rfl)) (pgs_cons (pg_name (i := 4) nd rfl (Or.inl rfl)) pgs_nil)))) (bm_cons (sm_if (tm_not (tm_val (em_callB (cr_all rfl) ok_all B.b_all (am_cons (em_lc (own := [("_law_key", 7), ("_law_new", 8)]) rfl nd (im_seq (em_v 3)) (blkOk_by rfl) (fun _ _ _ _ _ _ => (gc_tup (is := [7, 8]) rfl (pgs_cons (pg_name (i := 7) nd rfl (Or.inl rfl)) (pgs_cons (pg_name (i := 8) nd rfl (Or.inl rfl)) pgs_nil)) (by decide))) (fun _ _ _ _ _ _ => tsm_nil) (fun _ _ _ _ _ _ => (em_cmp ok_lt (em_callB call_abs ok_abs B.b_abs (am_cons (em_v 8) am_nil)) (em_bin ok_pow em_int em_int) (nomark _)))) am_nil)))) (bm_one (sm_ret em_bl)) bm_nil) (bm_cons (sm_asg (em_kn h_statement (hr.less (by decide)) cAt_takes (am_cons (em_v 0) (am_cons (em_v 1) am_nil))) (gm_unpN (is := [5, 6]) rfl (pgs_cons (pg_name (i := 5) nd rfl (Or.inl rfl)) (pgs_cons (pg_name (i := 6) nd rfl (Or.inl rfl)) pgs_nil)))) (bm_one (sm_ret (em_and (em_cmp (op_eqK (room0 hu) (ok_eqD hu)) (em_atG (atG_prp hP_Table_rows (hr.less (by decide)) cAt_takes atG_none) (em_v 5)) (em_callT call_tuple_of ok_tuple B.b_tuple (am_cons (em_callB (CallR.alt (cr_sortTD hu) (CallR.alt (cr_sortD hu) (call_sortedDI rfl))) (ok_sortT ok_sortD) B.b_sorted (am_cons (em_v 3) am_nil)) am_nil)) (nomark _)) (em_one (em_cmp (op_eqK (room0 hu) (ok_eqD hu)) (em_v 6) (em_v 4) (nomark _)))))))))
theorem k__law_defaults_right {P : Program} {w : World} {mg : Str → Option Value} {base : Heap} {T : Tab} (B : Bt P w mg T) (h__law_planned : Kn P w mg base T "_law_planned" 2 F__law_planned) (h_statement : Kn P w mg base T "statement" 8 F_statement) (hP_Table_rows : PrK T "Table" "rows" P w mg base 1 F_Table_rows) {f : Addr} {fd : FuncData} (F : Fun T.K "_law_defaults_right" "_law_defaults_right" s__law_defaults_right f fd) (hm : mg "_law_defaults_right" = some (.ref f)) : Kn P w mg base T "_law_defaults_right" 9 F__law_defaults_right :=
  ⟨f, FnP.of (dms := []) (fnG_of F sc__law_defaults_right fun cdv A outer s H E g hr => d__law_defaults_right B h__law_planned h_statement hP_Table_rows hr) (F.binds (fun _ _ _ _ _ _ us hl => match us, hl with | [_, _, _], _ => rfl)) .nil (fun _ _ => .nil), hm, F.kp⟩
theorem sc_law : FnScope ["_law_script", "_law_cell", "_law_pen_here", "_law_pair", "_law_shift", "_law_keys", "_law_kept", "_law_way", "_law_formula", "_law_pairs_here", "_law_due", "_law_turn", "_law_least", "_law_most", "_law_rows", "_law_order", "_law_key", "_law_new"] ["_law_script"] (defScope s_law) := ⟨rfl, rfl, rfl, by decide +kernel, rfl, by decide +kernel, by decide +kernel⟩
def m_law : MStm := (sSeq (sForI (iSeq (m2 oAdd (mLst (mCons (mFn (mCons (mv 0) (mCons (mc (.int 0)) mNil)) F__law_cell_at) mNil)) (mSl (mv 0) (oSome (mc (.int 1))) (oSome (mc (.int 3)))))) (gSet 1) (sSeq (sSet 2 (mFn (mCons (mv 1) mNil) F__law_pen)) (sSeq (sSet 3 (mFn (mCons (mv 2) mNil) F__law_numbers)) (sSeq (sAsg (mTup (mCons (mMk "Formula" F_Formula___init__ (mCons (m2 (oIxD oIx) (mv 3) (mc (.int 0))) (mCons (m2 (oIxD oIx) (mv 3) (mc (.int 1))) mNil))) (mCons (mFn (mCons (mv 2) (mCons (mFn (mCons (mv 2) (mCons (mLst (mCons (mc (.int 40)) (mCons (mc (.int 9)) (mCons (mc (.int 9)) mNil)))) mNil)) F__law_pick) mNil)) F__law_pairs) mNil))) (gUnpN [8, 9])) (sSeq (sSet 4 (mFn (mCons (mv 2) (mCons (mLst (mCons (mc (.int 0)) (mCons (mIf (mB (m2 (oEqK true (oEqD true)) (m2 (oIxD oIx) (mv 3) (mc (.int 0))) (mc (.int 1)))) (m2 oFdv (m2 (oIxD oIx) (mv 3) (mc (.int 1))) (m2 oSub (mc (.int 1)) (m2 (oIxD oIx) (mv 3) (mc (.int 0))))) (mc (.int 5))) mNil))) mNil)) F__law_pick)) (sSeq (sSet 5 (mCall (mCons (mLc [16, 17] (iSeq (mv 9)) (gTupN [16, 17]) (mB (m2 oLt (mCall (mCons (mv 16) mNil) cAbs) (m2 oPow (mc (.int 10)) (mc (.int 29))))) (m2 oAdd (mv 16) (mv 4))) mNil) cTup)) (sSeq (sSet 6 (mCall (mCons (mv 5) mNil) (cReprL (cReprK (cReprS cRepr))))) (sSeq (sForI (iSeq (mLst (mCons (mc (.str "up")) (mCons (mc (.str "down")) (mCons (mc (.str "far")) (mCons (mc (.str "near")) mNil)))))) (gSet 7) (sSeq (sAsg (mFn (mCons (mv 2) (mCons (mv 3) mNil)) F__law_bounds) (gUnpN [12, 13])) (sSeq (sAsg (mFn (mCons (mv 5) (mCons (mv 3) (mCons (mv 7) (mCons (mv 12) (mCons (mv 13) mNil))))) F__law_planned) (gUnpN [14, 15])) (sSeq (sSet 10 (mTup (mCons (mc (.str "returned")) (mCons (mTup (mCons (mCall (mCons (mCall (mCons (mv 14) mNil) (cSortT cSortD)) mNil) cTup) (mCons (mv 15) mNil))) mNil)))) (sSeq (sIf (mNot (mB (mCall (mCons (mLc [16, 17] (iSeq (mv 14)) (gTupN [16, 17]) mYes (m2 oLt (mCall (mCons (mv 17) mNil) cAbs) (m2 oPow (mc (.int 10)) (mc (.int 30))))) mNil) (cAll false)))) (sSet 10 (mTup (mCons (mc (.str "large")) mNil))) sNx) (sForI (iRange1 (mCons (mc (.int 2)) mNil)) (gSet 11) (sIf (mNot (mB (mFn (mCons (mSaid (saidX WS) (mFn (mCons (mv 5) (mCons (mv 8) (mCons (mv 7) (mCons (mv 12) (mCons (mv 13) mNil))))) F__law_told)) (mCons (mv 10) mNil)) F__law_same))) (sRet (mc (.bl false))) sNx))))))) (sSeq (sIf (mOr (mNot (mB (mFn (mCons (mv 5) (mCons (mv 8) (mCons (mv 3) mNil))) F__law_defaults_right))) (mB (m2 (oEqK true (oEqD true)) (mCall (mCons (mv 5) mNil) (cReprL (cReprK (cReprS cRepr)))) (mv 6)))) (sRet (mc (.bl false))) sNx) (sIf (mNot (mB (mFn (mCons (mLst (mCons (mAt (mv 8) (oPrp "Formula" F_Formula_times (fun _ _ => .stuck))) (mCons (mAt (mv 8) (oPrp "Formula" F_Formula_plus (fun _ _ => .stuck))) mNil))) (mCons (mCall (mCons (mv 3) mNil) cList) mNil)) F__law_same))) (sRet (mc (.bl false))) sNx)))))))))) (sRet (mc (.bl true))))
def F_law : Fn := posF 1 [] (bodyF 1 18 m_law)
theorem d_law {P : Program} {w : World} {mg : Str → Option Value} {base : Heap} {T : Tab} (B : Bt P w mg T) (h__law_cell_at : Kn P w mg base T "_law_cell_at" 1 F__law_cell_at) (h__law_pen : Kn P w mg base T "_law_pen" 1 F__law_pen) (h__law_numbers : Kn P w mg base T "_law_numbers" 3 F__law_numbers) (h__law_pairs : Kn P w mg base T "_law_pairs" 3 F__law_pairs) (h__law_pick : Kn P w mg base T "_law_pick" 2 F__law_pick) (hT_Formula : KnT P w mg base T "Formula" 3 F_Formula___init__) (h__law_bounds : Kn P w mg base T "_law_bounds" 3 F__law_bounds) (h__law_planned : Kn P w mg base T "_law_planned" 2 F__law_planned) (h__law_same : Kn P w mg base T "_law_same" 1 F__law_same) (h__law_said : KnS P w mg base T "_law_said" 10 (saidX WS)) (h__law_told : Kn P w mg base T "_law_told" 9 F__law_told) (h__law_defaults_right : Kn P w mg base T "_law_defaults_right" 9 F__law_defaults_right) (hP_Formula_plus : PrK T "Formula" "plus" P w mg base 1 F_Formula_plus) (hP_Formula_times : PrK T "Formula" "times" P w mg base 1 F_Formula_times) {f : Addr} {cdv : Value} {A : Around} {outer : List Env} {s : Shared} {H : Hp} {E : XK} {g : Gh} (hl : LamF base mg T f "law.<locals>.<lambda>") (hc : CodeOf T.K f cdv) (hr : RoomG 11 (A.deeper (envOfC "law" (defScope s_law) s.heap.objs.size f cdv))) :
    PMb (cAt P w mg base T ["_law_script", "_law_cell", "_law_pen_here", "_law_pair", "_law_shift", "_law_keys", "_law_kept", "_law_way", "_law_formula", "_law_pairs_here", "_law_due", "_law_turn", "_law_least", "_law_most", "_law_rows", "_law_order", "_law_key", "_law_new"] "law" (defScope s_law) f cdv A outer s H E g) (defBody s_law) m_law :=
  have nd := sc_law.nd
  have hu := hr.toRoom.units
  have hu2 := room65 hr
  have hgd := hr.gs
  (bm_cons (sm_for (passes_of rfl) rfl (im_seq (em_bin ok_add (em_lst (am_cons (em_kn h__law_cell_at (hr.less (by decide)) cAt_takes (am_cons (em_v 0) (am_cons em_int am_nil))) am_nil)) (em_sl (em_v 0) (om_some em_int) (om_some em_int)))) (gm_name 1 nd rfl (Or.inl rfl)) (bm_cons (sm_set 2 nd rfl (Or.inl rfl) (em_kn h__law_pen (hr.less (by decide)) cAt_takes (am_cons (em_v 1) am_nil))) (bm_cons (sm_set 3 nd rfl (Or.inl rfl) (em_kn h__law_numbers (hr.less (by decide)) cAt_takes (am_cons (em_v 2) am_nil))) (bm_cons (sm_asg (em_tup (am_cons (em_mk hT_Formula (hr.less (by decide)) cAt_takes (am_cons (em_ixG (ixG_dict (room1 hu) ixG_seq) (em_v 3) em_int ⟨fun _ _ => rfl, fun _ _ => rfl⟩) (am_cons (em_ixG (ixG_dict (room1 hu) ixG_seq) (em_v 3) em_int ⟨fun _ _ => rfl, fun _ _ => rfl⟩) am_nil))) (am_cons (em_kn h__law_pairs (hr.less (by decide)) cAt_takes (am_cons (em_v 2) (am_cons (em_kn h__law_pick (hr.less (by decide)) cAt_takes (am_cons (em_v 2) (am_cons (em_lst (am_cons em_int (am_cons em_int (am_cons em_int am_nil)))) am_nil))) am_nil))) am_nil))) (gm_unpN (is := [8, 9]) rfl (pgs_cons (pg_name (i := 8) nd rfl (Or.inr rfl)) (pgs_cons (pg_name (i := 9) nd rfl (Or.inl rfl)) pgs_nil)))) (bm_cons (sm_set 4 nd rfl (Or.inr rfl) (em_kn h__law_pick (hr.less (by decide)) cAt_takes (am_cons (em_v 2) (am_cons (em_lst (am_cons em_int (am_cons (em_if (tm_cmp (op_neK (room0 hu) (ok_neD hu)) (em_ixG (ixG_dict (room1 hu) ixG_seq) (em_v 3) em_int ⟨fun _ _ => rfl, fun _ _ => rfl⟩) em_int (nomark _)) (em_bin ok_fdv (em_ixG (ixG_dict (room1 hu) ixG_seq) (em_v 3) em_int ⟨fun _ _ => rfl, fun _ _ => rfl⟩) (em_bin ok_sub em_int (em_ixG (ixG_dict (room1 hu) ixG_seq) (em_v 3) em_int ⟨fun _ _ => rfl, fun _ _ => rfl⟩))) em_int) am_nil))) am_nil)))) (bm_cons (sm_set 5 nd rfl (Or.inr rfl) (em_callT call_tuple_of ok_tuple B.b_tuple (am_cons (em_lc (own := [("_law_key", 16), ("_law_new", 17)]) rfl nd (im_seq (em_v 9)) (blkOk_by rfl) (fun _ _ _ _ _ _ => (gc_tup (is := [16, 17]) rfl (pgs_cons (pg_name (i := 16) nd rfl (Or.inl rfl)) (pgs_cons (pg_name (i := 17) nd rfl (Or.inl rfl)) pgs_nil)) (by decide))) (fun _ _ _ _ _ _ => (tsm_one (tm_cmp ok_lt (em_callB call_abs ok_abs B.b_abs (am_cons (em_v 16) am_nil)) (em_bin ok_pow em_int em_int) (nomark _)))) (fun _ _ _ _ _ _ => (em_bin ok_add (em_v 16) (em_v 4)))) am_nil))) (bm_cons (sm_set 6 nd rfl (Or.inl rfl) (em_callB (CallR.alt (call_reprL hgd hu2) (call_reprC hgd hu2)) (ok_reprL (ok_reprK (ok_reprS ok_repr))) B.b_repr (am_cons (em_v 5) am_nil))) (bm_cons (sm_for (passes_of rfl) rfl (im_seq (em_lst (am_cons em_str (am_cons em_str (am_cons em_str (am_cons em_str am_nil)))))) (gm_name 7 nd rfl (Or.inr rfl)) (bm_cons (sm_asg (em_kn h__law_bounds (hr.less (by decide)) cAt_takes (am_cons (em_v 2) (am_cons (em_v 3) am_nil))) (gm_unpN (is := [12, 13]) rfl (pgs_cons (pg_name (i := 12) nd rfl (Or.inr rfl)) (pgs_cons (pg_name (i := 13) nd rfl (Or.inr rfl)) pgs_nil)))) (bm_cons (sm_asg (em_kn h__law_planned (hr.less (by decide)) cAt_takes (am_cons (em_v 5) (am_cons (em_v 3) (am_cons (em_v 7) (am_cons (em_v 12) (am_cons (em_v 13) am_nil)))))) (gm_unpN (is := [14, 15]) rfl (pgs_cons (pg_name (i := 14) nd rfl (Or.inl rfl)) (pgs_cons (pg_name (i := 15) nd rfl (Or.inl rfl)) pgs_nil)))) (bm_cons (sm_set 10 nd rfl (Or.inl rfl) (em_tup (am_cons em_str (am_cons (em_tup (am_cons (em_callT call_tuple_of ok_tuple B.b_tuple (am_cons (em_callB (CallR.alt (cr_sortTD hu) (CallR.alt (cr_sortD hu) (call_sortedDI rfl))) (ok_sortT ok_sortD) B.b_sorted (am_cons (em_v 14) am_nil)) am_nil)) (am_cons (em_v 15) am_nil))) am_nil)))) (bm_cons (sm_if (tm_not (tm_val (em_callB (cr_all rfl) ok_all B.b_all (am_cons (em_lc (own := [("_law_key", 16), ("_law_new", 17)]) rfl nd (im_seq (em_v 14)) (blkOk_by rfl) (fun _ _ _ _ _ _ => (gc_tup (is := [16, 17]) rfl (pgs_cons (pg_name (i := 16) nd rfl (Or.inl rfl)) (pgs_cons (pg_name (i := 17) nd rfl (Or.inl rfl)) pgs_nil)) (by decide))) (fun _ _ _ _ _ _ => tsm_nil) (fun _ _ _ _ _ _ => (em_cmp ok_lt (em_callB call_abs ok_abs B.b_abs (am_cons (em_v 17) am_nil)) (em_bin ok_pow em_int em_int) (nomark _)))) am_nil)))) (bm_one (sm_set 10 nd rfl (Or.inl rfl) (em_tup (am_cons em_str am_nil)))) bm_nil) (bm_one (sm_for (passes_of rfl) rfl (im_range1 (am_cons em_int am_nil) B.b_range) (gm_name 11 nd rfl (Or.inl rfl)) (bm_one (sm_if (tm_not (tm_val (em_kn h__law_same (hr.less (by decide)) cAt_takes (am_cons (em_said (j := 9) (lamK_of hl hc rfl) h__law_said (hr.less (by decide)) cAt_takes (LamX.lamS_by (sc := defScope s_law) (by decide +kernel)) (by decide) (fun A outer s H E f c' gb hr => have hu := hr.toRoom.units; have hu2 := room65 hr; have hgd := hr.gs; (em_kn h__law_told (hr.less (by decide)) lam_takes (am_cons (em_v 5) (am_cons (em_v 8) (am_cons (em_v 7) (am_cons (em_v 12) (am_cons (em_v 13) am_nil)))))))) (am_cons (em_v 10) am_nil))))) (bm_one (sm_ret em_bl)) bm_nil))))))))) (bm_cons (sm_if (tm_w (wm_or (tm_not (tm_val (em_kn h__law_defaults_right (hr.less (by decide)) cAt_takes (am_cons (em_v 5) (am_cons (em_v 8) (am_cons (em_v 3) am_nil)))))) (wm_or1 (tm_cmp (op_neK (room0 hu) (ok_neD hu)) (em_callB (CallR.alt (call_reprL hgd hu2) (call_reprC hgd hu2)) (ok_reprL (ok_reprK (ok_reprS ok_repr))) B.b_repr (am_cons (em_v 5) am_nil)) (em_v 6) (nomark _))))) (bm_one (sm_ret em_bl)) bm_nil) (bm_one (sm_if (tm_not (tm_val (em_kn h__law_same (hr.less (by decide)) cAt_takes (am_cons (em_lst (am_cons (em_atG (atG_prp hP_Formula_times (hr.less (by decide)) cAt_takes atG_none) (em_v 8)) (am_cons (em_atG (atG_prp hP_Formula_plus (hr.less (by decide)) cAt_takes atG_none) (em_v 8)) am_nil))) (am_cons (em_callT call_list_of ok_list B.b_list (am_cons (em_v 3) am_nil)) am_nil))))) (bm_one (sm_ret em_bl)) bm_nil))))))))))) (bm_one (sm_ret em_bl)))
theorem k_law {P : Program} {w : World} {mg : Str → Option Value} {base : Heap} {T : Tab} (B : Bt P w mg T) (h__law_cell_at : Kn P w mg base T "_law_cell_at" 1 F__law_cell_at) (h__law_pen : Kn P w mg base T "_law_pen" 1 F__law_pen) (h__law_numbers : Kn P w mg base T "_law_numbers" 3 F__law_numbers) (h__law_pairs : Kn P w mg base T "_law_pairs" 3 F__law_pairs) (h__law_pick : Kn P w mg base T "_law_pick" 2 F__law_pick) (hT_Formula : KnT P w mg base T "Formula" 3 F_Formula___init__) (h__law_bounds : Kn P w mg base T "_law_bounds" 3 F__law_bounds) (h__law_planned : Kn P w mg base T "_law_planned" 2 F__law_planned) (h__law_same : Kn P w mg base T "_law_same" 1 F__law_same) (h__law_said : KnS P w mg base T "_law_said" 10 (saidX WS)) (h__law_told : Kn P w mg base T "_law_told" 9 F__law_told) (h__law_defaults_right : Kn P w mg base T "_law_defaults_right" 9 F__law_defaults_right) (hP_Formula_plus : PrK T "Formula" "plus" P w mg base 1 F_Formula_plus) (hP_Formula_times : PrK T "Formula" "times" P w mg base 1 F_Formula_times) {f : Addr} {fd : FuncData} (F : Fun T.K "law" "law" s_law f fd) (hl : LamF base mg T f "law.<locals>.<lambda>") (hm : mg "law" = some (.ref f)) : Kn P w mg base T "law" 12 F_law :=
  ⟨f, fnP_c F sc_law (F.binds (fun _ _ _ _ _ _ us hl => match us, hl with | [_], _ => rfl)) fun cdv A outer s H E g hc hr => d_law B h__law_cell_at h__law_pen h__law_numbers h__law_pairs h__law_pick hT_Formula h__law_bounds h__law_planned h__law_same h__law_said h__law_told h__law_defaults_right hP_Formula_plus hP_Formula_times hl hc hr, hm, F.kp⟩
end Lw
namespace Lw
open L2 Ma PySem.Spec PySem PyProof.Rows
open PySem.W
abbrev TT (K : PySem.W.Frag) : Tab := ⟨K, adOf K CS, ((tbs K).map (·.2)).zip qs⟩
theorem ex_at {K : PySem.W.Frag} (h : exs K = true) (i : Nat) {b : PySem.W.Frag → Bool} (e : exL[i]? = some b) : b K = true := List.all_eq_true.mp h b (List.mem_of_getElem? e)
theorem xs_at {K : PySem.W.Frag} (h : exs K = true) {c : Str} (hc : c ∈ XS) : ExcC K (He.ga K c) ∧ XfC K (He.ga K c) := excB_ok (List.all_eq_true.mp (ex_at h 0 rfl) c hc)
theorem row_TooMany (fd : FuncData) (hs : fd.scope = defScope mt_TooMany) (f : Addr) : RowS fd f (jsOf mt_TooMany) (rp mt_TooMany 0) (rp mt_TooMany 1) (rp mt_TooMany 2) (rp mt_TooMany 3) (rp mt_TooMany 4) := by
  cases fd
  cases hs
  exact ⟨fun L => ⟨_, rfl⟩, fun L => rfl, fun L => rfl, fun L => rfl⟩
theorem call_TooMany {w : World} {K : PySem.W.Frag} {mg mb : Str → Option Value} (h : iniB PP K (He.ga K "TooMany") (iniAd K "TooMany") = true) (hw : iniW K "TooMany" = (di_TooMany).val) (hmg : mg "super" = none) (hmb : mb "super" = some (.type "super")) (st0 : stB K (He.ga K "TooMany") "many" = true) (st1 : stB K (He.ga K "TooMany") "most" = true) :
    keepIn K (.ref (He.ga K "TooMany")) = true ∧ ExCall PP w K mg mb (He.ga K "TooMany") ["many", "most"] [.inr 0, .inl " are too many, ", .inr 1, .inl " is the most"] := by
  obtain ⟨kp, cda, cc, fd, F, e1, e2, e3⟩ := iniB_ok (d := di_TooMany) (ps := ["self", "many", "most"]) h hw (by decide +kernel) hmg hmb rfl rfl rfl (by decide +kernel) (by decide +kernel) (by decide +kernel) (by decide +kernel) (fun fd h h2 us hl => by cases fd; cases h; cases h2; match us, hl with | [_, _, _], _ => rfl)
  refine ⟨kp, exCall_two F e2 (hself_of e1 rfl) (by decide) (by decide) (by decide) (by decide) (row_TooMany fd e3 _) (stB_ok st0) (stB_ok st1) ?_ ?_ (by decide) (by decide) (by decide) (.val rfl (by decide) (.txt (.val rfl (by decide) (.txt PtIs.nil))))⟩
  · intro L; cases fd; cases e3; rfl
  · intro L; cases fd; cases e3; rfl
theorem row_Twice (fd : FuncData) (hs : fd.scope = defScope mt_Twice) (f : Addr) : RowS fd f (jsOf mt_Twice) (rp mt_Twice 0) (rp mt_Twice 1) (rp mt_Twice 2) (rp mt_Twice 3) (rp mt_Twice 4) := by
  cases fd
  cases hs
  exact ⟨fun L => ⟨_, rfl⟩, fun L => rfl, fun L => rfl, fun L => rfl⟩
theorem call_Twice {w : World} {K : PySem.W.Frag} {mg mb : Str → Option Value} (h : iniB PP K (He.ga K "Twice") (iniAd K "Twice") = true) (hw : iniW K "Twice" = (di_Twice).val) (hmg : mg "super" = none) (hmb : mb "super" = some (.type "super")) (st0 : stB K (He.ga K "Twice") "key" = true) :
    keepIn K (.ref (He.ga K "Twice")) = true ∧ ExCall PP w K mg mb (He.ga K "Twice") ["key"] [.inl "two rows have the key ", .inr 0] := by
  obtain ⟨kp, cda, cc, fd, F, e1, e2, e3⟩ := iniB_ok (d := di_Twice) (ps := ["self", "key"]) h hw (by decide +kernel) hmg hmb rfl rfl rfl (by decide +kernel) (by decide +kernel) (by decide +kernel) (by decide +kernel) (fun fd h h2 us hl => by cases fd; cases h; cases h2; match us, hl with | [_, _], _ => rfl)
  refine ⟨kp, exCall_one F e2 (hself_of e1 rfl) (by decide) (row_Twice fd e3 _) (stB_ok st0) ?_ (by decide) (by decide) (.txt (.val rfl (by decide) PtIs.nil))⟩
  · intro L; cases fd; cases e3; rfl
theorem bt_of {w : World} {K : PySem.W.Frag} {h : Heap} {mg : Str → Option Value} (X : K.In h) (G : h.Ns mainGlobals mg) (c : SaysP fas fns nis exs K) : Bt PP w mg (TT K) where
  b_ValueError := He.free_ok X G (c.d.fact 61 (f := .free "ValueError") rfl)
  b_abs := He.free_ok X G (c.d.fact 62 (f := .free "abs") rfl)
  b_all := He.free_ok X G (c.d.fact 63 (f := .free "all") rfl)
  b_bool := He.free_ok X G (c.d.fact 64 (f := .free "bool") rfl)
  b_dict := He.free_ok X G (c.d.fact 65 (f := .free "dict") rfl)
  b_enumerate := He.free_ok X G (c.d.fact 66 (f := .free "enumerate") rfl)
  b_int := He.free_ok X G (c.d.fact 67 (f := .free "int") rfl)
  b_isinstance := He.free_ok X G (c.d.fact 68 (f := .free "isinstance") rfl)
  b_len := He.free_ok X G (c.d.fact 69 (f := .free "len") rfl)
  b_list := He.free_ok X G (c.d.fact 70 (f := .free "list") rfl)
  b_max := He.free_ok X G (c.d.fact 71 (f := .free "max") rfl)
  b_min := He.free_ok X G (c.d.fact 72 (f := .free "min") rfl)
  b_range := He.free_ok X G (c.d.fact 73 (f := .free "range") rfl)
  b_repr := He.free_ok X G (c.d.fact 74 (f := .free "repr") rfl)
  b_set := He.free_ok X G (c.d.fact 75 (f := .free "set") rfl)
  b_sorted := He.free_ok X G (c.d.fact 76 (f := .free "sorted") rfl)
  b_tuple := He.free_ok X G (c.d.fact 78 (f := .free "tuple") rfl)
  c_KEY_BOUND := He.int_ok X G (c.d.fact 79 (f := .int "KEY_BOUND" 1000000000000000000000000000000) rfl)
  c_MOST_ROWS := He.int_ok X G (c.d.fact 80 (f := .int "MOST_ROWS" 40) rfl)
  c_SMALL_BOUND := He.int_ok X G (c.d.fact 81 (f := .int "SMALL_BOUND" 1000000000000000) rfl)
  kc_Collision := ⟨_, adOf_mem (K := K) (cs := CS) (c := "Collision") (by decide +kernel), He.glo_ok X G (c.d.fact 33 (f := .glo "Collision") rfl)⟩
  kc_Competing := ⟨_, adOf_mem (K := K) (cs := CS) (c := "Competing") (by decide +kernel), He.glo_ok X G (c.d.fact 34 (f := .glo "Competing") rfl)⟩
  kc_Formula := ⟨_, adOf_mem (K := K) (cs := CS) (c := "Formula") (by decide +kernel), He.glo_ok X G (c.d.fact 35 (f := .glo "Formula") rfl)⟩
  kc_Held := ⟨_, adOf_mem (K := K) (cs := CS) (c := "Held") (by decide +kernel), He.glo_ok X G (c.d.fact 36 (f := .glo "Held") rfl)⟩
  kc_Impossible := ⟨_, adOf_mem (K := K) (cs := CS) (c := "Impossible") (by decide +kernel), He.glo_ok X G (c.d.fact 37 (f := .glo "Impossible") rfl)⟩
  kc_Missing := ⟨_, adOf_mem (K := K) (cs := CS) (c := "Missing") (by decide +kernel), He.glo_ok X G (c.d.fact 38 (f := .glo "Missing") rfl)⟩
  kc_NotBound := ⟨_, adOf_mem (K := K) (cs := CS) (c := "NotBound") (by decide +kernel), He.glo_ok X G (c.d.fact 39 (f := .glo "NotBound") rfl)⟩
  kc_NotBytes := ⟨_, adOf_mem (K := K) (cs := CS) (c := "NotBytes") (by decide +kernel), He.glo_ok X G (c.d.fact 40 (f := .glo "NotBytes") rfl)⟩
  kc_NotDeed := ⟨_, adOf_mem (K := K) (cs := CS) (c := "NotDeed") (by decide +kernel), He.glo_ok X G (c.d.fact 41 (f := .glo "NotDeed") rfl)⟩
  kc_NotFormula := ⟨_, adOf_mem (K := K) (cs := CS) (c := "NotFormula") (by decide +kernel), He.glo_ok X G (c.d.fact 42 (f := .glo "NotFormula") rfl)⟩
  kc_NotInteger := ⟨_, adOf_mem (K := K) (cs := CS) (c := "NotInteger") (by decide +kernel), He.glo_ok X G (c.d.fact 43 (f := .glo "NotInteger") rfl)⟩
  kc_NotKey := ⟨_, adOf_mem (K := K) (cs := CS) (c := "NotKey") (by decide +kernel), He.glo_ok X G (c.d.fact 44 (f := .glo "NotKey") rfl)⟩
  kc_NotKeys := ⟨_, adOf_mem (K := K) (cs := CS) (c := "NotKeys") (by decide +kernel), He.glo_ok X G (c.d.fact 45 (f := .glo "NotKeys") rfl)⟩
  kc_NotLine := ⟨_, adOf_mem (K := K) (cs := CS) (c := "NotLine") (by decide +kernel), He.glo_ok X G (c.d.fact 46 (f := .glo "NotLine") rfl)⟩
  kc_NotOrder := ⟨_, adOf_mem (K := K) (cs := CS) (c := "NotOrder") (by decide +kernel), He.glo_ok X G (c.d.fact 47 (f := .glo "NotOrder") rfl)⟩
  kc_NotRow := ⟨_, adOf_mem (K := K) (cs := CS) (c := "NotRow") (by decide +kernel), He.glo_ok X G (c.d.fact 48 (f := .glo "NotRow") rfl)⟩
  kc_NotRows := ⟨_, adOf_mem (K := K) (cs := CS) (c := "NotRows") (by decide +kernel), He.glo_ok X G (c.d.fact 49 (f := .glo "NotRows") rfl)⟩
  kc_NotRule := ⟨_, adOf_mem (K := K) (cs := CS) (c := "NotRule") (by decide +kernel), He.glo_ok X G (c.d.fact 50 (f := .glo "NotRule") rfl)⟩
  kc_NotScan := ⟨_, adOf_mem (K := K) (cs := CS) (c := "NotScan") (by decide +kernel), He.glo_ok X G (c.d.fact 51 (f := .glo "NotScan") rfl)⟩
  kc_NotTable := ⟨_, adOf_mem (K := K) (cs := CS) (c := "NotTable") (by decide +kernel), He.glo_ok X G (c.d.fact 52 (f := .glo "NotTable") rfl)⟩
  kc_NotText := ⟨_, adOf_mem (K := K) (cs := CS) (c := "NotText") (by decide +kernel), He.glo_ok X G (c.d.fact 53 (f := .glo "NotText") rfl)⟩
  kc_NothingDone := ⟨_, adOf_mem (K := K) (cs := CS) (c := "NothingDone") (by decide +kernel), He.glo_ok X G (c.d.fact 54 (f := .glo "NothingDone") rfl)⟩
  kc_Ringed := ⟨_, adOf_mem (K := K) (cs := CS) (c := "Ringed") (by decide +kernel), He.glo_ok X G (c.d.fact 55 (f := .glo "Ringed") rfl)⟩
  kc_TooLarge := ⟨_, adOf_mem (K := K) (cs := CS) (c := "TooLarge") (by decide +kernel), He.glo_ok X G (c.d.fact 58 (f := .glo "TooLarge") rfl)⟩
  kc_TooMany := ⟨_, adOf_mem (K := K) (cs := CS) (c := "TooMany") (by decide +kernel), He.glo_ok X G (c.d.fact 59 (f := .glo "TooMany") rfl)⟩
  kc_Twice := ⟨_, adOf_mem (K := K) (cs := CS) (c := "Twice") (by decide +kernel), He.glo_ok X G (c.d.fact 60 (f := .glo "Twice") rfl)⟩
  ke_NotBound := ⟨_, adOf_mem (K := K) (cs := CS) (c := "NotBound") (by decide +kernel), He.glo_ok X G (c.d.fact 39 (f := .glo "NotBound") rfl), exkB_ok (ex_at c.more 3 rfl)⟩
  ke_NotFormula := ⟨_, adOf_mem (K := K) (cs := CS) (c := "NotFormula") (by decide +kernel), He.glo_ok X G (c.d.fact 42 (f := .glo "NotFormula") rfl), exkB_ok (ex_at c.more 4 rfl)⟩
  ke_NotInteger := ⟨_, adOf_mem (K := K) (cs := CS) (c := "NotInteger") (by decide +kernel), He.glo_ok X G (c.d.fact 43 (f := .glo "NotInteger") rfl), exkB_ok (ex_at c.more 5 rfl)⟩
  ke_NotKeys := ⟨_, adOf_mem (K := K) (cs := CS) (c := "NotKeys") (by decide +kernel), He.glo_ok X G (c.d.fact 45 (f := .glo "NotKeys") rfl), exkB_ok (ex_at c.more 6 rfl)⟩
  ke_NotRow := ⟨_, adOf_mem (K := K) (cs := CS) (c := "NotRow") (by decide +kernel), He.glo_ok X G (c.d.fact 48 (f := .glo "NotRow") rfl), exkB_ok (ex_at c.more 7 rfl)⟩
  ke_NotScan := ⟨_, adOf_mem (K := K) (cs := CS) (c := "NotScan") (by decide +kernel), He.glo_ok X G (c.d.fact 51 (f := .glo "NotScan") rfl), exkB_ok (ex_at c.more 8 rfl)⟩
  ke_TooLarge := ⟨_, adOf_mem (K := K) (cs := CS) (c := "TooLarge") (by decide +kernel), He.glo_ok X G (c.d.fact 58 (f := .glo "TooLarge") rfl), exkB_ok (ex_at c.more 9 rfl)⟩
  ki_TooMany := ⟨_, adOf_mem (K := K) (cs := CS) (c := "TooMany") (by decide +kernel), He.glo_ok X G (c.d.fact 59 (f := .glo "TooMany") rfl), (call_TooMany (w := w) (mg := mg) (mb := bootBuiltins) (ex_at c.more 12 rfl) (c.ini (d := di_TooMany) (by simp [nis])) (He.free_ok X G (c.d.fact 77 (f := .free "super") rfl)) (by first | rfl | decide +kernel) (ex_at c.more 10 rfl) (ex_at c.more 11 rfl)).1, fun mb hmb => (call_TooMany (w := w) (mg := mg) (mb := mb) (ex_at c.more 12 rfl) (c.ini (d := di_TooMany) (by simp [nis])) (He.free_ok X G (c.d.fact 77 (f := .free "super") rfl)) ((hmb _ (by decide)).trans (by first | rfl | decide +kernel)) (ex_at c.more 10 rfl) (ex_at c.more 11 rfl)).2⟩
  ki_Twice := ⟨_, adOf_mem (K := K) (cs := CS) (c := "Twice") (by decide +kernel), He.glo_ok X G (c.d.fact 60 (f := .glo "Twice") rfl), (call_Twice (w := w) (mg := mg) (mb := bootBuiltins) (ex_at c.more 14 rfl) (c.ini (d := di_Twice) (by simp [nis])) (He.free_ok X G (c.d.fact 77 (f := .free "super") rfl)) (by first | rfl | decide +kernel) (ex_at c.more 13 rfl)).1, fun mb hmb => (call_Twice (w := w) (mg := mg) (mb := mb) (ex_at c.more 14 rfl) (c.ini (d := di_Twice) (by simp [nis])) (He.free_ok X G (c.d.fact 77 (f := .free "super") rfl)) ((hmb _ (by decide)).trans (by first | rfl | decide +kernel)) (ex_at c.more 13 rfl)).2⟩
  f__new_keys := ⟨fun d hd A e => by
    have e : adOf K CS d = some A := e
    rw [adOf_at e]
    simp only [List.mem_cons, List.not_mem_nil, or_false] at hd
    rcases hd with rfl
    · exact ⟨clsB_ok (ex_at c.more 15 rfl), noB_ok (ex_at c.more 16 rfl)⟩, fun c hc => by simp at hc⟩
  f__plus := ⟨fun d hd A e => by
    have e : adOf K CS d = some A := e
    rw [adOf_at e]
    simp only [List.mem_cons, List.not_mem_nil, or_false] at hd
    rcases hd with rfl
    · exact ⟨clsB_ok (ex_at c.more 17 rfl), noB_ok (ex_at c.more 18 rfl)⟩, fun c hc => by simp at hc⟩
  f__times := ⟨fun d hd A e => by
    have e : adOf K CS d = some A := e
    rw [adOf_at e]
    simp only [List.mem_cons, List.not_mem_nil, or_false] at hd
    rcases hd with rfl
    · exact ⟨clsB_ok (ex_at c.more 17 rfl), noB_ok (ex_at c.more 19 rfl)⟩, fun c hc => by simp at hc⟩
  fc_Formula__plus := fldC_of (ex_at c.more 17 rfl) (ex_at c.more 18 rfl)
  fc_Formula__times := fldC_of (ex_at c.more 17 rfl) (ex_at c.more 19 rfl)
  fc_Table__new_keys := fldC_of (ex_at c.more 15 rfl) (ex_at c.more 16 rfl)
  kt_SCANS := ⟨⟨_, He.glo_ok X G (c.d.fact 82 (f := .glo "SCANS") rfl), fun H => He.tupB_ok (ex_at c.more 20 rfl) H⟩, rfl⟩
  ra_NotBound := raiF_of (ex_at c.more 21 rfl)
  ra_NotFormula := raiF_of (ex_at c.more 22 rfl)
  ra_NotInteger := raiF_of (ex_at c.more 23 rfl)
  ra_NotKeys := raiF_of (ex_at c.more 24 rfl)
  ra_NotRow := raiF_of (ex_at c.more 25 rfl)
  ra_NotScan := raiF_of (ex_at c.more 26 rfl)
  ra_TooLarge := raiF_of (ex_at c.more 27 rfl)
  ra_TooMany := raiF_of (ex_at c.more 28 rfl)
  ra_Twice := raiF_of (ex_at c.more 29 rfl)
  sf := saidF_of (He.glo_ok X G (c.d.fact 56 (f := .glo "RowError") rfl)) (fun d hd => xs_at c.more (List.contains_iff_mem.mp (List.all_eq_true.mp (show (["NotRow", "NotTable", "NotKey", "NotKeys", "NotRows", "NotOrder", "NotRule", "NotInteger", "NotScan", "NotBound", "NotFormula", "NotDeed", "NotText", "NotBytes", "NotLine", "Missing", "Impossible", "TooLarge", "NothingDone", "Twice", "Held", "TooMany", "Competing", "Ringed", "Collision"] : List Str).all (fun z => XS.contains z) = true by decide +kernel) d hd))) (ex_at c.more 30 rfl) (ex_at c.more 31 rfl)
  x := ⟨fun d hd A e => by
    have e : adOf K CS d = some A := e
    rw [adOf_at e]
    exact insB_ok (List.all_eq_true.mp (ex_at c.more 1 rfl) d hd), fun d hd A e => by
    have e : adOf K CS d = some A := e
    rw [adOf_at e]
    exact (xs_at c.more hd).1, isiB_ok (ex_at c.more 2 rfl)⟩
theorem fun_at {K : PySem.W.Frag} (c : SaysP fas fns nis exs K) (i : Nat) {d : He5.DefA} (h : fns[i]? = some d := by rfl) : ∃ fd, FunD K d.name d.qual d.params d.body d.scope (d.dvs K) (d.kws K) (d.at_ K) fd := c.d.def_ i h
theorem law_kn {w : World} {K : PySem.W.Frag} {h base : Heap} {mg : Str → Option Value} (X : K.In h) (G : h.Ns mainGlobals mg) (c : SaysP fas fns nis exs K) (t : TabsK tbs K h) (TB : ∀ p ∈ tbs K, LamX.TabB base mg p.1 p.2) : Kn PP w mg base (TT K) "law" 12 F_law := by
  have B := bt_of (w := w) X G c
  obtain ⟨fd0, f0⟩ := fun_at c 0
  have h__law_cell_at := k__law_cell_at (P := PP) (w := w) (base := base) B  (He5.fun_of f0) (He.glo_ok X G (c.d.fact 0 (f := .glo "_law_cell_at") rfl))
  obtain ⟨fd1, f1⟩ := fun_at c 1
  have h__law_pen := k__law_pen (P := PP) (w := w) (base := base) B  (He5.fun_of f1) (He.glo_ok X G (c.d.fact 1 (f := .glo "_law_pen") rfl))
  obtain ⟨fd2, f2⟩ := fun_at c 2
  have h__law_draw := k__law_draw (P := PP) (w := w) (base := base) B  (He5.fun_of f2) (He.glo_ok X G (c.d.fact 2 (f := .glo "_law_draw") rfl))
  obtain ⟨fd3, f3⟩ := fun_at c 3
  have h__law_pick := k__law_pick (P := PP) (w := w) (base := base) B h__law_draw (He5.fun_of f3) (He.glo_ok X G (c.d.fact 3 (f := .glo "_law_pick") rfl))
  obtain ⟨fd4, f4⟩ := fun_at c 4
  have h__law_numbers := k__law_numbers (P := PP) (w := w) (base := base) B h__law_pick h__law_draw (He5.fun_of f4) (He.glo_ok X G (c.d.fact 4 (f := .glo "_law_numbers") rfl))
  obtain ⟨fd5, f5⟩ := fun_at c 5
  have h__law_mixed := k__law_mixed (P := PP) (w := w) (base := base) B h__law_draw (He5.fun_of f5) (He.glo_ok X G (c.d.fact 5 (f := .glo "_law_mixed") rfl))
  obtain ⟨fd6, f6⟩ := fun_at c 6
  have h__law_pairs := k__law_pairs (P := PP) (w := w) (base := base) B h__law_draw h__law_pick h__law_mixed (He5.fun_of f6) (He.glo_ok X G (c.d.fact 6 (f := .glo "_law_pairs") rfl))
  obtain ⟨fd7, f7⟩ := fun_at c 7
  have h_is_integer := k_is_integer (P := PP) (w := w) (base := base) B  (He5.fun_of f7) (He.glo_ok X G (c.d.fact 7 (f := .glo "is_integer") rfl))
  obtain ⟨fd8, f8⟩ := fun_at c 8
  have h_is_small := k_is_small (P := PP) (w := w) (base := base) B h_is_integer (He5.fun_of f8) (He.glo_ok X G (c.d.fact 8 (f := .glo "is_small") rfl))
  obtain ⟨fd9, f9⟩ := fun_at c 9
  have q_Formula___init__ := k_Formula___init__ (P := PP) (w := w) (base := base) B h_is_integer h_is_small f9
  obtain ⟨fd10, f10⟩ := fun_at c 10
  have h__law_bounds := k__law_bounds (P := PP) (w := w) (base := base) B h__law_draw h__law_pick (He5.fun_of f10) (He.glo_ok X G (c.d.fact 9 (f := .glo "_law_bounds") rfl))
  obtain ⟨fd11, f11⟩ := fun_at c 11
  have h__law_inside := k__law_inside (P := PP) (w := w) (base := base) B  (He5.fun_of f11) (He.glo_ok X G (c.d.fact 10 (f := .glo "_law_inside") rfl))
  obtain ⟨fd12, f12⟩ := fun_at c 12
  have h__law_ordered := k__law_ordered (P := PP) (w := w) (base := base) B  (He5.fun_of f12) (He.glo_ok X G (c.d.fact 11 (f := .glo "_law_ordered") rfl))
  obtain ⟨fd13, f13⟩ := fun_at c 13
  have h__law_planned := k__law_planned (P := PP) (w := w) (base := base) B h__law_inside h__law_ordered (He5.fun_of f13) (He.glo_ok X G (c.d.fact 12 (f := .glo "_law_planned") rfl))
  obtain ⟨fd14, f14⟩ := fun_at c 14
  have h__law_same := k__law_same (P := PP) (w := w) (base := base) B  (He5.fun_of f14) (He.glo_ok X G (c.d.fact 13 (f := .glo "_law_same") rfl))
  obtain ⟨fd15, f15⟩ := fun_at c 15
  have h__law_word := k__law_word (P := PP) (w := w) (base := base) B  (He5.fun_of f15) (He.glo_ok X G (c.d.fact 14 (f := .glo "_law_word") rfl))
  obtain ⟨fd16, f16⟩ := fun_at c 16
  have h__law_said := k__law_said (P := PP) (w := w) (base := base) B h__law_word (He5.fun_of f16) (He.glo_ok X G (c.d.fact 15 (f := .glo "_law_said") rfl))
  obtain ⟨fd17, f17⟩ := fun_at c 17
  have h_is_key := k_is_key (P := PP) (w := w) (base := base) B h_is_integer (He5.fun_of f17) (He.glo_ok X G (c.d.fact 16 (f := .glo "is_key") rfl))
  obtain ⟨fd18, f18⟩ := fun_at c 18
  have h_are_different_keys := k_are_different_keys (P := PP) (w := w) (base := base) B h_is_key (He5.fun_of f18) (He.glo_ok X G (c.d.fact 17 (f := .glo "are_different_keys") rfl))
  obtain ⟨fd19, f19⟩ := fun_at c 19
  have h_check_formula := k_check_formula (P := PP) (w := w) (base := base) B  (He5.fun_of f19) (He.glo_ok X G (c.d.fact 18 (f := .glo "check_formula") rfl))
  obtain ⟨fd20, f20⟩ := fun_at c 20
  have h_check_scan := k_check_scan (P := PP) (w := w) (base := base) B  (He5.fun_of f20) (He.glo_ok X G (c.d.fact 19 (f := .glo "check_scan") rfl))
  obtain ⟨fd21, f21⟩ := fun_at c 21
  have h_check_bounds := k_check_bounds (P := PP) (w := w) (base := base) B h_is_small (He5.fun_of f21) (He.glo_ok X G (c.d.fact 20 (f := .glo "check_bounds") rfl))
  obtain ⟨fd22, f22⟩ := fun_at c 22
  have h_is_within := k_is_within (P := PP) (w := w) (base := base) B  (He5.fun_of f22) (He.glo_ok X G (c.d.fact 21 (f := .glo "is_within") rfl))
  obtain ⟨fd23, f23⟩ := fun_at c 23
  have q_Formula_times := k_Formula_times (P := PP) (w := w) (base := base) B  (He5.fun_of f23)
  obtain ⟨fd24, f24⟩ := fun_at c 24
  have q_Formula_plus := k_Formula_plus (P := PP) (w := w) (base := base) B  (He5.fun_of f24)
  have hP_Formula_times := prK_of (c := "Formula") (f := "times") (cs := CS) (ex_at c.more 17 rfl) (ex_at c.more 32 rfl) q_Formula_times
  have hP_Formula_plus := prK_of (c := "Formula") (f := "plus") (cs := CS) (ex_at c.more 17 rfl) (ex_at c.more 33 rfl) q_Formula_plus
  obtain ⟨fd25, f25⟩ := fun_at c 25
  have h_new_key := k_new_key (P := PP) (w := w) (base := base) B hP_Formula_times hP_Formula_plus (He5.fun_of f25) (He.glo_ok X G (c.d.fact 22 (f := .glo "new_key") rfl))
  obtain ⟨fd26, f26⟩ := fun_at c 26
  have h_changed_rows := k_changed_rows (P := PP) (w := w) (base := base) B h_is_within h_new_key (He5.fun_of f26) (He.glo_ok X G (c.d.fact 23 (f := .glo "changed_rows") rfl))
  obtain ⟨fd27, f27⟩ := fun_at c 27
  have h_distance := k_distance (P := PP) (w := w) (base := base) B  (He5.fun_of f27) (He.glo_ok X G (c.d.fact 24 (f := .glo "distance") rfl))
  obtain ⟨fd28, f28⟩ := fun_at c 28
  have h_visited_rows := k_visited_rows (P := PP) (w := w) (base := base) B h_is_within h_distance (He5.fun_of f28) (He.glo_ok X G (c.d.fact 25 (f := .glo "visited_rows") rfl))
  obtain ⟨fd29, f29⟩ := fun_at c 29
  have h_is_pair := k_is_pair (P := PP) (w := w) (base := base) B h_is_key (He5.fun_of f29) (He.glo_ok X G (c.d.fact 26 (f := .glo "is_pair") rfl))
  obtain ⟨fd30, f30⟩ := fun_at c 30
  have h_check_rows := k_check_rows (P := PP) (w := w) (base := base) B h_is_pair (He5.fun_of f30) (He.glo_ok X G (c.d.fact 27 (f := .glo "check_rows") rfl))
  obtain ⟨fd31, f31⟩ := fun_at c 31
  have h_new_keys := k_new_keys (P := PP) (w := w) (base := base) B h_check_rows (He5.fun_of f31) (He.glo_ok X G (c.d.fact 28 (f := .glo "new_keys") rfl))
  obtain ⟨fd32, f32⟩ := fun_at c 32
  have q_Table___init__ := k_Table___init__ (P := PP) (w := w) (base := base) B h_new_keys (He5.fun_of f32)
  have hT_Table := knT_of (c := "Table") (cs := CS) (by decide +kernel) (He.glo_ok X G (c.d.fact 57 (f := .glo "Table") rfl)) (ex_at c.more 34 rfl) q_Table___init__
  obtain ⟨fd33, f33⟩ := fun_at c 33
  have hK_statement_2_scan_low_high := kF_statement_k2_scan_low_high (P := PP) (w := w) (base := base) B h_are_different_keys h_check_formula h_check_scan h_check_bounds h_changed_rows h_is_key h_visited_rows hT_Table f33 (He.glo_ok X G (c.d.fact 29 (f := .glo "statement") rfl))
  have h_statement := k_statement (P := PP) (w := w) (base := base) B h_are_different_keys h_check_formula h_check_scan h_check_bounds h_changed_rows h_is_key h_visited_rows hT_Table f33 (He.glo_ok X G (c.d.fact 29 (f := .glo "statement") rfl))
  obtain ⟨fd34, f34⟩ := fun_at c 34
  have q_Table_rows := k_Table_rows (P := PP) (w := w) (base := base) B  (He5.fun_of f34)
  have hP_Table_rows := prK_of (c := "Table") (f := "rows") (cs := CS) (ex_at c.more 15 rfl) (ex_at c.more 35 rfl) q_Table_rows
  obtain ⟨fd35, f35⟩ := fun_at c 35
  have h__law_told := k__law_told (P := PP) (w := w) (base := base) B hK_statement_2_scan_low_high hP_Table_rows (He5.fun_of f35) (He.glo_ok X G (c.d.fact 30 (f := .glo "_law_told") rfl))
  obtain ⟨fd36, f36⟩ := fun_at c 36
  have h__law_defaults_right := k__law_defaults_right (P := PP) (w := w) (base := base) B h__law_planned h_statement hP_Table_rows (He5.fun_of f36) (He.glo_ok X G (c.d.fact 31 (f := .glo "_law_defaults_right") rfl))
  have hT_Formula := knT_of (c := "Formula") (cs := CS) (by decide +kernel) (He.glo_ok X G (c.d.fact 35 (f := .glo "Formula") rfl)) (ex_at c.more 36 rfl) q_Formula___init__
  obtain ⟨fd37, f37⟩ := fun_at c 37
  have h_law := k_law (P := PP) (w := w) (base := base) B h__law_cell_at h__law_pen h__law_numbers h__law_pairs h__law_pick hT_Formula h__law_bounds h__law_planned h__law_same h__law_said h__law_told h__law_defaults_right hP_Formula_plus hP_Formula_times (F := He5.fun_of f37) (hl := lamF_of (qs := qs) t 0 rfl rfl TB) (hm := He.glo_ok X G (c.d.fact 32 (f := .glo "law") rfl))
  exact h_law
end Lw
namespace Lw
open L2 PySem.W Ma PySem.Spec PySem PyProof.Rows
end Lw
namespace Lw
open L2 Ma PySem.Spec PySem PyProof.Rows
/-! k01: what the machine does with the pen of a cell -/
abbrev pen (a b c : Int) : Cell := .lst [.int a, .int b, .int c]
structure PenK (a b c : Int) : Prop where
  a0 : 0 ≤ a
  b0 : 0 ≤ b
  b1 : b < 2147483647
  c0 : 0 ≤ c
/-- one cell is a pen -/
def IsPen (c : Cell) : Prop := ∃ a b d, c = pen a b d ∧ PenK a b d
theorem draw_at {n : Nat} {m : Int} {hp : List Cell} {c0 : Cell} (h : hp[n]? = some c0) (p0 : IsPen c0) (hm : 0 < m) (hm2 : m < 18446744073709551616) :
    ∃ d c', F__law_draw [.box n, .int m] hp = .ok (.int d) (hp.set n c') ∧ 0 ≤ d ∧ d < m ∧ IsPen c' := by
  obtain ⟨a, b, c, rfl, p⟩ := p0
  have hm3 := hm2
  obtain ⟨hn, hg⟩ := List.getElem?_eq_some_iff.mp h
  by_cases ha : 0 < a
  · refine ⟨a % m, pen (a / m) b c, ?_, Int.emod_nonneg _ (by omega), Int.emod_lt_of_pos _ hm, _, _, _, rfl, ⟨Int.ediv_nonneg p.a0 (by omega), p.b0, p.b1, p.c0⟩⟩
    simp [F__law_draw, m__law_draw, posF, bodyF, starF, sSeq, sIf, sSet, sRet, sNx, sAsg, sExpr, sForI, sPut, fPut, putFM, Ma.gSub, gSet, fSetL, fSetD, fSetI, dictL, dictOf, oIxD, m2, mv, mc, mB, isB, mNot, mAnd, mOr, mAndV, mNotV, mCons, mNil, mCall, mFn, upF, mLst, mTup, mFld, oFld, fldM, cInt, cLenD, cLen, cMax, oIx, seqL, lstOf, itemsOf, oInt, oGt, oLt, oAdd, oSub, oMul, oDivW, oMod, yes, Res.bind, atI, ixN, mYes, mAt, oPrp, isIns, noErr, mItems, iSeq, mChain, mNeg, oInD, oEqK, oEqD, datT, dat, datL, big, upP, pBl, pNot, pNat, pTru, cDun, oDunR, oDunC, oDunN, oDun, tin, tyAt, oDunBs, oDunRf, oMulL, cMin, oInL, oIsN, Ma.isNon, gUnpN, gTupN, setM, hg, ha, hm, hm2, hm3, hn]
  · have e1 : ∀ x y : Int, 0 < y → 0 ≤ x % y := fun x y hy => Int.emod_nonneg x (by omega)
    have e2 : ∀ x y : Int, 0 < y → x % y < y := fun x y hy => Int.emod_lt_of_pos x hy
    have b0 := e1 (b * 48271 + 7919 * (c + 1) + 11) 2147483647 (by decide)
    have b1 := e2 (b * 48271 + 7919 * (c + 1) + 11) 2147483647 (by decide)
    generalize hb : (b * 48271 + 7919 * (c + 1) + 11) % 2147483647 = b' at b0 b1
    have m1 : ∀ x : Int, mulOk x 48271 = true := fun x => decide_eq_true (Or.inr ⟨by decide, by decide⟩)
    have m2' : ∀ x : Int, mulOk x 16807 = true := fun x => decide_eq_true (Or.inr ⟨by decide, by decide⟩)
    have m3 : ∀ x : Int, mulOk 7919 x = true := fun x => decide_eq_true (Or.inl ⟨by decide, by decide⟩)
    have m4 : ∀ x : Int, mulOk 40014 x = true := fun x => decide_eq_true (Or.inl ⟨by decide, by decide⟩)
    have mo : mulOk b' b' = true := by unfold mulOk; exact decide_eq_true (Or.inl ⟨by omega, by omega⟩)
    refine ⟨((b' * b' + 40014 * b' + (c + 1)) % 2147483563 * 16807 % 2147483647 / 64) % m, pen a b' (c + 1), ?_, e1 _ _ hm, e2 _ _ hm, _, _, _, rfl, ⟨p.a0, b0, b1, by have := p.c0; omega⟩⟩
    simp [F__law_draw, m__law_draw, posF, bodyF, starF, sSeq, sIf, sSet, sRet, sNx, sAsg, sExpr, sForI, sPut, fPut, putFM, Ma.gSub, gSet, fSetL, fSetD, fSetI, dictL, dictOf, oIxD, m2, mv, mc, mB, isB, mNot, mAnd, mOr, mAndV, mNotV, mCons, mNil, mCall, mFn, upF, mLst, mTup, mFld, oFld, fldM, cInt, cLenD, cLen, cMax, oIx, seqL, lstOf, itemsOf, oInt, oGt, oLt, oAdd, oSub, oMul, oDivW, oMod, yes, Res.bind, atI, ixN, mYes, mAt, oPrp, isIns, noErr, mItems, iSeq, mChain, mNeg, oInD, oEqK, oEqD, datT, dat, datL, big, upP, pBl, pNot, pNat, pTru, cDun, oDunR, oDunC, oDunN, oDun, tin, tyAt, oDunBs, oDunRf, oMulL, cMin, oInL, oIsN, Ma.isNon, gUnpN, gTupN, setM, hg, ha, hm, hm2, hm3, hn, hb, m1, m2', m3, m4, mo]
theorem pick_at {n : Nat} {hp : List Cell} {ms : List M} {c0 : Cell} (h : hp[n]? = some c0) (p : IsPen c0) (h0 : 0 < ms.length) (h1 : (ms.length : Int) < 1073741824) :
    ∃ m c', m ∈ ms ∧ F__law_pick [.box n, .lst ms] hp = .ok m (hp.set n c') ∧ IsPen c' := by
  obtain ⟨d, c', e, d0, d1, p'⟩ := draw_at h p (m := (ms.length : Int)) (by omega) (by omega)
  have hd : d.toNat < ms.length := by omega
  refine ⟨ms[d.toNat], c', List.getElem_mem hd, ?_, p'⟩
  simp [F__law_pick, m__law_pick, posF, bodyF, starF, sSeq, sIf, sSet, sRet, sNx, sAsg, sExpr, sForI, sPut, fPut, putFM, Ma.gSub, gSet, fSetL, fSetD, fSetI, dictL, dictOf, oIxD, m2, mv, mc, mB, isB, mNot, mAnd, mOr, mAndV, mNotV, mCons, mNil, mCall, mFn, upF, mLst, mTup, mFld, oFld, fldM, cInt, cLenD, cLen, cMax, oIx, seqL, lstOf, itemsOf, oInt, oGt, oLt, oAdd, oSub, oMul, oDivW, oMod, yes, Res.bind, atI, ixN, mYes, mAt, oPrp, isIns, noErr, mItems, iSeq, mChain, mNeg, oInD, oEqK, oEqD, datT, dat, datL, big, upP, pBl, pNot, pNat, pTru, cDun, oDunR, oDunC, oDunN, oDun, tin, tyAt, oDunBs, oDunRf, oMulL, cMin, oInL, oIsN, Ma.isNon, gUnpN, gTupN, setM, e, d0, d1, hd]
theorem pen_of (i : Int) : IsPen (pen (if i - 10 ^ 18 > 0 then i - 10 ^ 18 else 0) (i % 2147483629) 1) :=
  ⟨_, _, _, rfl, ⟨by split <;> omega, by omega, by omega, by omega⟩⟩
theorem pen_at {i : Int} {hp : List Cell} : F__law_pen [.int i] hp = .ok (.box hp.length) (hp ++ [pen (if i - 10 ^ 18 > 0 then i - 10 ^ 18 else 0) (i % 2147483629) 1]) := by kernel_rfl
end Lw
namespace Lw
open L2 Ma PySem.Spec PySem PyProof.Rows
/-! k01: tables -/
def KB (i : Int) : Prop := -10 ^ 30 < i ∧ i < 10 ^ 30
def KP (p : IP) : Prop := KB p.1 ∧ KB p.2
theorem is_integer_at {i : Int} {hp : List Cell} : F_is_integer [.int i] hp = .ok (.bl true) hp := by kernel_rfl
theorem is_key_at {i : Int} {hp : List Cell} (h : KB i) : F_is_key [.int i] hp = .ok (.bl true) hp := by
  obtain ⟨h1, h2⟩ := h
  have z : (10 : Int) ^ 30 = 1000000000000000000000000000000 := by decide
  rw [z] at h1 h2
  simp [F_is_key, m_is_key, is_integer_at, posF, bodyF, starF, sSeq, sIf, sSet, sRet, sNx, sAsg, sExpr, sForI, sPut, fPut, putFM, Ma.gSub, gSet, fSetL, fSetD, fSetI, dictL, dictOf, oIxD, m2, mv, mc, mB, isB, mNot, mAnd, mOr, mAndV, mNotV, mCons, mNil, mCall, mFn, upF, mLst, mTup, mFld, oFld, fldM, cInt, cLenD, cLen, cMax, oIx, seqL, lstOf, itemsOf, oInt, oGt, oLt, oAdd, oSub, oMul, oDivW, oMod, yes, Res.bind, atI, ixN, mYes, mAt, oPrp, isIns, noErr, mItems, iSeq, mChain, mNeg, oInD, oEqK, oEqD, datT, dat, datL, big, upP, pBl, pNot, pNat, pTru, cDun, oDunR, oDunC, oDunN, oDun, tin, tyAt, oDunBs, oDunRf, oMulL, cMin, oInL, oIsN, Ma.isNon, gUnpN, gTupN, setM, h1, h2]
theorem is_pair_at {p : IP} {hp : List Cell} (h : KP p) : F_is_pair [pM p] hp = .ok (.bl true) hp := by
  have e : ∀ {s : MS}, cIsi IS XS isi [.tup [.int p.1, .int p.2], .ty "tuple"] s = .ok (.bl true) s := fun {s} => by kernel_rfl
  simp [F_is_pair, m_is_pair, is_key_at h.1, is_key_at h.2, pM, e, posF, bodyF, starF, sSeq, sIf, sSet, sRet, sNx, sAsg, sExpr, sForI, sPut, fPut, putFM, Ma.gSub, gSet, fSetL, fSetD, fSetI, dictL, dictOf, oIxD, m2, mv, mc, mB, isB, mNot, mAnd, mOr, mAndV, mNotV, mCons, mNil, mCall, mFn, upF, mLst, mTup, mFld, oFld, fldM, cInt, cLenD, cLen, cMax, oIx, seqL, lstOf, itemsOf, oInt, oGt, oLt, oAdd, oSub, oMul, oDivW, oMod, yes, Res.bind, atI, ixN, mYes, mAt, oPrp, isIns, noErr, mItems, iSeq, mChain, mNeg, oInD, oEqK, oEqD, datT, dat, datL, big, upP, pBl, pNot, pNat, pTru, cDun, oDunR, oDunC, oDunN, oDun, tin, tyAt, oDunBs, oDunRf, oMulL, cMin, oInL, oIsN, Ma.isNon, gUnpN, gTupN, setM, SeqAt.shaped, PyData.canLay0, PyData.depth, PyData.eqv]
/-- the rows of a table: keys, each once, at most 40 -/
structure Rows (ps : List IP) : Prop where
  kp : ∀ p ∈ ps, KP p
  nd : (keysP ps).Nodup
  le : ps.length ≤ 40
def seenM (ps : List IP) : List (Key × M) := ps.map fun p => (.inl p.1, .bl true)
theorem valG_seen (k : Int) (ps : List IP) (h : k ∉ keysP ps) : valG (seenM ps) (.inl k) = none := by
  unfold valG seenM
  rw [Option.map_eq_none_iff, List.find?_eq_none]
  intro x hx
  obtain ⟨p, hp, rfl⟩ := List.mem_map.mp hx
  simp only [decide_eq_true_eq]
  intro e
  exact h (List.mem_map.mpr ⟨p, hp, Sum.inl.inj e⟩)
theorem putG_seen (k : Int) (ps : List IP) (v : Int) (h : k ∉ keysP ps) : putG (seenM ps) (.inl k) (.bl true) = seenM (ps ++ [(k, v)]) := by
  unfold putG
  have e : ((seenM ps).any fun kv => decide (kv.1 = (.inl k : Key))) = false := by
    rw [List.any_eq_false]
    intro x hx
    obtain ⟨p, hp, rfl⟩ := List.mem_map.mp hx
    simp only [decide_eq_true_eq]
    intro e
    exact h (List.mem_map.mpr ⟨p, hp, Sum.inl.inj e⟩)
  rw [e, if_neg (by decide)]
  simp [seenM]
def crLoop : MStm := (sSeq (sIf (mB (m2 (oInD false (oInL false)) (mv 2) (mv 1))) (sRaiI "Twice" ["key"] [.inl "two rows have the key ", .inr 0] (mCons (mv 2) mNil)) sNx) (sAsg (mc (.bl true)) (gSub (mv 1) (mv 2) (fSetD fSetL))))
theorem cr_step {n : Nat} {ts : M} {o2 o3 : Option M} {p : IP} {ps : List IP} {hp : List Cell} (h : hp[n]? = some (.dK (seenM ps))) (hk : p.1 ∉ keysP ps) (hl : ps.length < 40) :
    ∃ s1 s2, gUnpN [2, 3] (pM p) ⟨[some ts, some (.box n), o2, o3, none], hp⟩ = .ok () s1 ∧ crLoop s1 = .ok .nx s2 ∧ s2 = ⟨[some ts, some (.box n), some (.int p.1), some (.int p.2), none], hp.set n (.dK (seenM (ps ++ [p])))⟩ := by
  refine ⟨⟨[some ts, some (.box n), some (.int p.1), some (.int p.2), none], hp⟩, _, by rfl, ?_, rfl⟩
  have e := valG_seen _ _ hk
  have e2 := putG_seen p.1 ps p.2 hk
  have e3 : (seenM ps).length < 16777216 := by unfold seenM; rw [List.length_map]; omega
  simp [crLoop, posF, bodyF, starF, sSeq, sIf, sSet, sRet, sNx, sAsg, sExpr, sForI, sPut, fPut, putFM, Ma.gSub, gSet, fSetL, fSetD, fSetI, dictL, dictOf, oIxD, m2, mv, mc, mB, isB, mNot, mAnd, mOr, mAndV, mNotV, mCons, mNil, mCall, mFn, upF, mLst, mTup, mFld, oFld, fldM, cInt, cLenD, cLen, cMax, oIx, seqL, lstOf, itemsOf, oInt, oGt, oLt, oAdd, oSub, oMul, oDivW, oMod, yes, Res.bind, atI, ixN, mYes, mAt, oPrp, isIns, noErr, mItems, iSeq, mChain, mNeg, oInD, oEqK, oEqD, datT, dat, datL, big, upP, pBl, pNot, pNat, pTru, cDun, oDunR, oDunC, oDunN, oDun, tin, tyAt, oDunBs, oDunRf, oMulL, cMin, oInL, oIsN, Ma.isNon, gUnpN, gTupN, setM, h, keyM, e, e2, e3]
theorem cr_loop {n : Nat} {ts : M} : ∀ {qs ps : List IP} {o2 o3 : Option M} {hp : List Cell}, hp[n]? = some (.dK (seenM ps)) → (keysP (ps ++ qs)).Nodup → ps.length + qs.length ≤ 40 →
    ∃ o2' o3', sFor (gUnpN [2, 3]) crLoop (rm qs) ⟨[some ts, some (.box n), o2, o3, none], hp⟩ = .ok .nx ⟨[some ts, some (.box n), o2', o3', none], hp.set n (.dK (seenM (ps ++ qs)))⟩
  | [], ps, o2, o3, hp, h, _, _ => by
    obtain ⟨hn, hg⟩ := List.getElem?_eq_some_iff.mp h
    refine ⟨o2, o3, ?_⟩
    show Res.ok _ _ = _
    rw [List.append_nil, ← hg, List.set_getElem_self]
  | q :: qs, ps, o2, o3, hp, h, hnd, hl => by
    obtain ⟨hn, hg⟩ := List.getElem?_eq_some_iff.mp h
    rw [List.length_cons] at hl
    have hq : q.1 ∉ keysP ps := by
      intro hm
      rw [keysP, List.map_append, List.nodup_append] at hnd
      exact hnd.2.2 q.1 hm q.1 (by simp) rfl
    obtain ⟨s1, s2, e1, e2, rfl⟩ := cr_step (ts := ts) (o2 := o2) (o3 := o3) h hq (by omega)
    have ea : ps ++ q :: qs = (ps ++ [q]) ++ qs := by simp
    rw [ea] at hnd ⊢
    obtain ⟨o2', o3', e3⟩ := cr_loop (n := n) (ts := ts) (qs := qs) (ps := ps ++ [q]) (o2 := some (.int q.1)) (o3 := some (.int q.2)) (hp := hp.set n (.dK (seenM (ps ++ [q])))) (by rw [List.getElem?_set_self hn]) hnd (by simp; omega)
    refine ⟨o2', o3', ?_⟩
    show sFor (gUnpN [2, 3]) crLoop (pM q :: rm qs) _ = _
    rw [sFor]; dsimp only; rw [e1]; show (crLoop s1).bind _ = _; rw [e2]
    rw [List.set_set] at e3
    exact e3
theorem check_rows_at {ps : List IP} {hp : List Cell} (R : Rows ps) : F_check_rows [.tup (rm ps)] hp = .ok .non (hp ++ [.dK (seenM ps)]) := by
  have e1 : mLc [4] (iSeq (mv 0)) (gSet 4) mYes (mFn (mCons (mv 4) mNil) F_is_pair) ⟨[some (.tup (rm ps)), none, none, none, none], hp⟩ = .ok (.lst ((rm ps).map fun _ => M.bl true)) ⟨[some (.tup (rm ps)), none, none, none, none], hp⟩ := by
    refine mlc_of (xs := rm ps) (f := fun _ => M.bl true) rfl (by rw [List.length_map]; exact Nat.le_trans R.le (by decide)) fun x hx => ?_
    obtain ⟨p, hp', rfl⟩ := List.mem_map.mp hx
    exact ⟨_, _, [some (.tup (rm ps)), none, none, none, some (pM p)], rfl, rfl, fn_of (ms := [pM p]) rfl (is_pair_at (R.kp p hp'))⟩
  have e2 : mCall (mCons (mLc [4] (iSeq (mv 0)) (gSet 4) mYes (mFn (mCons (mv 4) mNil) F_is_pair)) mNil) (cAll false) ⟨[some (.tup (rm ps)), none, none, none, none], hp⟩ = .ok (.bl true) ⟨[some (.tup (rm ps)), none, none, none, none], hp⟩ := by
    refine call_of (mone e1) ?_
    show (match blsOf ((rm ps).map fun _ => M.bl true) with | some bs => Res.ok (M.bl (bs.all id)) _ | none => Res.stuck) = _
    rw [blsOf_map (fun _ => true)]
    simp
  have e3 : (hp ++ [Cell.dK (seenM [])])[hp.length]? = some (.dK (seenM [])) := List.getElem?_concat_length
  obtain ⟨o2, o3, e4⟩ := cr_loop (n := hp.length) (ts := .tup (rm ps)) (qs := ps) (ps := []) (o2 := none) (o3 := none) e3 R.nd (by have := R.le; simpa using this)
  have e5 : (hp ++ [Cell.dK (seenM [])]).set hp.length (.dK (seenM ([] ++ ps))) = hp ++ [.dK (seenM ps)] := by simp
  rw [e5] at e4
  have e6 : ¬ ((rm ps).length : Int) > 40 := by rw [List.length_map]; have := R.le; omega
  have e7 : (sIf (mB (m2 oGt (mCall (mCons (mv 0) mNil) (cLenD cLen)) (mc (.int 40)))) (sRaiI "TooMany" ["many", "most"] [.inr 0, .inl " are too many, ", .inr 1, .inl " is the most"] (mCons (mCall (mCons (mv 0) mNil) (cLenD cLen)) (mCons (mc (.int 40)) mNil))) sNx) ⟨[some (.tup (rm ps)), some (.box hp.length), o2, o3, none], hp ++ [.dK (seenM ps)]⟩ = .ok .nx ⟨[some (.tup (rm ps)), some (.box hp.length), o2, o3, none], hp ++ [.dK (seenM ps)]⟩ := by
    refine (if_of (k := false) (b_of (m2_of (x := .int (rm ps).length) (y := .int 40) rfl rfl ?_))).trans rfl
    show Res.ok (M.bl (decide (((rm ps).length : Int) > 40))) _ = _
    rw [decide_eq_false e6]
  refine body_nx (s' := ⟨[some (.tup (rm ps)), some (.box hp.length), o2, o3, none], hp ++ [.dK (seenM ps)]⟩) ?_
  refine seq_of ((if_of (k := false) (not_of (b_of e2))).trans rfl) (seq_of (set_of (m := .box hp.length) rfl) (seq_of (for_of (xs := rm ps) rfl ?_) e7))
  exact e4
end Lw
namespace Lw
open L2 Ma PySem.Spec PySem PyProof.Rows
/-! k01: what a table is and does -/
abbrev insT (d : Nat) : Cell := .ins "Table" [("_new_keys", .box d)]
structure TabAt (hp : List Cell) (n d : Nat) (T : List IP) : Prop where
  i : hp[n]? = some (insT d)
  d : hp[d]? = some (.dK (dm T))
theorem srtP_len (ps : List IP) : (srtP ps).length = ps.length := (srtP_perm ps).length_eq
theorem new_keys_at {ps : List IP} {hp : List Cell} (R : Rows ps) : F_new_keys [.tup (rm ps)] hp = .ok (.box (hp.length + 1)) (hp ++ [.dK (seenM ps), .dK (dm (srtP ps))]) := by
  have e1 : mCall (mCons (mv 0) mNil) cSort ⟨[some (.tup (rm ps)), none, none], hp ++ [.dK (seenM ps)]⟩ = .ok (.lst (rm (srtP ps))) ⟨[some (.tup (rm ps)), none, none], hp ++ [.dK (seenM ps)]⟩ := by
    refine call_of (mone (x := .tup (rm ps)) rfl) ?_
    show (match pairsOf (rm ps) with | some ps => Res.ok (M.lst ((srtP ps).map pM)) _ | none => Res.stuck) = _
    rw [pairsOf_rm]
  have e2 : mDc [1, 2] (iSeq (mCall (mCons (mv 0) mNil) cSort)) (gTupN [1, 2]) mYes (mv 1) (mv 2) ⟨[some (.tup (rm ps)), none, none], hp ++ [.dK (seenM ps)]⟩ =
      .ok (.box (hp.length + 1)) ⟨[some (.tup (rm ps)), none, none], hp ++ [.dK (seenM ps), .dK (dm (srtP ps))]⟩ := by
    unfold mDc
    have e3 : iSeq (mCall (mCons (mv 0) mNil) cSort) ⟨[some (.tup (rm ps)), none, none], hp ++ [.dK (seenM ps)]⟩ = .ok (rm (srtP ps)) ⟨[some (.tup (rm ps)), none, none], hp ++ [.dK (seenM ps)]⟩ := by
      unfold iSeq; rw [e1]; rfl
    rw [e3]
    show Res.bind (dcLoop [1, 2] (gTupN [1, 2]) mYes (mv 1) (mv 2) (rm (srtP ps)) (dm []) _) _ = _
    have hn : (keysP ([] ++ srtP ps)).Nodup := ((srtP_perm ps).map _).nodup_iff.mpr R.nd
    have e4 := dc_rows (vs := [1, 2]) (tg := gTupN [1, 2]) (tt := mYes) (kx := mv 1) (el := mv 2) (ps := srtP ps) (acc := []) (s := ⟨[some (.tup (rm ps)), none, none], hp ++ [.dK (seenM ps)]⟩) (by rw [srtP_len]; have := R.le; simp [big]; omega) hn
      (fun p _ => ⟨_, _, [some (.tup (rm ps)), some (.int p.1), some (.int p.2)], [some (.tup (rm ps)), some (.int p.1), some (.int p.2)], rfl, rfl, rfl, rfl⟩)
    rw [e4]
    show Res.ok _ _ = _
    simp
  refine body_rt (s' := ⟨[some (.tup (rm ps)), none, none], hp ++ [.dK (seenM ps), .dK (dm (srtP ps))]⟩) ?_
  refine seq_of (s1 := ⟨[some (.tup (rm ps)), none, none], hp ++ [.dK (seenM ps)]⟩) ?_ (ret_of e2)
  have e0 : mFn (mCons (mv 0) mNil) F_check_rows ⟨[some (.tup (rm ps)), none, none], hp⟩ = .ok .non ⟨[some (.tup (rm ps)), none, none], hp ++ [.dK (seenM ps)]⟩ := fn_of (ms := [.tup (rm ps)]) (mone rfl) (check_rows_at R)
  show sExpr _ ⟨[some (.tup (rm ps)), none, none], hp⟩ = _
  unfold sExpr
  rw [e0]
  rfl
theorem init_at {n : Nat} {ps : List IP} {hp : List Cell} (h : hp[n]? = some (.ins "Table" [])) (R : Rows ps) :
    F_Table___init__ (.box n :: rm ps) hp = .ok .non (hp.set n (insT (hp.length + 1)) ++ [.dK (seenM ps), .dK (dm (srtP ps))]) := by
  obtain ⟨hn, hg⟩ := List.getElem?_eq_some_iff.mp h
  have hl : 1 ≤ (M.box n :: rm ps).length ∧ (M.box n :: rm ps).length ≤ big := by
    rw [List.length_cons, List.length_map]
    have := R.le
    exact ⟨by omega, by simp [big]; omega⟩
  unfold F_Table___init__ starF
  rw [if_pos hl]
  refine body_nx (s' := ⟨[some (.box n), some (.tup (rm ps))], hp.set n (insT (hp.length + 1)) ++ [.dK (seenM ps), .dK (dm (srtP ps))]⟩) ?_
  show m_Table___init__ ⟨[some (.box n), some (.tup (rm ps))], hp⟩ = _
  unfold m_Table___init__ sPut
  have e1 : mFn (mCons (mv 1) mNil) F_new_keys ⟨[some (.box n), some (.tup (rm ps))], hp⟩ = .ok (.box (hp.length + 1)) ⟨[some (.box n), some (.tup (rm ps))], hp ++ [.dK (seenM ps), .dK (dm (srtP ps))]⟩ := fn_of (ms := [.tup (rm ps)]) (mone rfl) (new_keys_at R)
  rw [e1]
  have hg2 : (hp ++ [Cell.dK (seenM ps), .dK (dm (srtP ps))])[n]? = some (.ins "Table" []) := by rw [List.getElem?_append_left hn]; exact h
  show fPut "Table" "_new_keys" (.box n) (.box (hp.length + 1)) ⟨_, hp ++ [.dK (seenM ps), .dK (dm (srtP ps))]⟩ = _
  unfold fPut
  dsimp only
  rw [hg2]
  dsimp only
  rw [if_pos ⟨rfl, by decide⟩, List.set_append_left _ _ hn]
  rfl
abbrev mkCells (l : Nat) (ps : List IP) : List Cell := [insT (l + 2), .dK (seenM ps), .dK (dm (srtP ps))]
theorem mk_at {ps : List IP} {hp : List Cell} {env : List (Option M)} (R : Rows ps) : mkM "Table" F_Table___init__ (rm ps) ⟨env, hp⟩ = .ok (.box hp.length) ⟨env, hp ++ mkCells hp.length ps⟩ := by
  unfold mkM
  have e := init_at (n := hp.length) (ps := ps) (hp := hp ++ [.ins "Table" []]) (by simp) R
  dsimp only
  rw [e]
  simp [mkCells]
theorem mk_tab {ps : List IP} {hp : List Cell} : TabAt (hp ++ mkCells hp.length ps) hp.length (hp.length + 2) (srtP ps) := ⟨by simp, by simp⟩
theorem fld_at {n d : Nat} {T : List IP} {s : MS} (t : TabAt s.hp n d T) : oFld ["Table"] [] "_new_keys" (.box n) s = .ok (.box d) s := by
  unfold oFld fldM
  dsimp only
  rw [t.i]
  rfl
theorem isIns_at {n d : Nat} {T : List IP} {s : MS} (t : TabAt s.hp n d T) : isIns "Table" (.box n) s = true := by
  unfold isIns
  dsimp only
  rw [t.i]
  rfl
theorem dictL_at' {n d : Nat} {T : List IP} {hp : List Cell} (t : TabAt hp n d T) : dictL hp (.box d) = some (dm T) := by
  unfold dictL
  dsimp only
  rw [t.d]
theorem KB.abs {i : Int} (h : KB i) : i.natAbs < 10 ^ 40 := by
  obtain ⟨h1, h2⟩ := h
  have z : (10 : Int) ^ 30 = 1000000000000000000000000000000 := by decide
  rw [z] at h1 h2
  have z2 : (10 : Nat) ^ 40 = 10000000000000000000000000000000000000000 := by decide
  rw [z2]
  omega
end Lw
namespace Lw
open L2 Ma PySem.Spec PySem PyProof.Rows
/-! k01: what the law looks at -/
theorem reprS_eq {x : M} {s : MS} (h1 : ∀ z, x ≠ .str z) (h2 : ∀ b, x ≠ .bl b) (h3 : x ≠ .non) : cReprS cRepr [x] s = cRepr [x] s := by
  cases x <;> first | rfl | exact absurd rfl (h1 _) | exact absurd rfl (h2 _) | exact absurd rfl h3
theorem reprS_seq {x : M} {d : PyData} {s : MS} (hx : datT s.hp x = some d) (hs : isSeqD d = true) : cReprS cRepr [x] s = cRepr [x] s := by
  refine reprS_eq (fun z e => ?_) (fun b e => ?_) fun e => ?_
  all_goals
    subst e
    cases hx
    cases hs
theorem okd_pair {p : IP} (h : KP p) : Okd (dP p) 1 282 := by
  have e : Oks [PyData.int p.1, PyData.int p.2] 0 282 := Oks.cons (Okd.int h.1.abs) (Oks.cons (Okd.int h.2.abs) Oks.nil (v := 0)) |>.le (Nat.le_refl _) (by decide)
  exact Okd.tuple e
theorem okd_rows {T : List IP} (h : ∀ p ∈ T, KP p) (hl : T.length ≤ 40) : Okd (.tuple (T.map dP)) 2 11320 := by
  have e : Oks (T.map dP) 1 ((T.map dP).length * (282 + 1)) := Oks.all fun d hd => by
    obtain ⟨p, hp, rfl⟩ := List.mem_map.mp hd
    exact okd_pair (h p hp)
  refine Okd.tuple (e.le (Nat.le_refl _) ?_)
  rw [List.length_map]
  omega
/-! ### values that are no integers -/
end Lw
namespace Lw
open L2 Ma PySem.Spec PySem PyProof.Rows
theorem TabAt.app {hp ex : List Cell} {n d : Nat} {T : List IP} (h : TabAt hp n d T) : TabAt (hp ++ ex) n d T := by
  have g : ∀ {i : Nat} {c : Cell}, hp[i]? = some c → (hp ++ ex)[i]? = some c := fun {i c} e => by
    obtain ⟨hl, _⟩ := List.getElem?_eq_some_iff.mp e
    rw [List.getElem?_append_left hl]; exact e
  exact ⟨g h.i, g h.d⟩
theorem Rows.perm {ps qs : List IP} (R : Rows ps) (h : ps.Perm qs) : Rows qs := ⟨fun p hp => R.kp p (h.mem_iff.mpr hp), (h.map _).nodup_iff.mp R.nd, h.length_eq ▸ R.le⟩
theorem Rows.sub {ps qs : List IP} (R : Rows ps) (h : qs.Sublist ps) : Rows qs := ⟨fun p hp => R.kp p (h.subset hp), (h.map _).nodup R.nd, Nat.le_trans h.length_le R.le⟩
theorem ix_lst {ms : List M} {j : Nat} {m : M} {s : MS} (h : ms[j]? = some m) : oIxD oIx (.lst ms) (.int (j : Nat)) s = .ok m s := by
  obtain ⟨hl, e⟩ := List.getElem?_eq_some_iff.mp h
  have h1 : ((j : Nat) : Int) < ms.length := by omega
  simp [oIxD, dictOf, oIx, seqL, lstOf, atI, ixN, h1, h]
  try omega
end Lw
namespace Lw
open L2 Ma PySem.Spec PySem PyProof.Rows
/-! k01: things in a drawn order -/
def DatOk (m : M) : Prop := ∃ d, dat m = some d ∧ d.canLay0 = true ∧ d.depth ≤ 10
theorem datL_ok : ∀ {ms : List M}, (∀ m ∈ ms, DatOk m) → ∃ ds, datL ms = some ds ∧ PyData.canLayAll0 ds = true ∧ PyData.depthAll ds ≤ 10 ∧ ds.length = ms.length
  | [], _ => ⟨[], rfl, rfl, Nat.zero_le _, rfl⟩
  | m :: ms, h => by
    obtain ⟨d, h1, h2, h3⟩ := h m (by simp)
    obtain ⟨ds, e1, e2, e3, e4⟩ := datL_ok (ms := ms) fun x hx => h x (by simp [hx])
    refine ⟨d :: ds, ?_, ?_, ?_, by rw [List.length_cons, List.length_cons, e4]⟩
    · show (match dat m, datL ms with | some d, some ds => some (d :: ds) | _, _ => none) = _
      rw [h1, e1]
    · simp [PyData.canLayAll0, h2, e2]
    · simp only [PyData.depthAll]; omega
theorem dat_int (i : Int) : DatOk (.int i) := ⟨_, rfl, rfl, Nat.zero_le _⟩
theorem dat_pM (p : IP) : DatOk (pM p) := ⟨_, rfl, rfl, show 1 ≤ 10 by decide⟩
abbrev hpX (hp : List Cell) (n : Nat) (c : Cell) (l f : List M) : List Cell := hp.set n c ++ [.lst l, .lst f]
section
variable {hp : List Cell} {n : Nat} {c c' : Cell} {l f : List M} (hn : n < hp.length)
theorem hpX_l : (hpX hp n c l f)[hp.length]? = some (.lst l) := by
  rw [List.getElem?_append_right (by simp)]; simp
theorem hpX_f : (hpX hp n c l f)[hp.length + 1]? = some (.lst f) := by
  rw [List.getElem?_append_right (by simp)]; simp
include hn in
theorem hpX_n : (hpX hp n c l f)[n]? = some c := by
  rw [List.getElem?_append_left (by simpa using hn), List.getElem?_set_self hn]
include hn in
theorem hpX_sn : (hpX hp n c l f).set n c' = hpX hp n c' l f := by
  rw [List.set_append_left _ _ (by simpa using hn), List.set_set]
theorem hpX_sl {l' : List M} : (hpX hp n c l f).set hp.length (.lst l') = hpX hp n c l' f := by
  rw [List.set_append_right _ _ (by simp)]; simp
theorem hpX_sf {f' : List M} : (hpX hp n c l f).set (hp.length + 1) (.lst f') = hpX hp n c l f' := by
  rw [List.set_append_right _ _ (by simp)]; simp
theorem hpX_dead : (hpX hp n c l f).set (hp.length + 1) .dead = hp.set n c ++ [.lst l, .dead] := by
  rw [List.set_append_right _ _ (by simp)]; simp
end
def lenB (i : Nat) : ME := (mCall (mCons (mv i) mNil) (cLenD cLen))
def mixT : MT := (mB (m2 (oEqK true (oEqD true)) (mv 2) (mLst mNil)))
def mixB : MStm := (sExpr (mAppend (mv 3) (mPopAt (mv 2) (mFn (mCons (mv 0) (mCons (lenB 2) mNil)) F__law_draw))))
theorem mixed_eq : m__law_mixed = (sSeq (sPar2 2 3 (mCons (mCall (mCons (mv 1) mNil) cListB) (mCons (mLstB mNil) mNil))) (sSeq (sWh mixT mixB 1000000) (sRet (mFrz (mv 3))))) := rfl
abbrev envX (n L : Nat) (ms : List M) : List (Option M) := [some (.box n), some (.lst ms), some (.box L), some (.box (L + 1))]
theorem lenB_at {i L : Nat} {l : List M} {s : MS} (h : s.env[i]? = some (some (.box L))) (hl : s.hp[L]? = some (.lst l)) : lenB i s = .ok (.int l.length) s := by
  refine call_of (mone (mv_of h)) ?_
  unfold cLenD
  dsimp only
  have e : dictOf s.hp (.box L) = none := by unfold dictOf; dsimp only; rw [hl]
  rw [e]
  unfold cLen
  dsimp only
  have e2 : seqL s.hp (.box L) = some l := by unfold seqL lstOf; dsimp only; rw [hl]
  rw [e2]
theorem mixT_at {hp : List Cell} {n : Nat} {c : Cell} {l f ms : List M} (h : ∀ m ∈ l, DatOk m) : mixT ⟨envX n hp.length ms, hpX hp n c l f⟩ = .ok (!l.isEmpty) ⟨envX n hp.length ms, hpX hp n c l f⟩ := by
  obtain ⟨ds, e1, e2, e3, e4⟩ := datL_ok h
  refine b_of (m2_of (x := .box hp.length) (y := .lst []) (s2 := ⟨envX n hp.length ms, hpX hp n c l f⟩) rfl rfl ?_)
  unfold oEqK
  have d1 : dictOf (hpX hp n c l f) (.box hp.length) = none := by unfold dictOf; dsimp only; rw [hpX_l]
  have d2 : dictOf (hpX hp n c l f) (.lst []) = none := rfl
  rw [show dictOf (MS.hp ⟨envX n hp.length ms, hpX hp n c l f⟩) (.box hp.length) = none from d1, show dictOf (MS.hp ⟨envX n hp.length ms, hpX hp n c l f⟩) (.lst []) = none from d2]
  dsimp only
  unfold oEqD
  have t1 : datT (hpX hp n c l f) (.box hp.length) = some (.list ds) := by
    unfold datT
    dsimp only
    have e : lstOf (hpX hp n c l f) (.box hp.length) = some l := by unfold lstOf; dsimp only; rw [hpX_l]
    rw [e]
    dsimp only
    rw [e1]; rfl
  rw [show datT (MS.hp ⟨envX n hp.length ms, hpX hp n c l f⟩) (.box hp.length) = some (.list ds) from t1, show datT (MS.hp ⟨envX n hp.length ms, hpX hp n c l f⟩) (.lst []) = some (.list []) from rfl]
  dsimp only
  have sh : (SeqAt.shaped (.list ds) && SeqAt.shaped (.list [])) = true := by
    have a : SeqAt.shaped (.list ds) = true := by
      unfold SeqAt.shaped
      rw [show PyData.canLay0 (.list ds) = true from e2, show PyData.depth (.list ds) = PyData.depthAll ds + 1 from rfl, decide_eq_true (by omega)]; rfl
    rw [a]; rfl
  rw [if_pos sh, if_pos rfl]
  cases l with
  | nil =>
    cases ds with
    | nil => rfl
    | cons _ _ => simp at e4
  | cons m l =>
    cases ds with
    | nil => simp at e4
    | cons d ds => simp [PyData.eqv, PyData.eqvAll]
theorem mixB_at {hp : List Cell} {n : Nat} {c : Cell} {l f ms : List M} (hn : n < hp.length) (p : IsPen c) (h0 : 0 < l.length) (h1 : l.length ≤ 1000) (hf : f.length ≤ 1000) :
    ∃ (d : Nat) (m : M) (c' : Cell), IsPen c' ∧ l[d]? = some m ∧ mixB ⟨envX n hp.length ms, hpX hp n c l f⟩ = .ok .nx ⟨envX n hp.length ms, hpX hp n c' (l.eraseIdx d) (f ++ [m])⟩ := by
  obtain ⟨d, c', e, d0, d1, p'⟩ := draw_at (m := (l.length : Int)) (hpX_n (c := c) (l := l) (f := f) hn) p (by omega) (by omega)
  rw [hpX_sn hn] at e
  have hd : d.toNat < l.length := by omega
  have e1 : mFn (mCons (mv 0) (mCons (lenB 2) mNil)) F__law_draw ⟨envX n hp.length ms, hpX hp n c l f⟩ = .ok (.int d) ⟨envX n hp.length ms, hpX hp n c' l f⟩ :=
    fn_of (mcons_of rfl (mone (lenB_at rfl hpX_l))) e
  have e2 : mPopAt (mv 2) (mFn (mCons (mv 0) (mCons (lenB 2) mNil)) F__law_draw) ⟨envX n hp.length ms, hpX hp n c l f⟩ = .ok (l[d.toNat]) ⟨envX n hp.length ms, hpX hp n c' (l.eraseIdx d.toNat) f⟩ := by
    unfold mPopAt mMeth
    show (if isBoxL (.box hp.length) ⟨envX n hp.length ms, hpX hp n c l f⟩ = true then Res.bind (mCons (mFn (mCons (mv 0) (mCons (lenB 2) mNil)) F__law_draw) mNil ⟨envX n hp.length ms, hpX hp n c l f⟩) (fun ms s2 => fPopAt (.box hp.length) ms s2) else Res.stuck) = _
    have b : isBoxL (.box hp.length) ⟨envX n hp.length ms, hpX hp n c l f⟩ = true := by unfold isBoxL; dsimp only; rw [hpX_l]
    rw [if_pos b, mone e1]
    show fPopAt (.box hp.length) [.int d] ⟨envX n hp.length ms, hpX hp n c' l f⟩ = _
    unfold fPopAt
    dsimp only
    rw [hpX_l]
    dsimp only
    rw [if_pos ⟨d0, by omega⟩, List.getElem?_eq_getElem hd]
    dsimp only
    rw [hpX_sl]
  refine ⟨d.toNat, l[d.toNat], c', p', List.getElem?_eq_getElem hd, ?_⟩
  have e3 : mAppend (mv 3) (mPopAt (mv 2) (mFn (mCons (mv 0) (mCons (lenB 2) mNil)) F__law_draw)) ⟨envX n hp.length ms, hpX hp n c l f⟩ = .ok .non ⟨envX n hp.length ms, hpX hp n c' (l.eraseIdx d.toNat) (f ++ [l[d.toNat]])⟩ := by
    unfold mAppend mMeth
    show (if isBoxL (.box (hp.length + 1)) ⟨envX n hp.length ms, hpX hp n c l f⟩ = true then Res.bind (mCons (mPopAt (mv 2) (mFn (mCons (mv 0) (mCons (lenB 2) mNil)) F__law_draw)) mNil ⟨envX n hp.length ms, hpX hp n c l f⟩) (fun ms s2 => fAppend (.box (hp.length + 1)) ms s2) else Res.stuck) = _
    have b : isBoxL (.box (hp.length + 1)) ⟨envX n hp.length ms, hpX hp n c l f⟩ = true := by unfold isBoxL; dsimp only; rw [hpX_f]
    rw [if_pos b, mone e2]
    show fAppend (.box (hp.length + 1)) [l[d.toNat]] ⟨envX n hp.length ms, hpX hp n c' (l.eraseIdx d.toNat) f⟩ = _
    unfold fAppend
    dsimp only
    rw [hpX_f]
    dsimp only
    rw [if_pos (Nat.lt_of_le_of_lt hf (by decide)), hpX_sf]
  unfold mixB sExpr
  rw [e3]
  rfl
theorem erase_perm {α : Type} : ∀ {l : List α} {d : Nat} {m : α}, l[d]? = some m → l.Perm (m :: l.eraseIdx d)
  | [], _, _, h => by simp at h
  | x :: l, 0, m, h => by simp at h; subst h; exact List.Perm.refl _
  | x :: l, d + 1, m, h => by
    have h : l[d]? = some m := by simpa using h
    exact ((erase_perm h).cons x).trans (List.Perm.swap m x _)
theorem mixed_at {hp : List Cell} {n : Nat} {c : Cell} {ms : List M} (hc : hp[n]? = some c) (p : IsPen c) (hm : ∀ m ∈ ms, DatOk m) (hl : ms.length ≤ 500) :
    ∃ ms' c', ms'.Perm ms ∧ IsPen c' ∧ F__law_mixed [.box n, .lst ms] hp = .ok (.lst ms') (hp.set n c' ++ [.lst [], .dead]) := by
  obtain ⟨hn, hg⟩ := List.getElem?_eq_some_iff.mp hc
  let I : Nat → MS → Prop := fun k s => ∃ l f c', s = ⟨envX n hp.length ms, hpX hp n c' l f⟩ ∧ IsPen c' ∧ l.length = k ∧ (l ++ f).Perm ms
  have step : ∀ k s, I (k + 1) s → ∃ s1 s2, mixT s = .ok true s1 ∧ mixB s1 = .ok .nx s2 ∧ I k s2 := by
    rintro k s ⟨l, f, c', rfl, pc, hk, hp'⟩
    have hlen := hp'.length_eq
    rw [List.length_append] at hlen
    have hda : ∀ m ∈ l, DatOk m := fun m hm' => hm m (hp'.mem_iff.mp (by simp [hm']))
    obtain ⟨d, m, c2, p2, hd, e⟩ := mixB_at (ms := ms) (f := f) hn pc (l := l) (by omega) (by omega) (by omega)
    refine ⟨_, _, (mixT_at hda).trans ?_, e, l.eraseIdx d, f ++ [m], c2, rfl, p2, ?_, ?_⟩
    · cases l with
      | nil => simp at hk
      | cons _ _ => rfl
    · have := (erase_perm hd).length_eq
      rw [List.length_cons] at this; omega
    · refine List.Perm.trans ?_ hp'
      have q1 : (l.eraseIdx d ++ (f ++ [m])).Perm (m :: (l.eraseIdx d ++ f)) := by
        rw [← List.append_assoc]
        exact List.perm_append_comm (l₁ := l.eraseIdx d ++ f) (l₂ := [m])
      exact q1.trans ((erase_perm hd).symm.append_right f)
  have stop : ∀ s, I 0 s → mixT s = .ok false s := by
    rintro s ⟨l, f, c', rfl, pc, hk, hp'⟩
    have : l = [] := List.length_eq_zero_iff.mp hk
    subst this
    exact mixT_at fun m hm => by simp at hm
  have i0 : I ms.length ⟨envX n hp.length ms, hpX hp n c ms []⟩ := ⟨ms, [], c, rfl, p, rfl, by simp⟩
  obtain ⟨s', e, l, f, c', rfl, pc, hk, hp'⟩ := wh_inv I step stop (fuel := 1000000) i0 (by omega)
  have : l = [] := List.length_eq_zero_iff.mp hk
  subst this
  refine ⟨f, c', hp', pc, body_rt (s' := ⟨envX n hp.length ms, hp.set n c' ++ [Cell.lst [], Cell.dead]⟩) ?_⟩
  rw [mixed_eq]
  refine seq_of (s1 := ⟨envX n hp.length ms, hpX hp n c ms []⟩) ?_ (seq_of e (ret_of ?_))
  · have e0 : hp.set n c = hp := by rw [← hg, List.set_getElem_self]
    unfold hpX
    rw [e0]
    unfold sPar2
    have a1 : mCall (mCons (mv 1) mNil) cListB ⟨[some (.box n), some (.lst ms), none, none], hp⟩ = .ok (.box hp.length) ⟨[some (.box n), some (.lst ms), none, none], hp ++ [.lst ms]⟩ := call_of (mone rfl) rfl
    have a2 : mLstB mNil ⟨[some (.box n), some (.lst ms), none, none], hp ++ [.lst ms]⟩ = .ok (.box (hp.length + 1)) ⟨[some (.box n), some (.lst ms), none, none], hp ++ [.lst ms] ++ [.lst []]⟩ := by
      unfold mLstB
      show Res.ok (M.box (hp ++ [Cell.lst ms]).length) _ = _
      rw [List.length_append]
      rfl
    have a3 := mcons_of a1 (mone a2)
    show Res.bind (mCons (mCall (mCons (mv 1) mNil) cListB) (mCons (mLstB mNil) mNil) ⟨[some (.box n), some (.lst ms), none, none], hp⟩) _ = _
    rw [a3, List.append_assoc]
    rfl
  · unfold mFrz
    show frz (.box (hp.length + 1)) ⟨envX n hp.length ms, hpX hp n c' [] f⟩ = _
    unfold frz
    dsimp only
    rw [hpX_f]
    dsimp only
    rw [hpX_dead]
end Lw
namespace Lw
open L2 Ma PySem.Spec PySem PyProof.Rows
/-! k01: the drawn pairs -/
abbrev hpY (B : List Cell) (n : Nat) (c : Cell) (P : List M) : List Cell := B.set n c ++ [Cell.lst P]
section
variable {B : List Cell} {n : Nat} {c c' : Cell} {P : List M} (hn : n < B.length)
theorem hpY_p : (hpY B n c P)[B.length]? = some (.lst P) := by
  rw [List.getElem?_append_right (by simp)]; simp
include hn in
theorem hpY_n : (hpY B n c P)[n]? = some c := by
  rw [List.getElem?_append_left (by simpa using hn), List.getElem?_set_self hn]
include hn in
theorem hpY_sn : (hpY B n c P).set n c' = hpY B n c' P := by
  rw [List.set_append_left _ _ (by simpa using hn), List.set_set]
theorem hpY_sp {P' : List M} : (hpY B n c P).set B.length (.lst P') = hpY B n c P' := by
  rw [List.set_append_right _ _ (by simp)]; simp
theorem hpY_dead : (hpY B n c P).set B.length .dead = B.set n c ++ [Cell.dead] := by
  rw [List.set_append_right _ _ (by simp)]; simp
end
theorem eq_int {i j : Int} {s : MS} : oEqK false (oEqD false) (.int i) (.int j) s = .ok (.bl (i == j)) s := by rfl
/-- draw, in a row -/
theorem drawE {B : List Cell} {n : Nat} {c : Cell} {P : List M} {env : List (Option M)} {m : Int} (hn : n < B.length) (p : IsPen c) (h0 : env[0]? = some (some (.box n))) (hm : 0 < m) (hm2 : m < 18446744073709551616) :
    ∃ d c', mFn (mCons (mv 0) (mCons (mc (.int m)) mNil)) F__law_draw ⟨env, hpY B n c P⟩ = .ok (.int d) ⟨env, hpY B n c' P⟩ ∧ 0 ≤ d ∧ d < m ∧ IsPen c' := by
  obtain ⟨d, c', e, d0, d1, p'⟩ := draw_at (m := m) (hpY_n (c := c) (P := P) hn) p hm hm2
  rw [hpY_sn hn] at e
  exact ⟨d, c', fn_of (mcons_of (mv_of h0) (mone rfl)) e, d0, d1, p'⟩
/-- pick, of ints -/
theorem pickE {B : List Cell} {n : Nat} {c c1 : Cell} {P : List M} {env : List (Option M)} {a : ME} {js : List Int} (hn : n < B.length) (p : IsPen c1) (h0 : env[0]? = some (some (.box n))) (ha : a ⟨env, hpY B n c P⟩ = .ok (.lst (js.map M.int)) ⟨env, hpY B n c1 P⟩) (hj : 0 < js.length) (hj2 : js.length < 1000) :
    ∃ d c', mFn (mCons (mv 0) (mCons a mNil)) F__law_pick ⟨env, hpY B n c P⟩ = .ok (.int d) ⟨env, hpY B n c' P⟩ ∧ d ∈ js ∧ IsPen c' := by
  obtain ⟨m, c', hm, e, p'⟩ := pick_at (ms := js.map M.int) (hpY_n (c := c1) (P := P) hn) p (by simpa using hj) (by rw [List.length_map]; omega)
  obtain ⟨d, hd, rfl⟩ := List.mem_map.mp hm
  rw [hpY_sn hn] at e
  exact ⟨d, c', fn_of (mcons_of (mv_of h0) (mone ha)) e, hd, p'⟩
theorem lst_add {xs ys : List Int} {s : MS} (h : xs.length + ys.length ≤ 1000) : oAdd (.lst (xs.map M.int)) (.lst (ys.map M.int)) s = .ok (.lst ((xs ++ ys).map M.int)) s := by
  show (if (xs.map M.int).length + (ys.map M.int).length ≤ big then Res.ok (M.lst (xs.map M.int ++ ys.map M.int)) s else Res.stuck) = _
  rw [if_pos (by rw [List.length_map, List.length_map]; exact Nat.le_trans h (by decide)), List.map_append]
theorem cut_hi {js : List Int} {k : Nat} : cutM (js.map M.int) none (some (k : Nat)) = (js.take k).map M.int := by
  unfold cutM
  rw [HT.sIx_none, HT.sIx_nat, List.drop_zero, Nat.sub_zero, List.map_take, List.length_map]
  by_cases h : k ≤ js.length
  · rw [Nat.min_eq_left h]
  · rw [Nat.min_eq_right (by omega), List.take_of_length_le (by simp), List.take_of_length_le (by simp; omega)]
theorem cut_lo {js : List Int} {k : Nat} : cutM (js.map M.int) (some (k : Nat)) none = (js.drop k).map M.int := by
  unfold cutM
  rw [HT.sIx_none, HT.sIx_nat, List.map_drop, List.length_map]
  by_cases h : k ≤ js.length
  · rw [Nat.min_eq_left h, List.take_of_length_le (by simp)]
  · rw [Nat.min_eq_right (by omega)]
    rw [List.drop_of_length_le (l := js.map M.int) (i := k) (by simp; omega), List.drop_of_length_le (by simp)]
    simp
theorem sl_hi {a b : ME} {js : List Int} {k : Nat} {s : MS} (ha : a s = .ok (.lst (js.map M.int)) s) (hb : b s = .ok (.int (k : Nat)) s) : mSl a oNo (oSome b) s = .ok (.lst ((js.take k).map M.int)) s := by
  rw [← cut_hi]
  unfold mSl
  rw [ha]
  show Res.bind (oSome b s) _ = _
  unfold oSome
  rw [hb]
  rfl
theorem sl_lo {a b : ME} {js : List Int} {k : Nat} {s : MS} (ha : a s = .ok (.lst (js.map M.int)) s) (hb : b s = .ok (.int (k : Nat)) s) : mSl a (oSome b) oNo s = .ok (.lst ((js.drop k).map M.int)) s := by
  rw [← cut_lo]
  unfold mSl
  rw [ha]
  show Res.bind (oSome b s) _ = _
  unfold oSome
  rw [hb]
  rfl
theorem map_inv {l : List M} {ks : List Int} (h : l.Perm (ks.map M.int)) : ∃ l' : List Int, l = l'.map M.int ∧ l'.Perm ks := by
  let g : M → Int := fun m => match m with | .int i => i | _ => 0
  refine ⟨l.map g, ?_, ?_⟩
  · rw [List.map_map]
    conv => lhs; rw [← List.map_id l]
    refine List.map_congr_left fun m hm => ?_
    obtain ⟨i, _, rfl⟩ := List.mem_map.mp (h.mem_iff.mp hm)
    rfl
  · have e := h.map g
    rw [List.map_map] at e
    have e2 : ks.map (g ∘ M.int) = ks := by
      conv => rhs; rw [← List.map_id ks]
      exact List.map_congr_left fun i _ => rfl
    rwa [e2] at e
theorem ix_int {js : List Int} {j : Nat} {s : MS} (h : j < js.length) : oIxD oIx (.lst (js.map M.int)) (.int (j : Nat)) s = .ok (.int js[j]) s :=
  ix_lst (by rw [List.getElem?_map, List.getElem?_eq_getElem h]; rfl)
abbrev envP (mx : Int) (n L : Nat) (m sc sh wy : Int) (js ks fs ts : List Int) (at_ key : Int) (to : Option M) : List (Option M) := [some (.box n), some (.int mx), some (.int m), some (.lst (js.map M.int)), some (.box L), some (.int sc), some (.int sh), some (.int wy), some (.lst (ks.map M.int)), some (.lst (fs.map M.int)), some (.lst (ts.map M.int)), some (.int at_), some (.int key), to]
structure PC (js ks fs ts : List Int) : Prop where
  e : js = ks ++ fs
  t : ts.Perm ks
  f : 2 ≤ fs.length
  k : ks.length ≤ 40
  l : js.length ≤ 100
def way (k : Int) : MT := (mB (m2 (oEqK false (oEqD false)) (mv 7) (mc (.int k))))
def drawM (k : Int) : ME := (mFn (mCons (mv 0) (mCons (mc (.int k)) mNil)) F__law_draw)
def pickM (a : ME) : ME := (mFn (mCons (mv 0) (mCons a mNil)) F__law_pick)
def q0 : MStm := (sSet 13 (pickM (mLst (mCons (pickM (mv 3)) (mCons (pickM (mv 9)) (mCons (mv 12) (mCons (pickM (mv 8)) mNil)))))))
def q1 : MStm := (sIf (way 1) (sSet 13 (m2 (oIxD oIx) (mv 10) (mv 11))) sNx)
def q2 : MStm := (sIf (mAnd (way 2) (mB (m2 oGt (drawM 8) (mc (.int 0))))) (sSet 13 (m2 (oIxD oIx) (m2 oAdd (mv 8) (mv 9)) (m2 oAdd (mv 11) (mc (.int 1))))) sNx)
def q3 : MStm := (sIf (way 3) (sSet 13 (m2 (oIxD oIx) (m2 oAdd (mv 8) (mv 9)) (m2 oSub (m2 oAdd (mv 11) (mc (.int 1))) (m2 oMul (drawM 2) (mv 11))))) sNx)
def q4 : MStm := (sIf (way 4) (sSet 13 (m2 (oIxD oIx) (m2 oAdd (mSl (mv 9) oNo (oSome (mc (.int 1)))) (mv 8)) (mCall (mCons (mc (.int 0)) (mCons (m2 oSub (mv 11) (drawM 4)) mNil)) cMax))) sNx)
def q5 : MStm := (sIf (mAnd (way 5) (mB (m2 oGt (mv 11) (mc (.int 0))))) (sSet 13 (pickM (m2 oAdd (mSl (mv 8) oNo (oSome (mv 11))) (mSl (mv 9) oNo (oSome (mc (.int 2))))))) sNx)
def q6 : MStm := (sExpr (mAppend (mv 4) (mTup (mCons (m2 oMul (m2 oSub (mv 12) (mv 6)) (mv 5)) (mCons (m2 oMul (m2 oSub (mv 13) (mv 6)) (mv 5)) mNil)))))
def pairB : MStm := sSeq q0 (sSeq q1 (sSeq q2 (sSeq q3 (sSeq q4 (sSeq q5 q6)))))
section
variable {mx : Int} {B : List Cell} {n L : Nat} {c : Cell} {P : List M} {m sc sh wy key to : Int} {js ks fs ts : List Int} {at_ : Nat} (hn : n < B.length) (C : PC js ks fs ts) (ha : at_ < ks.length) (hk : key ∈ js) (p : IsPen c)
include C in
theorem PC.len : js.length = ks.length + fs.length := by rw [C.e, List.length_append]
include hn C ha hk p in
theorem q0_at {o : Option M} : ∃ to' c', q0 ⟨envP mx n L m sc sh wy js ks fs ts at_ key o, hpY B n c P⟩ = .ok .nx ⟨envP mx n L m sc sh wy js ks fs ts at_ key (some (.int to')), hpY B n c' P⟩ ∧ to' ∈ js ∧ IsPen c' := by
  have l0 := C.len; have l1 := C.l; have l2 := C.f
  obtain ⟨d1, c1, e1, m1, p1⟩ := pickE (env := envP mx n L m sc sh wy js ks fs ts at_ key o) (a := mv 3) (js := js) (P := P) hn p rfl rfl (by omega) (by omega)
  obtain ⟨d2, c2, e2, m2, p2⟩ := pickE (env := envP mx n L m sc sh wy js ks fs ts at_ key o) (a := mv 9) (js := fs) (P := P) hn p1 rfl rfl (by omega) (by omega)
  obtain ⟨d3, c3, e3, m3, p3⟩ := pickE (env := envP mx n L m sc sh wy js ks fs ts at_ key o) (a := mv 8) (js := ks) (P := P) hn p2 rfl rfl (by omega) (by omega)
  have el : mLst (mCons (pickM (mv 3)) (mCons (pickM (mv 9)) (mCons (mv 12) (mCons (pickM (mv 8)) mNil)))) ⟨envP mx n L m sc sh wy js ks fs ts at_ key o, hpY B n c P⟩ = .ok (.lst ([d1, d2, key, d3].map M.int)) ⟨envP mx n L m sc sh wy js ks fs ts at_ key o, hpY B n c3 P⟩ :=
    mlst_of (mcons_of e1 (mcons_of e2 (mcons_of rfl (mone e3)))) (show 4 ≤ 16777216 by decide)
  obtain ⟨d4, c4, e4, m4, p4⟩ := pickE hn p3 rfl el (show 0 < 4 by decide) (show 4 < 1000 by decide)
  refine ⟨d4, c4, set_of e4, ?_, p4⟩
  simp only [List.mem_cons, List.not_mem_nil, or_false] at m4
  rcases m4 with rfl | rfl | rfl | rfl
  · exact m1
  · rw [C.e]; exact List.mem_append_right _ m2
  · exact hk
  · rw [C.e]; exact List.mem_append_left _ m3
include C ha in
theorem q1_at (ht : to ∈ js) : ∃ to', q1 ⟨envP mx n L m sc sh wy js ks fs ts at_ key (some (.int to)), hpY B n c P⟩ = .ok .nx ⟨envP mx n L m sc sh wy js ks fs ts at_ key (some (.int to')), hpY B n c P⟩ ∧ to' ∈ js := by
  have e : way 1 ⟨envP mx n L m sc sh wy js ks fs ts at_ key (some (.int to)), hpY B n c P⟩ = .ok (wy == 1) ⟨envP mx n L m sc sh wy js ks fs ts at_ key (some (.int to)), hpY B n c P⟩ := b_of (m2_of rfl rfl eq_int)
  cases h : wy == 1 with
  | false => rw [h] at e; exact ⟨to, (if_of e).trans rfl, ht⟩
  | true =>
    rw [h] at e
    have hl : at_ < ts.length := by rw [C.t.length_eq]; exact ha
    refine ⟨ts[at_], (if_of e).trans (set_of (m2_of rfl rfl (ix_int hl))), ?_⟩
    rw [C.e]
    exact List.mem_append_left _ (C.t.mem_iff.mp (List.getElem_mem hl))
theorem add_all (C : PC js ks fs ts) {s : MS} (h8 : s.env[8]? = some (some (.lst (ks.map M.int)))) (h9 : s.env[9]? = some (some (.lst (fs.map M.int)))) : m2 oAdd (mv 8) (mv 9) s = .ok (.lst (js.map M.int)) s := by
  have l0 := C.len; have l1 := C.l
  refine m2_of (mv_of h8) (mv_of h9) ?_
  rw [lst_add (by omega), ← C.e]
include hn C ha p in
theorem q2_at (ht : to ∈ js) : ∃ to' c', q2 ⟨envP mx n L m sc sh wy js ks fs ts at_ key (some (.int to)), hpY B n c P⟩ = .ok .nx ⟨envP mx n L m sc sh wy js ks fs ts at_ key (some (.int to')), hpY B n c' P⟩ ∧ to' ∈ js ∧ IsPen c' := by
  have l0 := C.len; have l2 := C.f
  have e : way 2 ⟨envP mx n L m sc sh wy js ks fs ts at_ key (some (.int to)), hpY B n c P⟩ = .ok (wy == 2) ⟨envP mx n L m sc sh wy js ks fs ts at_ key (some (.int to)), hpY B n c P⟩ := b_of (m2_of rfl rfl eq_int)
  cases h : wy == 2 with
  | false => rw [h] at e; exact ⟨to, c, (if_of (and_f e)).trans rfl, ht, p⟩
  | true =>
    rw [h] at e
    obtain ⟨d, c', ed, d0, d1, p'⟩ := drawE (P := P) (m := 8) (env := envP mx n L m sc sh wy js ks fs ts at_ key (some (.int to))) hn p rfl (by decide) (by decide)
    have e2 : mAnd (way 2) (mB (m2 oGt (drawM 8) (mc (.int 0)))) ⟨envP mx n L m sc sh wy js ks fs ts at_ key (some (.int to)), hpY B n c P⟩ = .ok (decide (0 < d)) ⟨envP mx n L m sc sh wy js ks fs ts at_ key (some (.int to)), hpY B n c' P⟩ :=
      (and_t e).trans (b_of (m2_of ed rfl rfl))
    cases hd : decide (0 < d) with
    | false => rw [hd] at e2; exact ⟨to, c', (if_of e2).trans rfl, ht, p'⟩
    | true =>
      rw [hd] at e2
      have hl : at_ + 1 < js.length := by omega
      have ei : m2 oAdd (mv 11) (mc (.int 1)) ⟨envP mx n L m sc sh wy js ks fs ts at_ key (some (.int to)), hpY B n c' P⟩ = .ok (.int ((at_ + 1 : Nat) : Int)) ⟨envP mx n L m sc sh wy js ks fs ts at_ key (some (.int to)), hpY B n c' P⟩ := m2_of (x := .int at_) (y := .int 1) rfl rfl rfl
      exact ⟨js[at_ + 1], c', (if_of e2).trans (set_of (m2_of (add_all C rfl rfl) ei (ix_int hl))), List.getElem_mem hl, p'⟩
include hn C ha p in
theorem q3_at (ht : to ∈ js) : ∃ to' c', q3 ⟨envP mx n L m sc sh wy js ks fs ts at_ key (some (.int to)), hpY B n c P⟩ = .ok .nx ⟨envP mx n L m sc sh wy js ks fs ts at_ key (some (.int to')), hpY B n c' P⟩ ∧ to' ∈ js ∧ IsPen c' := by
  have l0 := C.len; have l2 := C.f
  have e : way 3 ⟨envP mx n L m sc sh wy js ks fs ts at_ key (some (.int to)), hpY B n c P⟩ = .ok (wy == 3) ⟨envP mx n L m sc sh wy js ks fs ts at_ key (some (.int to)), hpY B n c P⟩ := b_of (m2_of rfl rfl eq_int)
  cases h : wy == 3 with
  | false => rw [h] at e; exact ⟨to, c, (if_of e).trans rfl, ht, p⟩
  | true =>
    rw [h] at e
    obtain ⟨d, c', ed, d0, d1, p'⟩ := drawE (P := P) (m := 2) (env := envP mx n L m sc sh wy js ks fs ts at_ key (some (.int to))) hn p rfl (by decide) (by decide)
    have mo : mulOk d at_ = true := decide_eq_true (Or.inl ⟨by omega, by omega⟩)
    have e1 : m2 oMul (drawM 2) (mv 11) ⟨envP mx n L m sc sh wy js ks fs ts at_ key (some (.int to)), hpY B n c P⟩ = .ok (.int (d * at_)) ⟨envP mx n L m sc sh wy js ks fs ts at_ key (some (.int to)), hpY B n c' P⟩ := by
      refine m2_of ed rfl ?_
      unfold oMul oInt
      dsimp only
      rw [if_pos mo]
    obtain ⟨i, hi, hil⟩ : ∃ i : Nat, ((at_ : Int) + 1) - d * at_ = (i : Int) ∧ i < js.length := by
      rcases (show d = 0 ∨ d = 1 by omega) with rfl | rfl
      · exact ⟨at_ + 1, by omega, by omega⟩
      · exact ⟨1, by omega, by omega⟩
    have e2 : m2 oSub (m2 oAdd (mv 11) (mc (.int 1))) (m2 oMul (drawM 2) (mv 11)) ⟨envP mx n L m sc sh wy js ks fs ts at_ key (some (.int to)), hpY B n c P⟩ = .ok (.int (i : Int)) ⟨envP mx n L m sc sh wy js ks fs ts at_ key (some (.int to)), hpY B n c' P⟩ := by
      rw [← hi]
      exact m2_of (m2_of (x := .int at_) (y := .int 1) rfl rfl rfl) e1 rfl
    exact ⟨js[i], c', (if_of e).trans (set_of (m2_of (add_all C rfl rfl) e2 (ix_int hil))), List.getElem_mem hil, p'⟩
include hn C ha p in
theorem q4_at (ht : to ∈ js) : ∃ to' c', q4 ⟨envP mx n L m sc sh wy js ks fs ts at_ key (some (.int to)), hpY B n c P⟩ = .ok .nx ⟨envP mx n L m sc sh wy js ks fs ts at_ key (some (.int to')), hpY B n c' P⟩ ∧ to' ∈ js ∧ IsPen c' := by
  have l0 := C.len; have l2 := C.f; have l3 := C.k
  have e : way 4 ⟨envP mx n L m sc sh wy js ks fs ts at_ key (some (.int to)), hpY B n c P⟩ = .ok (wy == 4) ⟨envP mx n L m sc sh wy js ks fs ts at_ key (some (.int to)), hpY B n c P⟩ := b_of (m2_of rfl rfl eq_int)
  cases h : wy == 4 with
  | false => rw [h] at e; exact ⟨to, c, (if_of e).trans rfl, ht, p⟩
  | true =>
    rw [h] at e
    obtain ⟨d, c', ed, d0, d1, p'⟩ := drawE (P := P) (m := 4) (env := envP mx n L m sc sh wy js ks fs ts at_ key (some (.int to))) hn p rfl (by decide) (by decide)
    have e1 : m2 oAdd (mSl (mv 9) oNo (oSome (mc (.int 1)))) (mv 8) ⟨envP mx n L m sc sh wy js ks fs ts at_ key (some (.int to)), hpY B n c P⟩ = .ok (.lst ((fs.take 1 ++ ks).map M.int)) ⟨envP mx n L m sc sh wy js ks fs ts at_ key (some (.int to)), hpY B n c P⟩ :=
      m2_of (sl_hi (js := fs) (k := 1) rfl rfl) rfl (lst_add (by rw [List.length_take]; omega))
    obtain ⟨i, hi, hil⟩ : ∃ i : Nat, (if (at_ : Int) - d > 0 then (at_ : Int) - d else 0) = (i : Int) ∧ i < (fs.take 1 ++ ks).length := by
      rw [List.length_append, List.length_take]
      by_cases hx : (at_ : Int) - d > 0
      · exact ⟨((at_ : Int) - d).toNat, by rw [if_pos hx]; omega, by omega⟩
      · exact ⟨0, by rw [if_neg hx]; rfl, by omega⟩
    have e2 : mCall (mCons (mc (.int 0)) (mCons (m2 oSub (mv 11) (drawM 4)) mNil)) cMax ⟨envP mx n L m sc sh wy js ks fs ts at_ key (some (.int to)), hpY B n c P⟩ = .ok (.int (i : Int)) ⟨envP mx n L m sc sh wy js ks fs ts at_ key (some (.int to)), hpY B n c' P⟩ := by
      rw [← hi]
      exact call_of (mcons_of (x := .int 0) rfl (mone (m2_of (x := .int at_) (y := .int d) rfl ed rfl))) rfl
    refine ⟨(fs.take 1 ++ ks)[i], c', (if_of e).trans (set_of (m2_of e1 e2 (ix_int hil))), ?_, p'⟩
    rw [C.e]
    rcases List.mem_append.mp (List.getElem_mem hil) with hm | hm
    · exact List.mem_append_right _ (List.mem_of_mem_take hm)
    · exact List.mem_append_left _ hm
include hn C ha p in
theorem q5_at (ht : to ∈ js) : ∃ to' c', q5 ⟨envP mx n L m sc sh wy js ks fs ts at_ key (some (.int to)), hpY B n c P⟩ = .ok .nx ⟨envP mx n L m sc sh wy js ks fs ts at_ key (some (.int to')), hpY B n c' P⟩ ∧ to' ∈ js ∧ IsPen c' := by
  have l0 := C.len; have l2 := C.f; have l3 := C.k; have l4 := C.l
  have e : way 5 ⟨envP mx n L m sc sh wy js ks fs ts at_ key (some (.int to)), hpY B n c P⟩ = .ok (wy == 5) ⟨envP mx n L m sc sh wy js ks fs ts at_ key (some (.int to)), hpY B n c P⟩ := b_of (m2_of rfl rfl eq_int)
  cases h : wy == 5 with
  | false => rw [h] at e; exact ⟨to, c, (if_of (and_f e)).trans rfl, ht, p⟩
  | true =>
    rw [h] at e
    have e2 : mAnd (way 5) (mB (m2 oGt (mv 11) (mc (.int 0)))) ⟨envP mx n L m sc sh wy js ks fs ts at_ key (some (.int to)), hpY B n c P⟩ = .ok (decide (0 < (at_ : Int))) ⟨envP mx n L m sc sh wy js ks fs ts at_ key (some (.int to)), hpY B n c P⟩ :=
      (and_t e).trans (b_of (m2_of (x := .int at_) (y := .int 0) rfl rfl rfl))
    cases hd : decide (0 < (at_ : Int)) with
    | false => rw [hd] at e2; exact ⟨to, c, (if_of e2).trans rfl, ht, p⟩
    | true =>
      rw [hd] at e2
      have e1 : m2 oAdd (mSl (mv 8) oNo (oSome (mv 11))) (mSl (mv 9) oNo (oSome (mc (.int 2)))) ⟨envP mx n L m sc sh wy js ks fs ts at_ key (some (.int to)), hpY B n c P⟩ = .ok (.lst ((ks.take at_ ++ fs.take 2).map M.int)) ⟨envP mx n L m sc sh wy js ks fs ts at_ key (some (.int to)), hpY B n c P⟩ :=
        m2_of (sl_hi (js := ks) (k := at_) rfl rfl) (sl_hi (js := fs) (k := 2) rfl rfl) (lst_add (by rw [List.length_take, List.length_take]; omega))
      obtain ⟨d, c', ed, hm, p'⟩ := pickE (c1 := c) hn p rfl e1 (by rw [List.length_append, List.length_take, List.length_take]; omega) (by rw [List.length_append, List.length_take, List.length_take]; omega)
      refine ⟨d, c', (if_of e2).trans (set_of ed), ?_, p'⟩
      rw [C.e]
      rcases List.mem_append.mp hm with hm | hm
      · exact List.mem_append_left _ (List.mem_of_mem_take hm)
      · exact List.mem_append_right _ (List.mem_of_mem_take hm)
end
end Lw
namespace Lw
open L2 Ma PySem.Spec PySem PyProof.Rows
abbrev envQ (mx : Int) (n L : Nat) (m sc sh wy : Int) (js ks fs ts : List Int) (o11 o12 o13 : Option M) : List (Option M) := [some (.box n), some (.int mx), some (.int m), some (.lst (js.map M.int)), some (.box L), some (.int sc), some (.int sh), some (.int wy), some (.lst (ks.map M.int)), some (.lst (fs.map M.int)), some (.lst (ts.map M.int)), o11, o12, o13]
abbrev prP (sc sh key to : Int) : IP := ((key - sh) * sc, (to - sh) * sc)
section
variable {mx : Int} {B : List Cell} {n : Nat} {c : Cell} {m sc sh wy key to : Int} {js ks fs ts : List Int} {at_ : Nat} {ps : List IP}
theorem mul_at {a b sc : Int} {s : MS} (h : -1000 ≤ a ∧ a ≤ 1000) : oMul (.int a) (.int sc) s = .ok (.int (a * sc)) s := by
  have mo : mulOk a sc = true := decide_eq_true (Or.inl ⟨by omega, by omega⟩)
  unfold oMul oInt
  dsimp only
  rw [if_pos mo]
theorem q6_at (hk : 0 ≤ key ∧ key ≤ 500) (ht : 0 ≤ to ∧ to ≤ 500) (hs : 0 ≤ sh ∧ sh ≤ 500) (hl : ps.length ≤ 100) :
    q6 ⟨envP mx n B.length m sc sh wy js ks fs ts at_ key (some (.int to)), hpY B n c (rm ps)⟩ = .ok .nx ⟨envP mx n B.length m sc sh wy js ks fs ts at_ key (some (.int to)), hpY B n c (rm (ps ++ [prP sc sh key to]))⟩ := by
  have e1 : mTup (mCons (m2 oMul (m2 oSub (mv 12) (mv 6)) (mv 5)) (mCons (m2 oMul (m2 oSub (mv 13) (mv 6)) (mv 5)) mNil)) ⟨envP mx n B.length m sc sh wy js ks fs ts at_ key (some (.int to)), hpY B n c (rm ps)⟩ = .ok (pM (prP sc sh key to)) ⟨envP mx n B.length m sc sh wy js ks fs ts at_ key (some (.int to)), hpY B n c (rm ps)⟩ := by
    have a1 : m2 oMul (m2 oSub (mv 12) (mv 6)) (mv 5) ⟨envP mx n B.length m sc sh wy js ks fs ts at_ key (some (.int to)), hpY B n c (rm ps)⟩ = .ok (.int ((key - sh) * sc)) ⟨envP mx n B.length m sc sh wy js ks fs ts at_ key (some (.int to)), hpY B n c (rm ps)⟩ :=
      m2_of (m2_of (x := .int key) (y := .int sh) rfl rfl rfl) rfl (mul_at (b := 0) (by omega))
    have a2 : m2 oMul (m2 oSub (mv 13) (mv 6)) (mv 5) ⟨envP mx n B.length m sc sh wy js ks fs ts at_ key (some (.int to)), hpY B n c (rm ps)⟩ = .ok (.int ((to - sh) * sc)) ⟨envP mx n B.length m sc sh wy js ks fs ts at_ key (some (.int to)), hpY B n c (rm ps)⟩ :=
      m2_of (m2_of (x := .int to) (y := .int sh) rfl rfl rfl) rfl (mul_at (b := 0) (by omega))
    unfold mTup
    rw [mcons_of a1 (mone a2)]
    rfl
  have e3 : mAppend (mv 4) (mTup (mCons (m2 oMul (m2 oSub (mv 12) (mv 6)) (mv 5)) (mCons (m2 oMul (m2 oSub (mv 13) (mv 6)) (mv 5)) mNil))) ⟨envP mx n B.length m sc sh wy js ks fs ts at_ key (some (.int to)), hpY B n c (rm ps)⟩ = .ok .non ⟨envP mx n B.length m sc sh wy js ks fs ts at_ key (some (.int to)), hpY B n c (rm (ps ++ [prP sc sh key to]))⟩ := by
    unfold mAppend mMeth
    show (if isBoxL (.box B.length) ⟨envP mx n B.length m sc sh wy js ks fs ts at_ key (some (.int to)), hpY B n c (rm ps)⟩ = true then Res.bind (mCons (mTup (mCons (m2 oMul (m2 oSub (mv 12) (mv 6)) (mv 5)) (mCons (m2 oMul (m2 oSub (mv 13) (mv 6)) (mv 5)) mNil))) mNil ⟨envP mx n B.length m sc sh wy js ks fs ts at_ key (some (.int to)), hpY B n c (rm ps)⟩) (fun ms s2 => fAppend (.box B.length) ms s2) else Res.stuck) = _
    have b : isBoxL (.box B.length) ⟨envP mx n B.length m sc sh wy js ks fs ts at_ key (some (.int to)), hpY B n c (rm ps)⟩ = true := by unfold isBoxL; dsimp only; rw [hpY_p]
    rw [if_pos b, mone e1]
    show fAppend (.box B.length) [pM (prP sc sh key to)] ⟨envP mx n B.length m sc sh wy js ks fs ts at_ key (some (.int to)), hpY B n c (rm ps)⟩ = _
    unfold fAppend
    dsimp only
    rw [hpY_p]
    dsimp only
    rw [if_pos (by rw [List.length_map]; exact Nat.lt_of_le_of_lt hl (by decide)), hpY_sp]
    simp [rm]
  unfold q6 sExpr
  rw [e3]
  rfl
structure PD (js ks fs ts : List Int) (sh : Int) : Prop extends PC js ks fs ts where
  jb : ∀ j ∈ js, 0 ≤ j ∧ j ≤ 500
  sb : 0 ≤ sh ∧ sh ≤ 500
theorem pairB_at (hn : n < B.length) (D : PD js ks fs ts sh) (ha : at_ < ks.length) (hk : key ∈ js) (p : IsPen c) (hl : ps.length ≤ 100) {o : Option M} :
    ∃ to c', pairB ⟨envP mx n B.length m sc sh wy js ks fs ts at_ key o, hpY B n c (rm ps)⟩ = .ok .nx ⟨envP mx n B.length m sc sh wy js ks fs ts at_ key (some (.int to)), hpY B n c' (rm (ps ++ [prP sc sh key to]))⟩ ∧ to ∈ js ∧ IsPen c' := by
  have C := D.toPC
  obtain ⟨t0, c0, e0, h0, p0⟩ := q0_at (L := B.length) (m := m) (sc := sc) (sh := sh) (wy := wy) (P := rm ps) hn C ha hk p (o := o)
  obtain ⟨t1, e1, h1⟩ := q1_at (B := B) (n := n) (c := c0) (L := B.length) (m := m) (sc := sc) (sh := sh) (wy := wy) (key := key) (P := rm ps) C ha h0
  obtain ⟨t2, c2, e2, h2, p2⟩ := q2_at (L := B.length) (m := m) (sc := sc) (sh := sh) (wy := wy) (key := key) (P := rm ps) hn C ha p0 h1
  obtain ⟨t3, c3, e3, h3, p3⟩ := q3_at (L := B.length) (m := m) (sc := sc) (sh := sh) (wy := wy) (key := key) (P := rm ps) hn C ha p2 h2
  obtain ⟨t4, c4, e4, h4, p4⟩ := q4_at (L := B.length) (m := m) (sc := sc) (sh := sh) (wy := wy) (key := key) (P := rm ps) hn C ha p3 h3
  obtain ⟨t5, c5, e5, h5, p5⟩ := q5_at (L := B.length) (m := m) (sc := sc) (sh := sh) (wy := wy) (key := key) (P := rm ps) hn C ha p4 h4
  exact ⟨t5, c5, seq_of e0 (seq_of e1 (seq_of e2 (seq_of e3 (seq_of e4 (seq_of e5 (q6_at (D.jb _ hk) (D.jb _ h5) D.sb hl)))))), h5, p5⟩
theorem pairs_loop (hn : n < B.length) (D : PD js ks fs ts sh) : ∀ {ls : List (Int × Nat)} {ps : List IP} {c : Cell} {o11 o12 o13 : Option M}, (∀ z ∈ ls, z.2 < ks.length ∧ z.1 ∈ ks) → IsPen c → ps.length + ls.length ≤ 100 →
    ∃ qs c' o11' o12' o13', sFor (gUnpN [11, 12]) pairB (ls.map fun z => M.tup [.int (z.2 : Nat), .int z.1]) ⟨envQ mx n B.length m sc sh wy js ks fs ts o11 o12 o13, hpY B n c (rm ps)⟩ = .ok .nx ⟨envQ mx n B.length m sc sh wy js ks fs ts o11' o12' o13', hpY B n c' (rm (ps ++ qs))⟩ ∧
      IsPen c' ∧ keysP qs = ls.map (fun z => (z.1 - sh) * sc) ∧ ∀ q ∈ qs, ∃ to ∈ js, q.2 = (to - sh) * sc
  | [], ps, c, o11, o12, o13, _, p, _ => ⟨[], c, o11, o12, o13, by rw [List.append_nil]; rfl, p, rfl, fun q h => by simp at h⟩
  | z :: ls, ps, c, o11, o12, o13, hz, p, hl => by
    rw [List.length_cons] at hl
    obtain ⟨z1, z2⟩ := hz z (by simp)
    have hk : z.1 ∈ js := by rw [D.e]; exact List.mem_append_left _ z2
    obtain ⟨to, c1, e1, ht, p1⟩ := pairB_at (m := m) (sc := sc) (wy := wy) (ps := ps) hn D z1 hk p (by omega) (o := o13)
    obtain ⟨qs, c2, a1, a2, a3, e2, p2, k2, b2⟩ := pairs_loop hn D (ls := ls) (ps := ps ++ [prP sc sh z.1 to]) (c := c1) (o11 := some (.int (z.2 : Nat))) (o12 := some (.int z.1)) (o13 := some (.int to)) (fun y hy => hz y (by simp [hy])) p1 (by rw [List.length_append]; simp; omega)
    refine ⟨prP sc sh z.1 to :: qs, c2, a1, a2, a3, ?_, p2, ?_, ?_⟩
    · show sFor (gUnpN [11, 12]) pairB (M.tup [.int (z.2 : Nat), .int z.1] :: _) _ = _
      rw [sFor]
      show (pairB ⟨envP mx n B.length m sc sh wy js ks fs ts z.2 z.1 o13, hpY B n c (rm ps)⟩).bind _ = _
      rw [e1, show ps ++ prP sc sh z.1 to :: qs = ps ++ [prP sc sh z.1 to] ++ qs by simp]
      exact e2
    · rw [keysP, List.map_cons, List.map_cons, ← k2]
    · intro q hq
      rcases List.mem_cons.mp hq with rfl | hq
      · exact ⟨to, ht, rfl⟩
      · exact b2 q hq
end
def n2E : ME := (m2 oAdd (m2 oMul (mc (.int 2)) (mv 2)) (mc (.int 2)))
def scE : ME := (mLst (mCons (mc (.int 1)) (mCons (mc (.int 1)) (mCons (mc (.int 3)) (mCons (m2 oPow (mc (.int 10)) (mc (.int 9))) (mCons (m2 oPow (mc (.int 10)) (mc (.int 28))) mNil))))))
def drawA (e : ME) : ME := (mFn (mCons (mv 0) (mCons e mNil)) F__law_draw)
def mixA (e : ME) : ME := (mFn (mCons (mv 0) (mCons e mNil)) F__law_mixed)
def pA : MStm := (sSet 2 (drawA (m2 oAdd (mv 1) (mc (.int 1)))))
def pB : MStm := (sPar3 5 6 7 (mCons (pickM scE) (mCons (drawA n2E) (mCons (drawA (mc (.int 7))) mNil))))
def pC : MStm := (sSet 3 (mixA (mListRange n2E)))
def pD : MStm := (sPar3 8 9 10 (mCons (mSl (mv 3) oNo (oSome (mv 2))) (mCons (mSl (mv 3) (oSome (mv 2)) oNo) (mCons (mixA (mSl (mv 3) oNo (oSome (mv 2)))) mNil))))
theorem pairs_eq : m__law_pairs = (sSeq pA (sSeq pB (sSeq pC (sSeq pD (sSeq (sSet 4 (mLstB mNil)) (sSeq (sForI (iEnum (mCons (mv 8) mNil)) (gUnpN [11, 12]) pairB) (sRet (mFrz (mv 4))))))))) := rfl
/-- draw and mixed in any heap -/
theorem drawH {hp : List Cell} {n : Nat} {c : Cell} {env : List (Option M)} {e : ME} {m : Int} (hc : hp[n]? = some c) (p : IsPen c) (h0 : env[0]? = some (some (.box n))) (he : e ⟨env, hp⟩ = .ok (.int m) ⟨env, hp⟩) (hm : 0 < m) (hm2 : m < 18446744073709551616) :
    ∃ d c', drawA e ⟨env, hp⟩ = .ok (.int d) ⟨env, hp.set n c'⟩ ∧ 0 ≤ d ∧ d < m ∧ IsPen c' ∧ (hp.set n c')[n]? = some c' := by
  obtain ⟨hn, _⟩ := List.getElem?_eq_some_iff.mp hc
  obtain ⟨d, c', e1, d0, d1, p'⟩ := draw_at (m := m) hc p hm hm2
  exact ⟨d, c', fn_of (mcons_of (mv_of h0) (mone he)) e1, d0, d1, p', List.getElem?_set_self hn⟩
theorem mixH {hp : List Cell} {n : Nat} {c : Cell} {env : List (Option M)} {e : ME} {js : List Int} (hc : hp[n]? = some c) (p : IsPen c) (h0 : env[0]? = some (some (.box n))) (he : e ⟨env, hp⟩ = .ok (.lst (js.map M.int)) ⟨env, hp⟩) (hl : js.length ≤ 500) :
    ∃ (js' : List Int) (c' : Cell), mixA e ⟨env, hp⟩ = .ok (.lst (js'.map M.int)) ⟨env, hp.set n c' ++ [.lst [], .dead]⟩ ∧ js'.Perm js ∧ IsPen c' ∧ (hp.set n c' ++ [Cell.lst [], Cell.dead])[n]? = some c' := by
  obtain ⟨hn, _⟩ := List.getElem?_eq_some_iff.mp hc
  obtain ⟨ms, c', hp', p', e1⟩ := mixed_at (ms := js.map M.int) hc p (fun m hm => by
    obtain ⟨i, _, rfl⟩ := List.mem_map.mp hm
    exact dat_int i) (by rw [List.length_map]; exact hl)
  obtain ⟨js', rfl, pj⟩ := map_inv hp'
  exact ⟨js', c', fn_of (mcons_of (mv_of h0) (mone he)) e1, pj, p', by rw [List.getElem?_append_left (by simpa using hn), List.getElem?_set_self hn]⟩
def NB (i : Int) : Prop := -(9 * 10 ^ 29) < i ∧ i < 9 * 10 ^ 29
theorem mul_bound {a sc : Int} (ha : -82 < a ∧ a < 82) (hs : 0 < sc ∧ sc ≤ 10 ^ 28) : NB (a * sc) := by
  have z : (10 : Int) ^ 28 = 10000000000000000000000000000 := by decide
  have z2 : (10 : Int) ^ 29 = 100000000000000000000000000000 := by decide
  rw [z] at hs
  unfold NB
  rw [z2]
  have h1 : a * sc ≤ 82 * sc := Int.mul_le_mul_of_nonneg_right (by omega) (by omega)
  have h2 : -82 * sc ≤ a * sc := Int.mul_le_mul_of_nonneg_right (by omega) (by omega)
  omega
theorem NB.kb {i : Int} (h : NB i) : KB i := by
  obtain ⟨h1, h2⟩ := h
  have z : (10 : Int) ^ 29 = 100000000000000000000000000000 := by decide
  have z2 : (10 : Int) ^ 30 = 1000000000000000000000000000000 := by decide
  rw [z] at h1 h2
  unfold KB
  rw [z2]
  omega
abbrev rgI (k : Nat) : List Int := (List.range k).map fun i => (0 : Int) + (i : Nat)
theorem upTo_rg (k : Nat) : Ma.upTo 0 k = (rgI k).map M.int := by
  unfold Ma.upTo rgI
  rw [List.map_map]
  rfl
theorem rgI_nodup (k : Nat) : (rgI k).Nodup := by
  unfold rgI List.Nodup
  rw [List.pairwise_map]
  exact (List.nodup_range (n := k)).imp fun {a b} h => by omega
theorem n2_at {m : Int} {env : List (Option M)} {hp : List Cell} (h : env[2]? = some (some (.int m))) (h0 : 0 ≤ m) (h1 : m ≤ 40) : n2E ⟨env, hp⟩ = .ok (.int (2 * m + 2)) ⟨env, hp⟩ :=
  m2_of (m2_of (x := .int 2) (y := .int m) rfl (mv_of h) (mul_at (b := 0) (by omega))) rfl rfl
theorem pairs_at {mx : Int} (mx0 : 0 ≤ mx) (mx1 : mx ≤ 40) {hp : List Cell} {n : Nat} {c : Cell} (hc : hp[n]? = some c) (p : IsPen c) :
    ∃ ps c' ex, F__law_pairs [.box n, .int mx] hp = .ok (.lst (rm ps)) (hp.set n c' ++ ex) ∧ IsPen c' ∧ Rows ps ∧ (∀ q ∈ ps, NB q.2) ∧ (∀ q ∈ ps, q.1 ≠ 100000000000000000000000000003 ∧ q.1 ≠ 100000000000000000000000000001) ∧ ps.length ≤ mx.toNat := by
  obtain ⟨hn, _⟩ := List.getElem?_eq_some_iff.mp hc
  -- how many
  obtain ⟨m, c1, e1, m0, m1, p1, g1⟩ := drawH (env := [some (.box n), some (.int mx), none, none, none, none, none, none, none, none, none, none, none, none]) (e := m2 oAdd (mv 1) (mc (.int 1))) (m := mx + 1) hc p rfl rfl (by omega) (by omega)
  -- scale, shift, way
  obtain ⟨sm, c2, hsm, e2, p2⟩ := pick_at (ms := [.int 1, .int 1, .int 3, .int (10 ^ 9), .int (10 ^ 28)]) g1 p1 (by decide) (by decide)
  obtain ⟨sc, rfl, hsc, hsv⟩ : ∃ sc : Int, sm = .int sc ∧ (0 < sc ∧ sc ≤ 10 ^ 28) ∧ (sc = 1 ∨ sc = 3 ∨ sc = 1000000000 ∨ sc = 10000000000000000000000000000) := by
    simp only [List.mem_cons, List.not_mem_nil, or_false] at hsm
    rcases hsm with rfl | rfl | rfl | rfl | rfl <;> exact ⟨_, rfl, ⟨by decide, by decide⟩, by decide⟩
  have g2 : ((hp.set n c1).set n c2)[n]? = some c2 := List.getElem?_set_self (by simpa using hn)
  have esc : scE ⟨[some (.box n), some (.int mx), some (.int m), none, none, none, none, none, none, none, none, none, none, none], hp.set n c1⟩ = .ok (.lst [.int 1, .int 1, .int 3, .int (10 ^ 9), .int (10 ^ 28)]) ⟨[some (.box n), some (.int mx), some (.int m), none, none, none, none, none, none, none, none, none, none, none], hp.set n c1⟩ := by rfl
  have e2' : pickM scE ⟨[some (.box n), some (.int mx), some (.int m), none, none, none, none, none, none, none, none, none, none, none], hp.set n c1⟩ = .ok (.int sc) ⟨[some (.box n), some (.int mx), some (.int m), none, none, none, none, none, none, none, none, none, none, none], (hp.set n c1).set n c2⟩ :=
    Ma.fn_of (F := F__law_pick) (mcons_of (a := mv 0) (mv_of rfl) (mone esc)) e2
  obtain ⟨sh, c3, e3, s0, s1, p3, g3⟩ := drawH (env := [some (.box n), some (.int mx), some (.int m), none, none, none, none, none, none, none, none, none, none, none]) (e := n2E) (m := 2 * m + 2) g2 p2 rfl (n2_at rfl m0 (by omega)) (by omega) (by omega)
  obtain ⟨wy, c4, e4, w0, w1, p4, g4⟩ := drawH (env := [some (.box n), some (.int mx), some (.int m), none, none, none, none, none, none, none, none, none, none, none]) (e := mc (.int 7)) (m := 7) g3 p3 rfl rfl (by decide) (by decide)
  simp only [List.set_set] at e2' e3 e4 g4
  -- spots
  have hk : (2 * m + 2).toNat ≤ 82 := by omega
  obtain ⟨js, c5, e5, pj, p5, g5⟩ := mixH (env := [some (.box n), some (.int mx), some (.int m), none, none, some (.int sc), some (.int sh), some (.int wy), none, none, none, none, none, none]) (e := mListRange n2E) (js := rgI (2 * m + 2).toNat) g4 p4 rfl (by
    unfold mListRange
    rw [n2_at rfl m0 (by omega), ← upTo_rg]
    show (if 0 ≤ 2 * m + 2 ∧ 2 * m + 2 ≤ 1048576 then _ else _) = _
    rw [if_pos ⟨by omega, by omega⟩]) (by simp; omega)
  rw [List.set_set] at e5 g5
  -- keys, free, turned
  obtain ⟨mn, rfl⟩ : ∃ k : Nat, m = k := ⟨m.toNat, by omega⟩
  obtain ⟨ts, c6, e6, pt, p6, g6⟩ := mixH (env := [some (.box n), some (.int mx), some (.int mn), some (.lst (js.map M.int)), none, some (.int sc), some (.int sh), some (.int wy), none, none, none, none, none, none]) (e := mSl (mv 3) oNo (oSome (mv 2))) (js := js.take mn) g5 p5 rfl (sl_hi rfl rfl) (by rw [List.length_take, pj.length_eq]; simp; omega)
  have B0 : (hp.set n c5 ++ [Cell.lst [], Cell.dead]).set n c6 ++ [Cell.lst [], Cell.dead] = hp.set n c6 ++ [.lst [], .dead, .lst [], .dead] := by
    rw [List.set_append_left _ _ (by simpa using hn), List.set_set, List.append_assoc]; rfl
  rw [B0] at e6 g6
  have jl : js.length = 2 * mn + 2 := by rw [pj.length_eq]; simp; omega
  have jn : js.Nodup := pj.nodup_iff.mpr (rgI_nodup _)
  have jb : ∀ j ∈ js, 0 ≤ j ∧ j < 82 := fun j hj => by
    obtain ⟨i, hi, rfl⟩ := List.mem_map.mp (pj.mem_iff.mp hj)
    rw [List.mem_range] at hi
    omega
  have D : PD js (js.take mn) (js.drop mn) ts sh :=
    { e := (List.take_append_drop mn js).symm, t := pt, f := by rw [List.length_drop]; omega, k := by rw [List.length_take]; omega, l := by omega, jb := fun j hj => by have := jb j hj; omega, sb := by omega }
  generalize hB : hp.set n c6 ++ [Cell.lst [], .dead, .lst [], .dead] = B at e6 g6
  have hnB : n < B.length := by rw [← hB]; simp; omega
  obtain ⟨qs, c7, a1, a2, a3, e7, p7, kq, bq⟩ := pairs_loop (m := mn) (sc := sc) (wy := wy) hnB D (ls := (js.take mn).zipIdx) (ps := []) (c := c6) (o11 := none) (o12 := none) (o13 := none) (fun z hz => by
    obtain ⟨h1, h2, h3⟩ := List.mem_zipIdx hz
    simp only [Nat.zero_add, Nat.sub_zero] at h2 h3
    exact ⟨h2, by rw [h3]; exact List.getElem_mem _⟩) p6 (by rw [List.length_zipIdx, List.length_take]; simp; omega)
  have Bs : B.set n c6 = B := by
    obtain ⟨hl, hg⟩ := List.getElem?_eq_some_iff.mp g6
    rw [← hg, List.set_getElem_self]
  have R : Rows qs := by
    have kq2 : keysP qs = (js.take mn).map fun k => (k - sh) * sc := by
      rw [kq]
      have e : (js.take mn).zipIdx.map (fun z => (z.1 - sh) * sc) = ((js.take mn).zipIdx.map (·.1)).map (fun k => (k - sh) * sc) := by rw [List.map_map]; rfl
      rw [e, List.zipIdx_map_fst]
    refine ⟨fun q hq => ⟨?_, ?_⟩, ?_, ?_⟩
    · have hm : q.1 ∈ keysP qs := List.mem_map.mpr ⟨q, hq, rfl⟩
      rw [kq2] at hm
      obtain ⟨k, hk, e⟩ := List.mem_map.mp hm
      have := jb k (List.mem_of_mem_take hk)
      rw [← e]
      exact (mul_bound (by omega) hsc).kb
    · obtain ⟨to, ht, e⟩ := bq q hq
      have := jb to ht
      rw [e]
      exact (mul_bound (by omega) hsc).kb
    · rw [kq2]
      unfold List.Nodup
      rw [List.pairwise_map]
      refine (jn.sublist (List.take_sublist _ _)).imp fun {a b} hab h => hab ?_
      have := Int.eq_of_mul_eq_mul_right (by omega) h
      omega
    · have := congrArg List.length kq2
      rw [List.length_map, List.length_map, List.length_take] at this
      omega
  refine ⟨qs, c7, [.lst [], .dead, .lst [], .dead, .dead], body_rt (s' := ⟨envQ mx n B.length mn sc sh wy js (js.take mn) (js.drop mn) ts a1 a2 a3, hp.set n c7 ++ [Cell.lst [], .dead, .lst [], .dead, .dead]⟩) ?_, p7, R, fun q hq => ?_, fun q hq => ?_, ?_⟩
  · rw [pairs_eq]
    refine seq_of (set_of e1) (seq_of (s1 := ⟨[some (.box n), some (.int mx), some (.int mn), none, none, some (.int sc), some (.int sh), some (.int wy), none, none, none, none, none, none], hp.set n c4⟩) ?_ (seq_of (set_of e5) (seq_of (s1 := ⟨[some (.box n), some (.int mx), some (.int mn), some (.lst (js.map M.int)), none, some (.int sc), some (.int sh), some (.int wy), some (.lst ((js.take mn).map M.int)), some (.lst ((js.drop mn).map M.int)), some (.lst (ts.map M.int)), none, none, none], B⟩) ?_ (seq_of (s1 := ⟨envQ mx n B.length mn sc sh wy js (js.take mn) (js.drop mn) ts none none none, B ++ [Cell.lst []]⟩) (by rfl) (seq_of (for_of ?_ e7) (ret_of ?_))))))
    · exact par3_of (mcons_of e2' (mcons_of e3 (mone e4)))
    · have b1 := sl_hi (a := mv 3) (b := mv 2) (js := js) (k := mn) (s := ⟨[some (.box n), some (.int mx), some (.int mn), some (.lst (js.map M.int)), none, some (.int sc), some (.int sh), some (.int wy), none, none, none, none, none, none], hp.set n c5 ++ [.lst [], .dead]⟩) rfl rfl
      have b2 := sl_lo (a := mv 3) (b := mv 2) (js := js) (k := mn) (s := ⟨[some (.box n), some (.int mx), some (.int mn), some (.lst (js.map M.int)), none, some (.int sc), some (.int sh), some (.int wy), none, none, none, none, none, none], hp.set n c5 ++ [.lst [], .dead]⟩) rfl rfl
      exact par3_of (mcons_of b1 (mcons_of b2 (mone e6)))
    · show Ma.iEnum (mCons (mv 8) mNil) ⟨envQ mx n B.length mn sc sh wy js (js.take mn) (js.drop mn) ts none none none, B ++ [Cell.lst []]⟩ = _
      unfold Ma.iEnum
      show Res.ok (enumM ((js.take mn).map M.int)) _ = _
      have e9 : enumM ((js.take mn).map M.int) = (js.take mn).zipIdx.map fun z => M.tup [.int (z.2 : Nat), .int z.1] := by
        unfold enumM
        rw [List.zipIdx_map, List.map_map]
        rfl
      rw [e9]
      show _ = Res.ok _ ⟨_, hpY B n c6 (rm [])⟩
      unfold hpY
      rw [Bs]
      rfl
    · unfold mFrz
      show frz (.box B.length) ⟨envQ mx n B.length mn sc sh wy js (js.take mn) (js.drop mn) ts a1 a2 a3, hpY B n c7 (rm ([] ++ qs))⟩ = _
      unfold frz
      dsimp only
      rw [hpY_p]
      dsimp only
      rw [hpY_dead, List.nil_append, ← hB, List.set_append_left _ _ (by simpa using hn), List.set_set, List.append_assoc]
      rfl
  · obtain ⟨to, ht, e⟩ := bq q hq
    have := jb to ht
    rw [e]
    exact mul_bound (by omega) hsc
  · have hm : q.1 ∈ keysP qs := List.mem_map.mpr ⟨q, hq, rfl⟩
    rw [kq] at hm
    obtain ⟨z, hz, e⟩ := List.mem_map.mp hm
    obtain ⟨h1, h2, h3⟩ := List.mem_zipIdx (show (z.1, z.2) ∈ (js.take mn).zipIdx from hz)
    have hj : z.1 ∈ js.take mn := by rw [h3]; exact List.getElem_mem _
    have := jb z.1 (List.mem_of_mem_take hj)
    rw [← e]
    refine ⟨?_, ?_⟩ <;> (rcases hsv with rfl | rfl | rfl | rfl <;> omega)
  · have := congrArg List.length kq
    rw [List.length_map, List.length_map, List.length_zipIdx, List.length_take] at this
    omega
end Lw
namespace Lw
open L2 Ma PySem.Spec PySem PyProof.Rows
/-! a path: what waits for what -/
inductive Pth (g : Int → Option Int) : Nat → List Int → List Int → Str → Prop
  | free {pre : List Int} {last v : Int} : g last = some v → g v = none → Pth g 0 (pre ++ [last]) (pre ++ [last]) "free"
  | still {pre : List Int} {last : Int} : g last = some last → Pth g 0 (pre ++ [last]) (pre ++ [last]) "still"
  | ring {pre : List Int} {last v : Int} : g last = some v → (g v).isSome = true → v ≠ last → v ∈ pre ++ [last] → Pth g 0 (pre ++ [last]) (pre ++ [last]) "ring"
  | step {n : Nat} {pre res : List Int} {last v : Int} {e : Str} : g last = some v → (g v).isSome = true → v ≠ last → v ∉ pre ++ [last] → Pth g n ((pre ++ [last]) ++ [v]) res e → Pth g (n + 1) (pre ++ [last]) res e
theorem sub_len : ∀ {l m : List Int}, l.Nodup → (∀ x ∈ l, x ∈ m) → l.length ≤ m.length
  | [], m, _, _ => Nat.zero_le _
  | a :: l, m, h, hs => by
    obtain ⟨h1, h2⟩ := List.nodup_cons.mp h
    have ha := hs a List.mem_cons_self
    have := sub_len (l := l) (m := m.erase a) h2 fun x hx => by
      have : x ≠ a := fun e => h1 (e ▸ hx)
      exact (List.mem_erase_of_ne this).mpr (hs x (List.mem_cons_of_mem _ hx))
    have hl := List.length_erase_of_mem ha
    have hp : 0 < m.length := List.length_pos_of_mem ha
    simp only [List.length_cons]
    omega
/-! ### lists of ints in a box -/
theorem datL_ints : ∀ l : List Int, datL (l.map M.int) = some (l.map PyData.int)
  | [] => by simp [datL]
  | x :: l => by simp [datL, dat, datL_ints l]
end Lw
namespace Lw
open L2 Ma PySem.Spec PySem PyProof.Rows
theorem dictOf_w {hp : List Cell} {w : Nat} {kms : List (L2.Key × M)} (h : hp[w]? = some (.dK kms)) : dictOf hp (.box w) = some kms := by
  unfold dictOf
  dsimp only
  rw [h]
section
variable {L w : Nat} {hp : List Cell} {W : List IP} {k v row : Int} {env : List (Option M)} {i j : Nat} {neg : Bool} {o : M → M → MS → Res M}
theorem and_tt {t u : MT} {s s1 : MS} (h : t s = .ok true s1) : mAnd t u s = u s1 := by unfold mAnd; rw [h]; rfl
theorem mif_of {t : MT} {a b : ME} {s s1 : MS} {q : Bool} (h : t s = .ok q s1) : mIf t a b s = if q = true then a s1 else b s1 := by unfold mIf; rw [h]; rfl
end
/-! ### the program's walk -/
end Lw
namespace Lw
open L2 Ma PySem.Spec PySem PyProof.Rows
structure TW (hp : List Cell) (n d w : Nat) (T W : List IP) : Prop where
  t : TabAt hp n d T
  hw : hp[w]? = some (.dK (dm W))
  dw : d ≠ w
  r : Rows T
  s : Srt T
  p : W.Perm T
theorem TW.get {hp : List Cell} {n d w : Nat} {T W : List IP} (h : TW hp n d w T W) (k : Int) : getP W k = getP T k := (getP_perm h.p.symm h.s.nodup k).symm
theorem TW.app {hp ex : List Cell} {n d w : Nat} {T W : List IP} (h : TW hp n d w T W) : TW (hp ++ ex) n d w T W := by
  have g : ∀ {i : Nat} {c : Cell}, hp[i]? = some c → (hp ++ ex)[i]? = some c := fun {i c} e => by
    obtain ⟨hl, _⟩ := List.getElem?_eq_some_iff.mp e
    rw [List.getElem?_append_left hl]; exact e
  exact ⟨⟨g h.t.i, g h.t.d⟩, g h.hw, h.dw, h.r, h.s, h.p⟩
end Lw
namespace Lw
open L2 Ma PySem.Spec PySem PyProof.Rows
theorem fnE {ma : MA} {F : Fn} {env : List (Option M)} {hp0 hp1 hp2 : List Cell} {ms : List M} {m : M} (h : ma ⟨env, hp0⟩ = .ok ms ⟨env, hp1⟩) (hf : F ms hp1 = .ok m hp2) : mFn ma F ⟨env, hp0⟩ = .ok m ⟨env, hp2⟩ := by
  unfold mFn; rw [h]; show upF env (F ms hp1) = _; rw [hf]; rfl
theorem Pth.keys {g : Int → Option Int} {n : Nat} {st res : List Int} {e : Str} (h : Pth g n st res e) : (∀ x ∈ st, (g x).isSome = true) → ∀ x ∈ res, (g x).isSome = true := by
  induction h with
  | free h1 h2 => exact fun q => q
  | still h1 => exact fun q => q
  | ring h1 h2 h3 h4 => exact fun q => q
  | step h1 h2 h3 h4 h5 ih =>
    intro q
    refine ih ?_
    intro x hx
    rcases List.mem_append.mp hx with hx | hx
    · exact q x hx
    · cases List.mem_singleton.mp hx; exact h2
/-! ### heaps that keep what they had -/
section
variable {A B hp hp' : List Cell} {n d w : Nat} {T W : List IP} {c c' : Cell}
theorem TabAt.ext (t : TabAt B n d T) (e : Ext B hp) : TabAt hp n d T := ⟨e _ _ t.i, e _ _ t.d⟩
theorem TW.ext (h : TW B n d w T W) (e : Ext B hp) : TW hp n d w T W := ⟨h.t.ext e, e _ _ h.hw, h.dw, h.r, h.s, h.p⟩
theorem Ext.dic {kms : List (L2.Key × M)} (e : Ext B hp) (h : dictOf B (.box w) = some kms) : dictOf hp (.box w) = some kms := by
  unfold dictOf at h ⊢
  dsimp only at h ⊢
  cases q : B[w]? with
  | none => rw [q] at h; cases h
  | some c => rw [q] at h; rw [e _ _ q]; exact h
theorem lt_of {c : Cell} (h : hp[n]? = some c) : n < hp.length := (List.getElem?_eq_some_iff.mp h).1
/-! ### lists in boxes, of anything -/
end
/-! ### the path of a row, as a function -/
end Lw
namespace Lw
open L2 Ma PySem.Spec PySem PyProof.Rows
/-! the law's dict, locked or not -/
structure DW (hp : List Cell) (w : Nat) (T W : List IP) : Prop where
  d : dictOf hp (.box w) = some (dm W)
  r : Rows T
  s : Srt T
  p : W.Perm T
section
variable {n d w L : Nat} {T W : List IP} {hp B : List Cell} {k : Int}
theorem DW.ext (h : DW B w T W) (e : Ext B hp) : DW hp w T W := ⟨Ext.dic e h.d, h.r, h.s, h.p⟩
theorem DW.fn (h : DW hp w T W) : getP W = getP T := funext fun k => (getP_perm h.p.symm h.s.nodup k).symm
/-! ### the law's rings -/
end
end Lw
namespace Lw
open L2 Ma PySem.Spec PySem PyProof.Rows
section
variable {n d w L D : Nat} {T W ps : List IP} {hp hp' A B : List Cell} {c c' : Cell} {k v row : Int} {env : List (Option M)} {i j : Nat} {neg : Bool} {o : M → M → MS → Res M} {l : List Int} {ks p done acc R : List Int} {y : M} {g : Int → Option Int} {st res : List Int} {e : Str}
theorem eq_nil {neg : Bool} {ms : List M} (h : ∀ m ∈ ms, DatOk m) {s : MS} : oEqK neg (oEqD neg) (.lst ms) (.lst []) s = .ok (.bl (if neg then !ms.isEmpty else ms.isEmpty)) s := by
  obtain ⟨ds, e1, e2, e3, e4⟩ := datL_ok h
  unfold oEqK
  rw [show dictOf s.hp (.lst ms) = none from rfl, show dictOf s.hp (.lst []) = none from rfl]
  dsimp only
  unfold oEqD
  have t1 : datT s.hp (.lst ms) = some (.list ds) := by
    show (datL ms).map PyData.list = _
    rw [e1]; rfl
  rw [t1, show datT s.hp (.lst []) = some (.list []) from rfl]
  dsimp only
  have sh : (SeqAt.shaped (.list ds) && SeqAt.shaped (.list [])) = true := by
    have a : SeqAt.shaped (.list ds) = true := by
      unfold SeqAt.shaped
      rw [show PyData.canLay0 (.list ds) = true from e2, show PyData.depth (.list ds) = PyData.depthAll ds + 1 from rfl, decide_eq_true (by omega)]; rfl
    rw [a]; rfl
  rw [if_pos sh]
  cases ms with
  | nil =>
    cases ds with
    | nil => cases neg <;> rfl
    | cons _ _ => simp at e4
  | cons m l =>
    cases ds with
    | nil => simp at e4
    | cons d ds => cases neg <;> simp [PyData.eqv, PyData.eqvAll]
theorem mtup2 {a b : ME} {s s1 s2 : MS} {x y : M} (ha : a s = .ok x s1) (hb : b s1 = .ok y s2) : mTup (mCons a (mCons b mNil)) s = .ok (.tup [x, y]) s2 := by
  unfold mTup
  rw [mcons_of ha (mone hb)]
  rfl
theorem oAdd_lst {xs ys : List M} (h : xs.length + ys.length ≤ big) {s : MS} : oAdd (.lst xs) (.lst ys) s = .ok (.lst (xs ++ ys)) s := if_pos h
open PySem.W in
theorem sortD_ints {l m : List Int} (hp : l.Perm m) (hs : m.Pairwise (· ≤ ·)) {s : MS} : cSortD [.lst (l.map M.int)] s = .ok (.lst (m.map M.int)) s := by
  unfold cSortD
  dsimp only
  rw [show lstOf s.hp (.lst (l.map M.int)) = some (l.map M.int) from rfl]
  dsimp only
  rw [datL_ints]
  dsimp only
  have ok : sortOk (l.map PyData.int) = true := by
    unfold sortOk
    rw [Bool.and_eq_true, Bool.and_eq_true, Bool.or_eq_true]
    refine ⟨⟨List.all_eq_true.mpr fun d hd => List.all_eq_true.mpr fun e he => ?_, .inr (List.all_eq_true.mpr fun d hd => ?_)⟩, List.all_eq_true.mpr fun d hd => ?_⟩
    · obtain ⟨a, _, rfl⟩ := List.mem_map.mp hd
      obtain ⟨b, _, rfl⟩ := List.mem_map.mp he
      simp [alike]
    · obtain ⟨a, _, rfl⟩ := List.mem_map.mp hd
      rfl
    · obtain ⟨a, _, rfl⟩ := List.mem_map.mp hd
      rfl
  rw [if_pos ok]
  have ez : ∀ L : List Int, (L.map M.int).zip (L.map PyData.int) = L.map fun i => (M.int i, PyData.int i) := fun L => by
    induction L with
    | nil => rfl
    | cons l L ih => rw [List.map_cons, List.map_cons, List.zip_cons_cons, ih]; rfl
  have e2 : (l.mergeSort (dataLe false PyData.int)).map (fun i => (M.int i, PyData.int i)) = (l.map fun i => (M.int i, PyData.int i)).mergeSort leMD := sort_maps _ fun a _ b _ => rfl
  have le_iff : ∀ a b : Int, dataLe false PyData.int a b = true ↔ a ≤ b := fun a b => by
    rw [dataLe_eq]
    show (!dataLt (PyData.int b) (PyData.int a)) = true ↔ _
    rw [dataLt_int]
    simp
  have e3 : m = l.mergeSort (dataLe false PyData.int) := by
    refine List.Perm.eq_of_pairwise (le := fun a b => dataLe false PyData.int a b = true) (fun a b _ _ h1 h2 => ?_) (hs.imp fun {a b} h => (le_iff a b).mpr h) (sort_pairwise (sortLe_total _ _ _) l) (hp.symm.trans (List.mergeSort_perm l _).symm)
    exact Int.le_antisymm ((le_iff a b).mp h1) ((le_iff b a).mp h2)
  rw [ez, ← e2, ← e3, List.map_map]
  rfl
theorem eqv_ints : ∀ l : List Int, PyData.eqvAll (l.map PyData.int) (l.map PyData.int) = true
  | [] => by simp [PyData.eqvAll]
  | a :: l => by simp [PyData.eqvAll, PyData.eqv, eqv_ints l]
theorem eqv_rows : ∀ l : List IP, PyData.eqvAll (l.map dP) (l.map dP) = true
  | [] => by simp [PyData.eqvAll]
  | a :: l => by simp [PyData.eqvAll, PyData.eqv, dP, eqv_rows l]
theorem eq_same {neg : Bool} {x : M} {d : PyData} {s : MS} (hd : dictOf s.hp x = none) (hx : datT s.hp x = some d) (sh : SeqAt.shaped d = true) (he : PyData.eqv d d = true) : oEqK neg (oEqD neg) x x s = .ok (.bl (!neg)) s := by
  unfold oEqK
  rw [hd]
  dsimp only
  unfold oEqD
  rw [hx]
  dsimp only
  rw [sh, if_pos (show (true && true) = true from rfl), he]
  cases neg <;> rfl
theorem shp_tup {ms : List M} {ds : List PyData} (h : ∀ m ∈ ms, DatOk m) (e : datL ms = some ds) : SeqAt.shaped (.tuple ds) = true := by
  obtain ⟨ds', e1, e2, e3, e4⟩ := datL_ok h
  rw [e] at e1
  cases e1
  unfold SeqAt.shaped
  rw [show PyData.canLay0 (.tuple ds) = true from e2, show PyData.depth (.tuple ds) = PyData.depthAll ds + 1 from rfl, decide_eq_true (by omega)]; rfl
theorem eq_tupI {neg : Bool} {l : List Int} {s : MS} : oEqK neg (oEqD neg) (tupI l) (tupI l) s = .ok (.bl (!neg)) s := by
  refine eq_same rfl (d := tupD l) ?_ (shp_tup (ms := l.map M.int) (fun m hm => ?_) (datL_ints l)) ?_
  · show (datL (l.map M.int)).map PyData.tuple = _
    rw [datL_ints]; rfl
  · obtain ⟨i, _, rfl⟩ := List.mem_map.mp hm
    exact dat_int i
  · show PyData.eqv (.tuple (l.map PyData.int)) (.tuple (l.map PyData.int)) = true
    simp [PyData.eqv, eqv_ints]
theorem eq_rowsT {neg : Bool} {T : List IP} {s : MS} : oEqK neg (oEqD neg) (.tup (rm T)) (.tup (rm T)) s = .ok (.bl (!neg)) s := by
  refine eq_same rfl (d := .tuple (T.map dP)) ?_ (shp_tup (ms := rm T) (fun m hm => ?_) (datL_rm T)) ?_
  · show (datL (rm T)).map PyData.tuple = _
    rw [datL_rm]; rfl
  · obtain ⟨i, _, rfl⟩ := List.mem_map.mp hm
    exact dat_pM i
  · simp [PyData.eqv, eqv_rows]
theorem Rows.key (R : Rows T) {k : Int} (h : k ∈ keysP T) : KB k := by
  obtain ⟨p, hp, rfl⟩ := List.mem_map.mp h
  exact (R.kp p hp).1
def SmL (l : List Int) : Prop := l.length ≤ 41 ∧ ∀ x ∈ l, KB x
theorem okd_tup {l : List Int} (h : SmL l) : Okd (tupD l) 1 5800 := by
  have o1 : Oks (l.map PyData.int) 0 ((l.map PyData.int).length * (140 + 1)) := Oks.all fun q hq => by
    obtain ⟨y, hy, rfl⟩ := List.mem_map.mp hq
    exact Okd.int (h.2 y hy).abs
  refine Okd.tuple (o1.le (Nat.le_refl _) ?_)
  rw [List.length_map]
  have := h.1
  omega
theorem fn_errE {ma : MA} {F : Fn} {env : List (Option M)} {hp0 hp1 hp2 : List Cell} {ms : List M} {x : Exc} (h : ma ⟨env, hp0⟩ = .ok ms ⟨env, hp1⟩) (hf : F ms hp1 = .err x hp2) : mFn ma F ⟨env, hp0⟩ = .err x ⟨env, hp2⟩ := by
  unfold mFn; rw [h]; show upF env (F ms hp1) = _; rw [hf]; rfl
theorem seq_err {a b : MStm} {s s1 : MS} {x : Exc} (h : a s = .err x s1) : sSeq a b s = .err x s1 := by unfold sSeq; rw [h]; rfl
end
end Lw
namespace Lw
open L2 Ma PySem.Spec PySem PyProof.Rows
/-! formulas, keys, what is refused -/
section
variable {hp B : List Cell} {n : Nat} {c : Cell} {t p : Int} {env : List (Option M)} {y z m a0 a1 a2 a3 a4 : M} {K : List Int} {neg : Bool}
abbrev fr (t p : Int) : Cell := .ins "Formula" [("_times", .int t), ("_plus", .int p)]
theorem numbers_at (h : hp[n]? = some c) (p : IsPen c) :
    ∃ t q c', F__law_numbers [.box n] hp = .ok (.tup [.int t, .int q]) (hp.set n c') ∧ (-10 ^ 15 < t ∧ t < 10 ^ 15) ∧ (-10 ^ 15 < q ∧ q < 10 ^ 15) ∧ IsPen c' := by
  obtain ⟨hn, hg⟩ := List.getElem?_eq_some_iff.mp h
  have gs : ∀ (l : List Cell) (x : Cell), n < l.length → (l.set n x)[n]? = some x := fun l x hl => List.getElem?_set_self hl
  obtain ⟨d, c1, e1, d0, d1, p1⟩ := draw_at h p (m := 99) (by decide) (by decide)
  have h1 := gs hp c1 hn
  obtain ⟨m, c2, hm, e2, p2⟩ := pick_at (ms := [.int 1, .int 1, .int 1, .int 0, .int (-1), .int 2, .int (-2), .int 3, .int (-3), .int (d - 49), .int (10 ^ 15 - 1), .int (1 - 10 ^ 15)]) h1 p1 (by simp) (by simp)
  have h2 := gs (hp.set n c1) c2 (by simpa using hn)
  obtain ⟨d', c3, e3, d0', d1', p3⟩ := draw_at h2 p2 (m := 30) (by decide) (by decide)
  have h3 := gs ((hp.set n c1).set n c2) c3 (by simpa using hn)
  obtain ⟨d2, c4, e4, d02, d12, p4⟩ := draw_at h3 p3 (m := 10 ^ 12) (by decide) (by decide)
  have h4 := gs (((hp.set n c1).set n c2).set n c3) c4 (by simpa using hn)
  obtain ⟨m', c5, hm', e5, p5⟩ := pick_at (ms := [.int 0, .int 1, .int (-1), .int (d' - 15), .int d2, .int (10 ^ 15 - 1), .int (1 - 10 ^ 15)]) h4 p4 (by simp) (by simp)
  have hk : ∃ t : Int, m = .int t ∧ (-10 ^ 15 < t ∧ t < 10 ^ 15) := by
    simp only [List.mem_cons, List.not_mem_nil, or_false] at hm
    rcases hm with rfl | rfl | rfl | rfl | rfl | rfl | rfl | rfl | rfl | rfl | rfl | rfl <;> exact ⟨_, rfl, by omega⟩
  have hk' : ∃ t : Int, m' = .int t ∧ (-10 ^ 15 < t ∧ t < 10 ^ 15) := by
    simp only [List.mem_cons, List.not_mem_nil, or_false] at hm'
    rcases hm' with rfl | rfl | rfl | rfl | rfl | rfl | rfl <;> exact ⟨_, rfl, by omega⟩
  obtain ⟨t, rfl, ht⟩ := hk
  obtain ⟨q, rfl, hq⟩ := hk'
  refine ⟨t, q, c5, ?_, ht, hq, p5⟩
  have z15 : (10 : Int) ^ 15 = 1000000000000000 := by decide
  have z12 : (10 : Int) ^ 12 = 1000000000000 := by decide
  have w1 : (1000000000000000 : Int) - 1 = 999999999999999 := by decide
  have w2 : (1 : Int) - 1000000000000000 = -999999999999999 := by decide
  simp only [z12, z15, w1, w2, List.set_set] at e1 e2 e3 e4 e5
  simp [F__law_numbers, m__law_numbers, posF, bodyF, sSeq, sSet, sRet, m2, mv, mc, mNeg, mFn, upF, mCons, mNil, mLst, mTup, oInt, oSub, oMul, oPow, yes, Res.bind, big, e1, e2, e3, e4, e5]
theorem int_int {i : Int} {hp : List Cell} : F_is_integer [.int i] hp = .ok (.bl true) hp := by kernel_rfl
theorem z15 : (10 : Int) ^ 15 = 1000000000000000 := by decide
theorem small_int {i : Int} {hp : List Cell} : F_is_small [.int i] hp = .ok (.bl (decide (-10 ^ 15 < i ∧ i < 10 ^ 15))) hp := by
  rw [z15]
  by_cases h : -1000000000000000 < i <;> by_cases h2 : i < 1000000000000000 <;> simp [F_is_small, m_is_small, posF, bodyF, sRet, mAndV, mFn, mCons, mNil, mv, mc, Res.bind, upF, int_int, mChain, mNeg, oLt, oInt, yes, h, h2]
theorem init_ok {b : Nat} (h : hp[b]? = some (.ins "Formula" [])) (h1 : -10 ^ 15 < t ∧ t < 10 ^ 15) (h2 : -10 ^ 15 < p ∧ p < 10 ^ 15) : F_Formula___init__ [.box b, .int t, .int p] hp = .ok .non (hp.set b (fr t p)) := by
  obtain ⟨hn, hg⟩ := List.getElem?_eq_some_iff.mp h
  have e1 := small_int (i := t) (hp := hp)
  have e2 := small_int (i := p) (hp := hp)
  rw [decide_eq_true h1] at e1
  rw [decide_eq_true h2] at e2
  simp [F_Formula___init__, m_Formula___init__, posF, bodyF, sSeq, sIf, mOr, mNot, mB, isB, mFn, mCons, mNil, mv, mc, Res.bind, upF, int_int, e1, e2, sNx, sPut, fPut, hg, hn, putFM, List.set_set]
  rw [if_neg (by decide)]
theorem mk_ok {ma : MA} {s s1 : MS} (h : ma s = .ok [.int t, .int p] s1) (h1 : -10 ^ 15 < t ∧ t < 10 ^ 15) (h2 : -10 ^ 15 < p ∧ p < 10 ^ 15) :
    mMk "Formula" F_Formula___init__ ma s = .ok (.box s1.hp.length) ⟨s1.env, s1.hp ++ [fr t p]⟩ := by
  unfold mMk
  rw [h]
  show mkM "Formula" F_Formula___init__ [.int t, .int p] s1 = _
  unfold mkM
  rw [init_ok (by simp) h1 h2]
  simp
theorem isf_f (hf : hp[n]? = some (fr t p)) {env : List (Option M)} : cIsi IS XS isi [.box n, .cls "Formula"] ⟨env, hp⟩ = .ok (.bl true) ⟨env, hp⟩ := by
  have h2 : tgOf IS XS hp (.box n) = some (.own "Formula") := by
    show (match hp[n]? with | some (.lst _) => some (Tg.bi "list") | some (.dK _) => some (.bi "dict") | some (.ins c _) => if IS.contains c then some (.own c) else none | _ => none) = _
    rw [hf]; kernel_rfl
  show (match tgOf IS XS hp (.box n), clOf (.cls "Formula") with | some t, some u => (match isi t u with | some b => Res.ok (M.bl b) _ | none => .stuck) | _, _ => .stuck) = _
  rw [h2]; kernel_rfl
/-! ### what a value is not -/
theorem form_ok (hf : hp[n]? = some (fr t p)) : F_check_formula [.box n] hp = .ok .non hp := by
  have h := isf_f hf (env := [some (.box n)])
  simp [F_check_formula, m_check_formula, posF, bodyF, sIf, mNot, mB, isB, mCall, mCons, mNil, mv, mc, Res.bind, h, sNx]
abbrev bdB : MStm := (sIf (mAnd (mB (m2 (oIsN true) (mv 2) (mc .non))) (mNot (mB (mFn (mCons (mv 2) mNil) F_is_small)))) (sRai "NotBound" (mCons (mc (.str "a bound is None or an integer with at most 15 digits")) mNil)) sNx)
theorem for_nx1 {tg : MG} {b : MStm} {x : M} {xs : List M} {s s1 s2 : MS} (h1 : tg x s = .ok () s1) (h2 : b s1 = .ok .nx s2) : sFor tg b (x :: xs) s = sFor tg b xs s2 := by
  rw [sFor]; dsimp only; rw [h1]; show (b s1).bind _ = _; rw [h2]; rfl
/-! ### keys -/
theorem all_blsG {α : Type} {xs : List α} {f : α → Bool} {s : MS} : cAll neg [.lst (xs.map fun k => M.bl (f k))] s = .ok (.bl (if neg then xs.any f else xs.all f)) s := by
  have e : (xs.map fun k => M.bl (f k)) = (xs.map f).map M.bl := by rw [List.map_map]; rfl
  show (match blsOf (xs.map fun k => M.bl (f k)) with | some bs => Res.ok (M.bl (if neg then bs.any id else bs.all id)) _ | none => Res.stuck) = _
  rw [blsOf_map]
  simp [List.all_map, List.any_map, Function.comp_def]
theorem diff_at (hb : ∀ x ∈ K, KB x) (hl : K.length ≤ 100) : F_are_different_keys [tupI K] hp = .ok (.bl (((ssI K).length : Int) == (K.length : Int))) hp := by
  have i1 : mCall (mCons (mv 0) (mCons (mc (.ty "tuple")) mNil)) (cIsi IS XS isi) ⟨[some (tupI K), none], hp⟩ = .ok (.bl true) ⟨[some (tupI K), none], hp⟩ := call_of (mcons_of (mv_of rfl) (mone rfl)) (by kernel_rfl)
  have c1 := mlc_if (vs := [1]) (it := iSeq (mv 0)) (tg := gSet 1) (tt := mYes) (el := mFn (mCons (mv 1) mNil) F_is_key) (em := M.int) (f := fun _ => M.bl true) (p := fun _ => true) (xs := K) (s := ⟨[some (tupI K), none], hp⟩) (s1 := ⟨[some (tupI K), none], hp⟩) rfl (Nat.le_trans hl (by decide)) fun x hx =>
    ⟨⟨[some (tupI K), some (.int x)], hp⟩, [some (tupI K), some (.int x)], rfl, rfl, fun _ => ⟨_, fnE (F := F_is_key) (mone (a := mv 1) (mv_of rfl)) (is_key_at (hb x hx))⟩⟩
  rw [List.filter_eq_self.mpr (fun _ _ => rfl)] at c1
  have t1 := not_of (b_of (call_of (o := cAll false) (mone c1) (all_blsG (neg := false) (f := fun _ : Int => true))))
  rw [if_neg (by decide), List.all_eq_true.mpr (fun _ _ => rfl)] at t1
  have l1 : mCall (mCons (mCall (mCons (mv 0) mNil) cSetI) mNil) (cLenD (cLenS cLen)) ⟨[some (tupI K), none], hp⟩ = .ok (.int (ssI K).length) ⟨[some (tupI K), none], hp⟩ := by
    have st : mCall (mCons (mv 0) mNil) cSetI ⟨[some (tupI K), none], hp⟩ = .ok (.set K) ⟨[some (tupI K), none], hp⟩ := by
      refine call_of (mone (mv_of rfl)) ?_
      unfold cSetI
      rw [show seqA (⟨[some (tupI K), none], hp⟩ : MS) [tupI K] = some (K.map M.int) from rfl]
      dsimp only
      rw [intsM_map]
      dsimp only
      rw [if_pos (by omega)]
    exact call_of (mone st) rfl
  have l2 : mCall (mCons (mv 0) mNil) (cLenD (cLenS cLen)) ⟨[some (tupI K), none], hp⟩ = .ok (.int K.length) ⟨[some (tupI K), none], hp⟩ := by
    refine call_of (mone (mv_of rfl)) ?_
    show Res.ok (M.int (K.map M.int).length) _ = _
    rw [List.length_map]
  have r := m2_of (o := oEqK false (oEqD false)) l1 l2 eq_int
  exact (show F_are_different_keys [tupI K] hp = bodyF 1 2 m_are_different_keys [tupI K] hp from rfl).trans (body_rt (s' := ⟨[some (tupI K), none], hp⟩) ((seq_nx ((if_of (k := false) ((or_f (not_of (b_of i1))).trans t1)).trans rfl)).trans (ret_of r)))
theorem ssI_nd : (ssI K).Nodup := (ssI_up K).imp fun {a b} h => by omega
theorem diff_yes (hb : ∀ x ∈ K, KB x) (hl : K.length ≤ 100) (nd : K.Nodup) : F_are_different_keys [tupI K] hp = .ok (.bl true) hp := by
  rw [diff_at hb hl]
  have h1 := sub_len (ssI_nd (K := K)) fun x hx => ssI_mem.mp hx
  have h2 := sub_len nd (m := ssI K) fun x hx => ssI_mem.mpr hx
  rw [show (ssI K).length = K.length by omega]
  simp
theorem or_t' {t u : MT} {s s1 : MS} (h : t s = .ok true s1) : mOr t u s = .ok true s1 := by unfold mOr; rw [h]; rfl
end
end Lw
namespace Lw
open L2 Ma PySem.Spec PySem PyProof.Rows
/-! what statement, clash, safe_scans refuse -/
section
variable {hp B : List Cell} {n : Nat} {c : Cell} {t p : Int} {env : List (Option M)} {y z m a0 a1 a2 a3 a4 : M} {K : List Int} {neg : Bool} {o5 o6 : Option M}
def k1S : MStm := (sIf (mNot (mB (mFn (mCons (mv 0) mNil) F_are_different_keys))) (sRai "NotKeys" (mCons (mc (.str "keys is a tuple of different keys")) mNil)) sNx)
def k2S : MStm := (sExpr (mFn (mCons (mv 1) mNil) F_check_formula))
def k3S : MStm := (sExpr (mFn (mCons (mv 2) mNil) F_check_scan))
def k4S : MStm := (sExpr (mFn (mCons (mv 3) (mCons (mv 4) mNil)) F_check_bounds))
def k5S : MStm := (sIf (mB (m2 oGt (mCall (mCons (mv 0) mNil) (cLenD cLen)) (mc (.int 40)))) (sRaiI "TooMany" ["many", "most"] [.inr 0, .inl " are too many, ", .inr 1, .inl " is the most"] (mCons (mCall (mCons (mv 0) mNil) (cLenD cLen)) (mCons (mc (.int 40)) mNil))) sNx)
def k6S : MStm := (sSet 5 (mFn (mCons (mv 0) (mCons (mv 1) (mCons (mv 3) (mCons (mv 4) mNil)))) F_changed_rows))
def k7S : MStm := (sIf (mNot (mB (mCall (mCons (mLc [6] (iSeq (mv 5)) (gSet 6) mYes (mFn (mCons (m2 (oIxD oIx) (mv 6) (mc (.int 1))) mNil) F_is_key)) mNil) (cAll false)))) (sRai "TooLarge" (mCons (mc (.str "a new key would have more than 30 digits")) mNil)) sNx)
def k8S : MStm := (sRet (mTup (mCons (mMkS "Table" F_Table___init__ (mv 5)) (mCons (mFn (mCons (mv 5) (mCons (mv 2) (mCons (mv 3) (mCons (mv 4) mNil)))) F_visited_rows) mNil))))
theorem st_eq : m_statement = sSeq k1S (sSeq k2S (sSeq k3S (sSeq k4S (sSeq k5S (sSeq k6S (sSeq k7S k8S)))))) := rfl
abbrev eS (a0 a1 a2 a3 a4 : M) (o5 o6 : Option M) : List (Option M) := [some a0, some a1, some a2, some a3, some a4, o5, o6]
def OkKs (hp : List Cell) (a : M) : Prop := F_are_different_keys [a] hp = .ok (.bl true) hp
theorem k1_ok (h : OkKs hp a0) : k1S ⟨eS a0 a1 a2 a3 a4 none none, hp⟩ = .ok .nx ⟨eS a0 a1 a2 a3 a4 none none, hp⟩ :=
  (if_of (k := false) (not_of (b := true) (b_of (fnE (F := F_are_different_keys) (mone (a := mv 0) (mv_of rfl)) h)))).trans rfl
theorem expr_ok {e : ME} {s s1 : MS} {m : M} (h : e s = .ok m s1) : sExpr e s = .ok .nx s1 := by unfold sExpr; rw [h]; rfl
theorem k2_ok (hf : hp[n]? = some (fr t p)) : k2S ⟨eS a0 (.box n) a2 a3 a4 none none, hp⟩ = .ok .nx ⟨eS a0 (.box n) a2 a3 a4 none none, hp⟩ :=
  expr_ok (fnE (F := F_check_formula) (mone (a := mv 1) (mv_of rfl)) (form_ok hf))
theorem k3_ok (h : F_check_scan [a2] hp = .ok .non hp) : k3S ⟨eS a0 a1 a2 a3 a4 none none, hp⟩ = .ok .nx ⟨eS a0 a1 a2 a3 a4 none none, hp⟩ :=
  expr_ok (fnE (F := F_check_scan) (mone (a := mv 2) (mv_of rfl)) h)
theorem k4_ok (h : F_check_bounds [a3, a4] hp = .ok .non hp) : k4S ⟨eS a0 a1 a2 a3 a4 none none, hp⟩ = .ok .nx ⟨eS a0 a1 a2 a3 a4 none none, hp⟩ :=
  expr_ok (fnE (F := F_check_bounds) (mcons_of (a := mv 3) (mv_of rfl) (mone (a := mv 4) (mv_of rfl))) h)
theorem len_tupI {i : Nat} (h : env[i]? = some (some (tupI K))) : mCall (mCons (mv i) mNil) (cLenD cLen) ⟨env, hp⟩ = .ok (.int K.length) ⟨env, hp⟩ := by
  refine call_of (mone (mv_of h)) ?_
  show Res.ok (M.int (K.map M.int).length) _ = _
  rw [List.length_map]
/-! ### clash -/
abbrev eC (a0 a1 a2 a3 : M) : List (Option M) := [some a0, some a1, some a2, some a3, none]
/-! ### safe_scans -/
/-! ### a box with words -/
theorem sa_large : saidX WS ⟨"TooLarge", [], []⟩ = some (.tup [.str "large"]) := by kernel_rfl
/-! ### values of other kinds -/
end
end Lw
namespace Lw
open L2 Ma PySem.Spec PySem PyProof.Rows
/-! what statement returns -/
section
variable {hp B : List Cell} {n : Nat} {c : Cell} {t p : Int} {env : List (Option M)} {y z m a0 a1 a2 a3 a4 lo hi sc v : M} {K L : List Int} {neg : Bool} {o5 o6 : Option M} {W : Int → Bool} {ps : List IP} {x : Int}
theorem ins_is (h : hp[n]? = some (fr t p)) : isIns "Formula" (.box n) ⟨env, hp⟩ = true := by
  simp [isIns, h]
theorem fld_t (hf : hp[n]? = some (fr t p)) {i : Nat} (hi : env[i]? = some (some (.box n))) : mFld ["Formula"] [] "_times" (mv i) ⟨env, hp⟩ = .ok (.int t) ⟨env, hp⟩ := by
  unfold mFld mv
  rw [hi]
  show oFld ["Formula"] [] "_times" (.box n) ⟨env, hp⟩ = _
  unfold oFld fldM
  simp only [hf]
  rfl
theorem fld_p (hf : hp[n]? = some (fr t p)) {i : Nat} (hi : env[i]? = some (some (.box n))) : mFld ["Formula"] [] "_plus" (mv i) ⟨env, hp⟩ = .ok (.int p) ⟨env, hp⟩ := by
  unfold mFld mv
  rw [hi]
  show oFld ["Formula"] [] "_plus" (.box n) ⟨env, hp⟩ = _
  unfold oFld fldM
  simp only [hf]
  rfl
theorem times_f (hf : hp[n]? = some (fr t p)) : F_Formula_times [.box n] hp = .ok (.int t) hp := by
  have a0 := fld_t hf (env := [some (.box n)]) (i := 0) rfl
  simp [F_Formula_times, m_Formula_times, posF, bodyF, sRet, Res.bind, a0]
theorem plus_f (hf : hp[n]? = some (fr t p)) : F_Formula_plus [.box n] hp = .ok (.int p) hp := by
  have a0 := fld_p hf (env := [some (.box n)]) (i := 0) rfl
  simp [F_Formula_plus, m_Formula_plus, posF, bodyF, sRet, Res.bind, a0]
theorem prp_t (hf : hp[n]? = some (fr t p)) {o : M → MS → Res M} : oPrp "Formula" F_Formula_times o (.box n) ⟨env, hp⟩ = .ok (.int t) ⟨env, hp⟩ := by
  unfold oPrp
  rw [if_pos (ins_is hf)]
  show noErr (upF env (F_Formula_times [.box n] hp)) = _
  rw [times_f hf]; rfl
theorem prp_p (hf : hp[n]? = some (fr t p)) {o : M → MS → Res M} : oPrp "Formula" F_Formula_plus o (.box n) ⟨env, hp⟩ = .ok (.int p) ⟨env, hp⟩ := by
  unfold oPrp
  rw [if_pos (ins_is hf)]
  show noErr (upF env (F_Formula_plus [.box n] hp)) = _
  rw [plus_f hf]; rfl
theorem z30 : (10 : Int) ^ 30 = 1000000000000000000000000000000 := by decide
theorem key_int {i : Int} {hp : List Cell} : F_is_key [.int i] hp = .ok (.bl (decide (-10 ^ 30 < i ∧ i < 10 ^ 30))) hp := by
  rw [z30]
  by_cases h : -1000000000000000000000000000000 < i <;> by_cases h2 : i < 1000000000000000000000000000000 <;> simp [F_is_key, m_is_key, posF, bodyF, sRet, mAndV, mFn, mCons, mNil, mv, mc, Res.bind, upF, int_int, mChain, mNeg, oLt, oInt, yes, h, h2]
theorem k7t_at (hl : ps.length ≤ 1000) : mNot (mB (mCall (mCons (mLc [6] (iSeq (mv 5)) (gSet 6) mYes (mFn (mCons (m2 (oIxD oIx) (mv 6) (mc (.int 1))) mNil) F_is_key)) mNil) (cAll false))) ⟨eS a0 a1 a2 a3 a4 (some (.lst (rm ps))) none, hp⟩ =
    .ok (!(ps.all fun q => decide (-10 ^ 30 < q.2 ∧ q.2 < 10 ^ 30))) ⟨eS a0 a1 a2 a3 a4 (some (.lst (rm ps))) none, hp⟩ := by
  have c1 := mlc_if (vs := [6]) (it := iSeq (mv 5)) (tg := gSet 6) (tt := mYes) (el := mFn (mCons (m2 (oIxD oIx) (mv 6) (mc (.int 1))) mNil) F_is_key) (em := pM) (f := fun q : IP => M.bl (decide (-10 ^ 30 < q.2 ∧ q.2 < 10 ^ 30))) (p := fun _ => true) (xs := ps) (s := ⟨eS a0 a1 a2 a3 a4 (some (.lst (rm ps))) none, hp⟩) (s1 := ⟨eS a0 a1 a2 a3 a4 (some (.lst (rm ps))) none, hp⟩) rfl (Nat.le_trans hl (by decide)) fun q hq =>
    ⟨⟨eS a0 a1 a2 a3 a4 (some (.lst (rm ps))) (some (pM q)), hp⟩, eS a0 a1 a2 a3 a4 (some (.lst (rm ps))) (some (pM q)), rfl, rfl, fun _ => ⟨_, fnE (F := F_is_key) (mone (m2_of (x := pM q) (y := .int 1) (b := mc (.int 1)) (mv_of rfl) rfl rfl)) key_int⟩⟩
  rw [List.filter_eq_self.mpr (fun _ _ => rfl)] at c1
  exact not_of (b_of (call_of (o := cAll false) (mone c1) (all_blsG (neg := false))))
theorem k5_ok (hl : K.length ≤ 40) : k5S ⟨eS (tupI K) a1 a2 a3 a4 none none, hp⟩ = .ok .nx ⟨eS (tupI K) a1 a2 a3 a4 none none, hp⟩ := by
  have l := len_tupI (K := K) (env := eS (tupI K) a1 a2 a3 a4 none none) (hp := hp) (i := 0) rfl
  have g : mB (m2 oGt (mCall (mCons (mv 0) mNil) (cLenD cLen)) (mc (.int 40))) ⟨eS (tupI K) a1 a2 a3 a4 none none, hp⟩ = .ok false ⟨eS (tupI K) a1 a2 a3 a4 none none, hp⟩ := by
    refine b_of (m2_of l (b := mc (.int 40)) (y := .int 40) rfl ?_)
    show Res.ok (M.bl (decide ((40 : Int) < (K.length : Int)))) _ = _
    rw [decide_eq_false (by omega)]
  exact (if_of g).trans rfl
theorem k6_ok (h : F_changed_rows [a0, a1, a3, a4] hp = .ok v hp) : k6S ⟨eS a0 a1 a2 a3 a4 none none, hp⟩ = .ok .nx ⟨eS a0 a1 a2 a3 a4 (some v) none, hp⟩ :=
  set_of (s1 := ⟨eS a0 a1 a2 a3 a4 none none, hp⟩) (fnE (F := F_changed_rows) (mcons_of (a := mv 0) (mv_of rfl) (mcons_of (a := mv 1) (mv_of rfl) (mcons_of (a := mv 3) (mv_of rfl) (mone (a := mv 4) (mv_of rfl))))) h)
theorem st_large (h0 : OkKs hp (tupI K)) (hf : hp[n]? = some (fr t p)) (h2 : F_check_scan [a2] hp = .ok .non hp) (h3 : F_check_bounds [a3, a4] hp = .ok .non hp) (hl : K.length ≤ 40) (h6 : F_changed_rows [tupI K, .box n, a3, a4] hp = .ok (.lst (rm ps)) hp) (lp : ps.length ≤ 1000)
    (hb : (ps.all fun q => decide (-10 ^ 30 < q.2 ∧ q.2 < 10 ^ 30)) = false) : bodyF 5 7 m_statement [tupI K, .box n, a2, a3, a4] hp = .err ⟨"TooLarge", [], []⟩ hp := by
  have t7 := k7t_at (a0 := tupI K) (a1 := .box n) (a2 := a2) (a3 := a3) (a4 := a4) (hp := hp) lp
  rw [hb] at t7
  refine body_err (s' := ⟨eS (tupI K) (.box n) a2 a3 a4 (some (.lst (rm ps))) none, hp⟩) ?_
  rw [st_eq]
  exact (seq_nx (k1_ok h0)).trans ((seq_nx (k2_ok hf)).trans ((seq_nx (k3_ok h2)).trans ((seq_nx (k4_ok h3)).trans ((seq_nx (k5_ok hl)).trans ((seq_nx (k6_ok h6)).trans (seq_err ((if_of (k := true) t7).trans rfl)))))))
theorem st_ok (h0 : OkKs hp (tupI K)) (hf : hp[n]? = some (fr t p)) (h2 : F_check_scan [a2] hp = .ok .non hp) (h3 : F_check_bounds [a3, a4] hp = .ok .non hp) (hl : K.length ≤ 40) (h6 : F_changed_rows [tupI K, .box n, a3, a4] hp = .ok (.lst (rm ps)) hp) (R : Rows ps)
    (h8 : F_visited_rows [.lst (rm ps), a2, a3, a4] (hp ++ mkCells hp.length ps) = .ok v (hp ++ mkCells hp.length ps)) : bodyF 5 7 m_statement [tupI K, .box n, a2, a3, a4] hp = .ok (.tup [.box hp.length, v]) (hp ++ mkCells hp.length ps) := by
  have t7 := k7t_at (a0 := tupI K) (a1 := .box n) (a2 := a2) (a3 := a3) (a4 := a4) (hp := hp) (ps := ps) (Nat.le_trans R.le (by decide))
  have al : (ps.all fun q => decide (-10 ^ 30 < q.2 ∧ q.2 < 10 ^ 30)) = true := List.all_eq_true.mpr fun q hq => by
    have k := (R.kp q hq).2
    unfold KB at k
    exact decide_eq_true k
  rw [al] at t7
  have mk : mMkS "Table" F_Table___init__ (mv 5) ⟨eS (tupI K) (.box n) a2 a3 a4 (some (.lst (rm ps))) none, hp⟩ = .ok (.box hp.length) ⟨eS (tupI K) (.box n) a2 a3 a4 (some (.lst (rm ps))) none, hp ++ mkCells hp.length ps⟩ := by
    show mkM "Table" F_Table___init__ (rm ps) ⟨_, hp⟩ = _
    exact mk_at R
  have e8 : k8S ⟨eS (tupI K) (.box n) a2 a3 a4 (some (.lst (rm ps))) none, hp⟩ = .ok (.rt (.tup [.box hp.length, v])) ⟨eS (tupI K) (.box n) a2 a3 a4 (some (.lst (rm ps))) none, hp ++ mkCells hp.length ps⟩ := by
    refine ret_of ?_
    unfold mTup
    rw [mcons_of mk (mone (fnE (F := F_visited_rows) (mcons_of (a := mv 5) (mv_of rfl) (mcons_of (a := mv 2) (mv_of rfl) (mcons_of (a := mv 3) (mv_of rfl) (mone (a := mv 4) (mv_of rfl))))) h8))]
    rfl
  refine body_rt (s' := ⟨eS (tupI K) (.box n) a2 a3 a4 (some (.lst (rm ps))) none, hp ++ mkCells hp.length ps⟩) ?_
  rw [st_eq]
  exact (seq_nx (k1_ok h0)).trans ((seq_nx (k2_ok hf)).trans ((seq_nx (k3_ok h2)).trans ((seq_nx (k4_ok h3)).trans ((seq_nx (k5_ok hl)).trans ((seq_nx (k6_ok h6)).trans ((seq_nx ((if_of (k := false) t7).trans rfl)).trans e8))))))
end
end Lw
namespace Lw
open L2 Ma PySem.Spec PySem PyProof.Rows
/-! AA -/
inductive Way where
  | up | down | far | near
  deriving DecidableEq
def WI : Option Int → Option Int → Int → Prop
  | none, none, _ => True
  | some l, none, x => l ≤ x
  | none, some h, x => x ≤ h
  | some l, some h, x => l ≤ x ∧ x ≤ h
/-! Y1 -/
instance {lo hi : Option Int} {x : Int} : Decidable (WI lo hi x) := by cases lo <;> cases hi <;> (unfold WI; infer_instance)
def wS : Way → Str
  | .up => "up"
  | .down => "down"
  | .far => "far"
  | .near => "near"
def oM : Option Int → M
  | none => .non
  | some i => .int i
def T15 (t : Int) : Prop := -1000000000000000 < t ∧ t < 1000000000000000
section
variable {hp : List Cell} {n : Nat} {t q x y f : Int} {w : Way} {lo hi : Option Int} {env : List (Option M)} {s s1 : MS}
theorem andv_d {a b : ME} {p r : Prop} [Decidable p] [Decidable r] (h1 : a s = .ok (.bl (decide p)) s) (h2 : b s = .ok (.bl (decide r)) s) : mAndV a b s = .ok (.bl (decide (p ∧ r))) s := by
  by_cases hp' : p
  · rw [decide_eq_true hp'] at h1
    rw [(andv_t h1).trans h2]
    by_cases hr : r
    · rw [decide_eq_true hr, decide_eq_true ⟨hp', hr⟩]
    · rw [decide_eq_false hr, decide_eq_false (fun z => hr z.2)]
  · rw [decide_eq_false hp'] at h1
    rw [andv_f h1, decide_eq_false (fun z => hp' z.1)]
theorem orv_t' {a b : ME} (h1 : a s = .ok (.bl true) s) : mOrV a b s = .ok (.bl true) s := by unfold mOrV; rw [h1]; rfl
theorem orv_f' {a b : ME} (h1 : a s = .ok (.bl false) s) : mOrV a b s = b s := by unfold mOrV; rw [h1]; rfl
theorem bl_iff {p r : Prop} [Decidable p] [Decidable r] (h : p ↔ r) : M.bl (decide p) = M.bl (decide r) := by rw [decide_eq_decide.mpr h]
theorem within_at : F_is_within [.int x, oM lo, oM hi] hp = .ok (.bl (decide (WI lo hi x))) hp := by
  refine (show F_is_within [.int x, oM lo, oM hi] hp = bodyF 3 3 m_is_within [.int x, oM lo, oM hi] hp from rfl).trans (body_rt (s' := ⟨[some (.int x), some (oM lo), some (oM hi)], hp⟩) (ret_of ?_))
  have a : mOrV (m2 (oIsN false) (mv 1) (mc .non)) (m2 oLe (mv 1) (mv 0)) ⟨[some (.int x), some (oM lo), some (oM hi)], hp⟩ = .ok (.bl (decide (WI lo none x))) ⟨[some (.int x), some (oM lo), some (oM hi)], hp⟩ := by
    cases lo with
    | none => exact orv_t' rfl
    | some l => exact (orv_f' rfl).trans rfl
  have b : mOrV (m2 (oIsN false) (mv 2) (mc .non)) (m2 oLe (mv 0) (mv 2)) ⟨[some (.int x), some (oM lo), some (oM hi)], hp⟩ = .ok (.bl (decide (WI none hi x))) ⟨[some (.int x), some (oM lo), some (oM hi)], hp⟩ := by
    cases hi with
    | none => exact orv_t' rfl
    | some l => exact (orv_f' rfl).trans rfl
  refine (andv_d a b).trans ?_
  rw [bl_iff (p := WI lo none x ∧ WI none hi x) (r := WI lo hi x) (by cases lo <;> cases hi <;> simp [WI])]
theorem newk_at (hf : hp[n]? = some (fr t q)) (ht : T15 t) : F_new_key [.box n, .int x] hp = .ok (.int (t * x + q)) hp := by
  have mo : mulOk t x = true := decide_eq_true (Or.inl ⟨by have := ht.1; omega, by have := ht.2; omega⟩)
  exact (show F_new_key [.box n, .int x] hp = bodyF 2 2 m_new_key [.box n, .int x] hp from rfl).trans (body_rt (s' := ⟨[some (.box n), some (.int x)], hp⟩)
    (ret_of (m2_of (m2_of ((Ma.at_of (mv_of rfl)).trans (prp_t hf)) (mv_of rfl) (if_pos mo)) ((Ma.at_of (mv_of rfl)).trans (prp_p hf)) rfl)))
end
/-! Y2 -/
section
variable {hp : List Cell} {n e : Nat} {t q x y f : Int} {w : Way} {lo hi : Option Int} {env : List (Option M)} {s s1 : MS} {o5 : Option M}
def SmO (lo : Option Int) : Prop := ∀ l, lo = some l → T15 l
theorem bdB_ok {z : Option Int} (h : SmO z) {a b : Option M} : bdB ⟨[a, b, some (oM z)], hp⟩ = .ok .nx ⟨[a, b, some (oM z)], hp⟩ := by
  cases z with
  | none => kernel_rfl
  | some i =>
    have e1 := small_int (i := i) (hp := hp)
    have k := h i rfl
    unfold T15 at k
    rw [decide_eq_true (by rw [z15]; exact k)] at e1
    exact (if_of (k := false) ((and_tt (b_of (m2_of (x := .int i) (y := .non) (mv_of rfl) rfl rfl))).trans (not_of (b := true) (b_of (fnE (F := F_is_small) (mone (a := mv 2) (mv_of rfl)) e1))))).trans rfl
theorem bnd_ok (h1 : SmO lo) (h2 : SmO hi) : F_check_bounds [oM lo, oM hi] hp = .ok .non hp :=
  (show F_check_bounds [oM lo, oM hi] hp = bodyF 2 3 m_check_bounds [oM lo, oM hi] hp from rfl).trans (body_nx (s' := ⟨[some (oM lo), some (oM hi), some (oM hi)], hp⟩) (for_of (xs := [oM lo, oM hi]) (s1 := ⟨[some (oM lo), some (oM hi), none], hp⟩) rfl
    ((for_nx1 (tg := gSet 2) (b := bdB) (s1 := ⟨[some (oM lo), some (oM hi), some (oM lo)], hp⟩) rfl (bdB_ok h1)).trans ((for_nx1 (tg := gSet 2) (b := bdB) (s1 := ⟨[some (oM lo), some (oM hi), some (oM hi)], hp⟩) rfl (bdB_ok h2)).trans rfl))))
theorem scan_ok : F_check_scan [.str (wS w)] hp = .ok .non hp := by cases w <;> kernel_rfl
end
/-! Y3 -/
def bo0 : MStm := (sSet 2 (mIf (mB (m2 (oEqK true (oEqD true)) (m2 (oIxD oIx) (mv 1) (mc (.int 0))) (mc (.int 1)))) (m2 oFdv (m2 (oIxD oIx) (mv 1) (mc (.int 1))) (m2 oSub (mc (.int 1)) (m2 (oIxD oIx) (mv 1) (mc (.int 0))))) (mc (.int 0))))
def bo1 : MStm := (sSet 2 (mCall (mCons (mNeg (m2 oPow (mc (.int 10)) (mc (.int 14)))) (mCons (mCall (mCons (m2 oPow (mc (.int 10)) (mc (.int 14))) (mCons (mv 2) mNil)) cMin) mNil)) cMax))
def bo2 : MStm := (sPar2 4 5 (mCons (m2 oSub (m2 oAdd (mv 2) (mFn (mCons (mv 0) (mCons (mc (.int 9)) mNil)) F__law_draw)) (mc (.int 4))) (mCons (m2 oSub (m2 oAdd (mv 2) (mFn (mCons (mv 0) (mCons (mc (.int 25)) mNil)) F__law_draw)) (mc (.int 12))) mNil)))
def bo3 : MStm := (sPar2 6 7 (mCons (mCall (mCons (mv 4) (mCons (mv 5) mNil)) cMin) (mCons (mCall (mCons (mv 4) (mCons (mv 5) mNil)) cMax) mNil)))
def bo4 : MStm := (sSet 3 (mLstB (mCons (mTup (mCons (mc .non) (mCons (mc .non) mNil))) (mCons (mTup (mCons (mv 6) (mCons (mc .non) mNil))) (mCons (mTup (mCons (mc .non) (mCons (mv 7) mNil))) (mCons (mTup (mCons (mv 6) (mCons (mv 7) mNil))) (mCons (mTup (mCons (mv 6) (mCons (mv 6) mNil))) (mCons (mTup (mCons (m2 oAdd (mv 7) (mc (.int 1))) (mCons (m2 oSub (mv 6) (mc (.int 1))) mNil))) mNil))))))))
def bo5 : MStm := (sExpr (mAppend (mv 3) (mTup (mCons (mv 4) (mCons (m2 oSub (m2 (oIxD oIx) (mv 1) (mc (.int 1))) (mv 4)) mNil)))))
def bo6 : MStm := (sAsg (mFn (mCons (mv 0) (mCons (mv 3) mNil)) F__law_pick) (gUnpN [8, 9]))
def bo7 : MStm := (sRet (mIf (mOr (mB (m2 (oIsN false) (mv 9) (mc .non))) (mB (m2 oLt (mCall (mCons (mv 9) mNil) cAbs) (m2 oPow (mc (.int 10)) (mc (.int 15)))))) (mTup (mCons (mv 8) (mCons (mv 9) mNil))) (mTup (mCons (mv 8) (mCons (mc .non) mNil)))))
theorem bom_eq : m__law_bounds = (sSeq bo0 (sSeq bo1 (sSeq bo2 (sSeq bo3 (sSeq bo4 (sSeq bo5 (sSeq bo6 bo7))))))) := rfl
/-! Y4 -/
section
variable {hp hp1 B : List Cell} {n L k j : Nat} {a b i t q p t' p' x : Int} {m v : M} {env : List (Option M)} {s : MS} {c c0 : Cell}
theorem pickB_at {ms : List M} (h : hp[n]? = some c0) (P : IsPen c0) (hL : hp[L]? = some (.lst ms)) (hne : n ≠ L) (h0 : 0 < ms.length) (h1 : (ms.length : Int) < 1073741824) :
    ∃ m c', m ∈ ms ∧ F__law_pick [.box n, .box L] hp = .ok m (hp.set n c') ∧ IsPen c' := by
  obtain ⟨d, c', e, d0, d1, p'⟩ := draw_at h P (m := (ms.length : Int)) (by omega) (by omega)
  have hd : d.toNat < ms.length := by omega
  have hL2 : (hp.set n c')[L]? = some (.lst ms) := by rw [List.getElem?_set_ne hne]; exact hL
  refine ⟨ms[d.toNat], c', List.getElem_mem hd, ?_, p'⟩
  have l1 : mCall (mCons (mv 1) mNil) (cLenD cLen) ⟨[some (.box n), some (.box L)], hp⟩ = .ok (.int ms.length) ⟨[some (.box n), some (.box L)], hp⟩ := by
    refine call_of (mone (mv_of rfl)) ?_
    simp [cLenD, dictOf, hL, cLen, seqL, lstOf]
  have f := fnE (F := F__law_draw) (env := [some (.box n), some (.box L)]) (mcons_of (a := mv 0) (mv_of rfl) (mone l1)) e
  refine (show F__law_pick [.box n, .box L] hp = bodyF 2 2 m__law_pick [.box n, .box L] hp from rfl).trans (body_rt (s' := ⟨[some (.box n), some (.box L)], hp.set n c'⟩) (ret_of (m2_of (mv_of rfl) f ?_)))
  have h3 : d < ms.length := d1
  simp [oIxD, dictOf, hL2, oIx, seqL, lstOf, atI, ixN, d0, h3, hd]
abbrev optM (z : Option Int × Option Int) : M := .tup [oM z.1, oM z.2]
abbrev b0T : MT := (mB (m2 (oEqK true (oEqD true)) (m2 (oIxD oIx) (mv 1) (mc (.int 0))) (mc (.int 1))))
abbrev b1E : ME := (mCall (mCons (mNeg (m2 oPow (mc (.int 10)) (mc (.int 14)))) (mCons (mCall (mCons (m2 oPow (mc (.int 10)) (mc (.int 14))) (mCons (mv 2) mNil)) cMin) mNil)) cMax)
abbrev b5E : ME := (mTup (mCons (mv 4) (mCons (m2 oSub (m2 (oIxD oIx) (mv 1) (mc (.int 1))) (mv 4)) mNil)))
abbrev b7E : ME := (mIf (mOr (mB (m2 (oIsN false) (mv 9) (mc .non))) (mB (m2 oLt (mCall (mCons (mv 9) mNil) cAbs) (m2 oPow (mc (.int 10)) (mc (.int 15)))))) (mTup (mCons (mv 8) (mCons (mv 9) mNil))) (mTup (mCons (mv 8) (mCons (mc .non) mNil))))
abbrev eB (n : Nat) (t q : Int) (o2 o3 o4 o5 o6 o7 o8 o9 : Option M) : List (Option M) := [some (.box n), some (.tup [.int t, .int q]), o2, o3, o4, o5, o6, o7, o8, o9]
theorem b0_at (ht : T15 t) : ∃ m0 : Int, bo0 ⟨eB n t q none none none none none none none none, hp⟩ = .ok .nx ⟨eB n t q (some (.int m0)) none none none none none none none, hp⟩ := by
  have g : b0T ⟨eB n t q none none none none none none none none, hp⟩ = .ok (!(t == 1)) ⟨eB n t q none none none none none none none none, hp⟩ := by rfl
  by_cases h : t = 1
  · rw [show (t == 1) = true from beq_iff_eq.mpr h] at g
    exact ⟨0, set_of (s1 := ⟨eB n t q none none none none none none none none, hp⟩) ((Lw.mif_of (q := false) g).trans rfl)⟩
  · rw [show (t == 1) = false from beq_eq_false_iff_ne.mpr h] at g
    refine ⟨q.fdiv (1 - t), set_of (s1 := ⟨eB n t q none none none none none none none none, hp⟩) ((Lw.mif_of (q := true) g).trans ?_)⟩
    rw [if_pos rfl]
    unfold T15 at ht
    exact m2_of (x := .int q) (y := .int (1 - t)) rfl rfl (if_pos (decide_eq_true ⟨by omega, by omega⟩))
theorem b1_at {m0 : Int} : ∃ m1 : Int, bo1 ⟨eB n t q (some (.int m0)) none none none none none none none, hp⟩ = .ok .nx ⟨eB n t q (some (.int m1)) none none none none none none none, hp⟩ ∧ -100000000000000 ≤ m1 ∧ m1 ≤ 100000000000000 := by
  have e : b1E ⟨eB n t q (some (.int m0)) none none none none none none none, hp⟩ = .ok (.int (if (if m0 < 100000000000000 then m0 else 100000000000000) > -100000000000000 then (if m0 < 100000000000000 then m0 else 100000000000000) else -100000000000000)) ⟨eB n t q (some (.int m0)) none none none none none none none, hp⟩ := by rfl
  exact ⟨_, set_of (s1 := ⟨eB n t q (some (.int m0)) none none none none none none none, hp⟩) e, by split <;> omega, by (repeat' split) <;> omega⟩
theorem draw2 {e : ME} {d0 : Int} (o : Option M) {m1 dm : Int} (hc : hp[n]? = some c) (P : IsPen c) (h0 : 0 < dm) (h2 : dm < 18446744073709551616) {o3 o4 o5 o6 o7 o8 o9 : Option M} {cc : Int} :
    ∃ d c', m2 oSub (m2 oAdd (mv 2) (mFn (mCons (mv 0) (mCons (mc (.int dm)) mNil)) F__law_draw)) (mc (.int cc)) ⟨eB n t q (some (.int m1)) o3 o4 o5 o6 o7 o8 o9, hp⟩ = .ok (.int (m1 + d - cc)) ⟨eB n t q (some (.int m1)) o3 o4 o5 o6 o7 o8 o9, hp.set n c'⟩ ∧ 0 ≤ d ∧ d < dm ∧ IsPen c' := by
  obtain ⟨d, c', e, d0, d1, P'⟩ := draw_at (m := dm) hc P h0 h2
  exact ⟨d, c', m2_of (m2_of (mv_of rfl) (fnE (F := F__law_draw) (mcons_of (a := mv 0) (mv_of rfl) (mone (a := mc (.int dm)) rfl)) e) rfl) (b := mc (.int cc)) (y := .int cc) rfl rfl, d0, d1, P'⟩
theorem bounds_at (hc : hp[n]? = some c) (P : IsPen c) (ht : T15 t) (hq : T15 q) : ∃ lo hi c' ex, F__law_bounds [.box n, .tup [.int t, .int q]] hp = .ok (.tup [oM lo, oM hi]) (hp.set n c' ++ ex) ∧ IsPen c' ∧ SmO lo ∧ SmO hi := by
  have hn := lt_of hc
  obtain ⟨m0, s0⟩ := b0_at (n := n) (q := q) (hp := hp) ht
  obtain ⟨m1, s1, ml, mu⟩ := b1_at (n := n) (t := t) (q := q) (hp := hp) (m0 := m0)
  obtain ⟨d, c1, e1, d0, d1, P1⟩ := draw2 (t := t) (q := q) (e := mv 0) (d0 := 0) none (m1 := m1) (dm := 9) (cc := 4) hc P (by decide) (by decide) (o3 := none) (o4 := none) (o5 := none) (o6 := none) (o7 := none) (o8 := none) (o9 := none)
  have hc1 : (hp.set n c1)[n]? = some c1 := List.getElem?_set_self hn
  obtain ⟨d', c2, e2, d0', d1', P2⟩ := draw2 (t := t) (q := q) (e := mv 0) (d0 := 0) none (m1 := m1) (dm := 25) (cc := 12) hc1 P1 (by decide) (by decide) (o3 := none) (o4 := none) (o5 := none) (o6 := none) (o7 := none) (o8 := none) (o9 := none)
  rw [List.set_set] at e2
  generalize hy : m1 + d - 4 = y at e1
  generalize hz : m1 + d' - 12 = z at e2
  have s2 : bo2 ⟨eB n t q (some (.int m1)) none none none none none none none, hp⟩ = .ok .nx ⟨eB n t q (some (.int m1)) none (some (.int y)) (some (.int z)) none none none none, hp.set n c2⟩ := par2_of (s1 := ⟨eB n t q (some (.int m1)) none none none none none none none, hp.set n c2⟩) (mcons_of e1 (mone e2))
  generalize hsm : (if z < y then z else y) = sm
  generalize hgr : (if z > y then z else y) = gr
  have s3 : bo3 ⟨eB n t q (some (.int m1)) none (some (.int y)) (some (.int z)) none none none none, hp.set n c2⟩ = .ok .nx ⟨eB n t q (some (.int m1)) none (some (.int y)) (some (.int z)) (some (.int sm)) (some (.int gr)) none none, hp.set n c2⟩ := by
    rw [← hsm, ← hgr]
    rfl
  have hlen : (hp.set n c2).length = hp.length := List.length_set
  have s4 : bo4 ⟨eB n t q (some (.int m1)) none (some (.int y)) (some (.int z)) (some (.int sm)) (some (.int gr)) none none, hp.set n c2⟩ = .ok .nx ⟨eB n t q (some (.int m1)) (some (.box (hp.set n c2).length)) (some (.int y)) (some (.int z)) (some (.int sm)) (some (.int gr)) none none, hp.set n c2 ++ [.lst ([(none, none), (some sm, none), (none, some gr), (some sm, some gr), (some sm, some sm), (some (gr + 1), some (sm - 1))].map optM)]⟩ := by rfl
  rw [hlen] at s4
  generalize hA : hp.set n c2 ++ [Cell.lst ([(none, none), (some sm, none), (none, some gr), (some sm, some gr), (some sm, some sm), (some (gr + 1), some (sm - 1))].map optM)] = A at s4
  have gA : A[hp.length]? = some (.lst ([(none, none), (some sm, none), (none, some gr), (some sm, some gr), (some sm, some sm), (some (gr + 1), some (sm - 1))].map optM)) := by
    rw [← hA, ← hlen]
    exact List.getElem?_concat_length
  have nA : A[n]? = some c2 := by
    rw [← hA, List.getElem?_append_left (by rw [hlen]; exact hn)]
    exact List.getElem?_set_self hn
  have s5 : bo5 ⟨eB n t q (some (.int m1)) (some (.box hp.length)) (some (.int y)) (some (.int z)) (some (.int sm)) (some (.int gr)) none none, A⟩ = .ok .nx ⟨eB n t q (some (.int m1)) (some (.box hp.length)) (some (.int y)) (some (.int z)) (some (.int sm)) (some (.int gr)) none none, A.set hp.length (.lst ([(none, none), (some sm, none), (none, some gr), (some sm, some gr), (some sm, some sm), (some (gr + 1), some (sm - 1)), (some y, some (q - y))].map optM))⟩ := by
    have v : b5E ⟨eB n t q (some (.int m1)) (some (.box hp.length)) (some (.int y)) (some (.int z)) (some (.int sm)) (some (.int gr)) none none, A⟩ = .ok (optM (some y, some (q - y))) ⟨eB n t q (some (.int m1)) (some (.box hp.length)) (some (.int y)) (some (.int z)) (some (.int sm)) (some (.int gr)) none none, A⟩ := by rfl
    show sExpr (mAppend (mv 3) b5E) _ = _
    simp [sExpr, mAppend, mMeth, mv, isBoxL, gA, mone v, Res.bind, fAppend, big]
  generalize hC : A.set hp.length (.lst ([(none, none), (some sm, none), (none, some gr), (some sm, some gr), (some sm, some sm), (some (gr + 1), some (sm - 1)), (some y, some (q - y))].map optM)) = D at s5
  have gD : D[hp.length]? = some (.lst ([(none, none), (some sm, none), (none, some gr), (some sm, some gr), (some sm, some sm), (some (gr + 1), some (sm - 1)), (some y, some (q - y))].map optM)) := by
    rw [← hC]
    exact List.getElem?_set_self (lt_of gA)
  have nD : D[n]? = some c2 := by
    rw [← hC, List.getElem?_set_ne (by omega)]
    exact nA
  obtain ⟨mm, c3, hmm, e6, P3⟩ := pickB_at nD P2 gD (by omega) (by simp) (by simp)
  obtain ⟨⟨lo, hi⟩, hmem, rfl⟩ := List.mem_map.mp hmm
  have s6 : bo6 ⟨eB n t q (some (.int m1)) (some (.box hp.length)) (some (.int y)) (some (.int z)) (some (.int sm)) (some (.int gr)) none none, D⟩ = .ok .nx ⟨eB n t q (some (.int m1)) (some (.box hp.length)) (some (.int y)) (some (.int z)) (some (.int sm)) (some (.int gr)) (some (oM lo)) (some (oM hi)), D.set n c3⟩ := by
    have f := fnE (F := F__law_pick) (env := eB n t q (some (.int m1)) (some (.box hp.length)) (some (.int y)) (some (.int z)) (some (.int sm)) (some (.int gr)) none none) (mcons_of (a := mv 0) (mv_of rfl) (mone (a := mv 3) (mv_of rfl))) e6
    show (mFn (mCons (mv 0) (mCons (mv 3) mNil)) F__law_pick _).bind _ = _
    rw [f]
    rfl
  have bnd : (∀ l, lo = some l → -200000000000000 < l ∧ l < 200000000000000) := by
    simp only [List.mem_cons, List.not_mem_nil, or_false, Prod.mk.injEq] at hmem
    intro l hl
    have h1 : sm = y ∨ sm = z := by rw [← hsm]; split <;> simp
    have h2 : gr = y ∨ gr = z := by rw [← hgr]; split <;> simp
    rcases hmem with h | h | h | h | h | h | h <;> (rw [hl] at h; simp at h) <;> omega
  have Dx : ∃ ex, D.set n c3 = hp.set n c3 ++ ex := by
    refine ⟨[.lst ([(none, none), (some sm, none), (none, some gr), (some sm, some gr), (some sm, some sm), (some (gr + 1), some (sm - 1)), (some y, some (q - y))].map optM)], ?_⟩
    rw [← hC, ← hA, List.set_append_right _ _ (by rw [hlen]; exact Nat.le_refl _), hlen, Nat.sub_self, List.set_append_left _ _ (by rw [hlen]; exact hn), List.set_set]
    rfl
  obtain ⟨ex, hex⟩ := Dx
  have g7 : ∃ hi', b7E ⟨eB n t q (some (.int m1)) (some (.box hp.length)) (some (.int y)) (some (.int z)) (some (.int sm)) (some (.int gr)) (some (oM lo)) (some (oM hi)), D.set n c3⟩ = .ok (.tup [oM lo, oM hi']) ⟨eB n t q (some (.int m1)) (some (.box hp.length)) (some (.int y)) (some (.int z)) (some (.int sm)) (some (.int gr)) (some (oM lo)) (some (oM hi)), D.set n c3⟩ ∧ SmO hi' := by
    cases hi with
    | none => exact ⟨none, (Lw.mif_of (q := true) (or_t' rfl)).trans rfl, fun l h => by cases h⟩
    | some u =>
      have g : mOr (mB (m2 (oIsN false) (mv 9) (mc .non))) (mB (m2 oLt (mCall (mCons (mv 9) mNil) cAbs) (m2 oPow (mc (.int 10)) (mc (.int 15))))) ⟨eB n t q (some (.int m1)) (some (.box hp.length)) (some (.int y)) (some (.int z)) (some (.int sm)) (some (.int gr)) (some (oM lo)) (some (oM (some u))), D.set n c3⟩ = .ok (decide (absI u < 1000000000000000)) ⟨eB n t q (some (.int m1)) (some (.box hp.length)) (some (.int y)) (some (.int z)) (some (.int sm)) (some (.int gr)) (some (oM lo)) (some (oM (some u))), D.set n c3⟩ := (or_f rfl).trans (by kernel_rfl)
      by_cases h : absI u < 1000000000000000
      · rw [decide_eq_true h] at g
        refine ⟨some u, (Lw.mif_of g).trans rfl, fun l hl => ?_⟩
        cases hl
        unfold absI at h
        unfold T15
        split at h <;> omega
      · rw [decide_eq_false h] at g
        exact ⟨none, (Lw.mif_of g).trans rfl, fun l hl => by cases hl⟩
  obtain ⟨hi', e7, sh⟩ := g7
  refine ⟨lo, hi', c3, ex, ?_, P3, fun l hl => by have := bnd l hl; unfold T15; omega, sh⟩
  rw [← hex]
  refine (show F__law_bounds [.box n, .tup [.int t, .int q]] hp = bodyF 2 10 m__law_bounds [.box n, .tup [.int t, .int q]] hp from rfl).trans (body_rt (s' := ⟨eB n t q (some (.int m1)) (some (.box hp.length)) (some (.int y)) (some (.int z)) (some (.int sm)) (some (.int gr)) (some (oM lo)) (some (oM hi)), D.set n c3⟩) ?_)
  rw [bom_eq]
  exact (seq_nx s0).trans ((seq_nx s1).trans ((seq_nx s2).trans ((seq_nx s3).trans ((seq_nx s4).trans ((seq_nx s5).trans ((seq_nx s6).trans (ret_of e7)))))))
end
/-! BB -/
def mvI (t q k : Int) : Int := t * k + q - k
/-- the row a is visited before the row b -/
def Bf (t q : Int) : Way → Int → Int → Prop
  | .up, a, b => a < b
  | .down, a, b => b < a
  | .near, a, b => (mvI t q a).natAbs < (mvI t q b).natAbs ∨ ((mvI t q a).natAbs = (mvI t q b).natAbs ∧ a < b)
  | .far, a, b => (mvI t q b).natAbs < (mvI t q a).natAbs ∨ ((mvI t q a).natAbs = (mvI t q b).natAbs ∧ a < b)
theorem Bf.asymm {t q a b : Int} {w : Way} (h : Bf t q w a b) : ¬Bf t q w b a := by
  cases w <;> simp only [Bf] at * <;> omega
/-! C0 -/
abbrev Pl := Int → Option Int
def pv : Option Int → M
  | some i => .int i
  | none => .non
abbrev plM (ks : List Int) (P : Pl) : List (L2.Key × M) := ks.map fun k => (.inl k, pv (P k))
theorem plM_val {ks : List Int} {P : Pl} {k : Int} (h : k ∈ ks) : valG (plM ks P) (.inl k) = some (pv (P k)) := by
  unfold valG
  have : (plM ks P).find? (fun kv => decide (kv.1 = (.inl k : L2.Key))) = some (.inl k, pv (P k)) := by
    induction ks with
    | nil => simp at h
    | cons a ks ih =>
      by_cases e : a = k
      · subst e
        rw [plM, List.map_cons, List.find?_cons_of_pos (by simp)]
      · have hk : k ∈ ks := by
          rcases List.mem_cons.mp h with z | z
          · exact absurd z.symm e
          · exact z
        rw [plM, List.map_cons, List.find?_cons_of_neg (by simp; exact e)]
        exact ih hk
  rw [this]
  rfl
section
variable {w D : Nat} {T W ps : List IP} {hp B : List Cell} {p o ks : List Int} {r k : Int} {o5 o6 o7 : Option M} {P : Pl} {neg : Bool} {env : List (Option M)}
theorem ixp (hd : dictOf hp (.box D) = some (plM ks P)) (hk : k ∈ ks) : oIxD oIx (.box D) (.int k) ⟨env, hp⟩ = .ok (pv (P k)) ⟨env, hp⟩ := by
  unfold oIxD
  rw [show dictOf (MS.hp ⟨env, hp⟩) (.box D) = some (plM ks P) from hd]
  show (match valG (plM ks P) (.inl k) with | some m => Res.ok m _ | none => Res.stuck) = _
  rw [plM_val hk]
end
abbrev PN (P : Int → Int) : Pl := fun k => some (P k)
/-! E1 -/
theorem Bf.trans {t q a b c : Int} {w : Way} (h : Bf t q w a b) (h2 : Bf t q w b c) : Bf t q w a c := by
  cases w <;> simp only [Bf] at * <;> omega
theorem Bf.total {t q a b : Int} (w : Way) (h : a ≠ b) : Bf t q w a b ∨ Bf t q w b a := by
  cases w <;> simp only [Bf] at * <;> omega
instance {t q a b : Int} {w : Way} : Decidable (Bf t q w a b) := by cases w <;> (unfold Bf; infer_instance)
theorem ex_ord (t q : Int) (w : Way) {I : List Int} (nd : I.Nodup) : ∃ J : List Int, J.Perm I ∧ J.Pairwise (Bf t q w) := by
  refine ⟨I.mergeSort fun a b => decide (a = b ∨ Bf t q w a b), List.mergeSort_perm _ _, ?_⟩
  have h := List.pairwise_mergeSort (le := fun a b => decide (a = b ∨ Bf t q w a b)) (fun a b c h1 h2 => by
    have h1 := of_decide_eq_true h1
    have h2 := of_decide_eq_true h2
    refine decide_eq_true ?_
    rcases h1 with rfl | h1
    · exact h2
    · rcases h2 with rfl | h2
      · exact .inr h1
      · exact .inr (h1.trans h2)) (fun a b => by
    by_cases e : a = b
    · rw [decide_eq_true (.inl e)]; rfl
    · rcases Bf.total (t := t) (q := q) w e with z | z
      · rw [decide_eq_true (.inr z)]; rfl
      · rw [Bool.or_eq_true]; exact .inr (decide_eq_true (.inr z))) I
  have n2 : (I.mergeSort fun a b => decide (a = b ∨ Bf t q w a b)).Nodup := (List.mergeSort_perm _ _).nodup_iff.mpr nd
  exact (h.and n2).imp fun {a b} z => (of_decide_eq_true z.1).resolve_left z.2
section
variable {t q k : Int} {w : Way} {lo hi : Option Int} {hp : List Cell} {I J K : List Int} {env : List (Option M)}
abbrev mA (t q k : Int) : Int := ((mvI t q k).natAbs : Int)
theorem absI_mv : (if t * k + q - k < 0 then -(t * k + q - k) else t * k + q - k) = mA t q k := by
  unfold mA mvI
  split <;> omega
def od0 : MStm := (sSet 3 (mCall (mCons (mLc [5] (iSeq (mv 0)) (gSet 5) mYes (mTup (mCons (mv 5) (mCons (mCall (mCons (m2 oSub (m2 oAdd (m2 oMul (m2 (oIxD oIx) (mv 1) (mc (.int 0))) (mv 5)) (m2 (oIxD oIx) (mv 1) (mc (.int 1)))) (mv 5)) mNil) cAbs) mNil)))) mNil) cDict))
abbrev odU : MT := mB (m2 (oEqK false (oEqD false)) (mv 2) (mc (.str "up")))
abbrev odT : MT := (mOr (mB (m2 (oEqK false (oEqD false)) (mv 2) (mc (.str "up")))) (mB (m2 (oEqK false (oEqD false)) (mv 2) (mc (.str "down")))))
abbrev odS : ME := (mIf (mB (m2 (oEqK false (oEqD false)) (mv 2) (mc (.str "up")))) (mCall (mCons (mv 0) mNil) cSortD) (mRevL (mCall (mCons (mv 0) mNil) cSortD)))
def od1 : MStm := (sIf odT (sRet odS) sNx)
abbrev odR : ME := (mCall (mCons (mLc [5] (iSeq (mv 0)) (gSet 5) mYes (mTup (mCons (m2 (oIxD oIx) (mv 3) (mv 5)) (mCons (mv 5) mNil)))) mNil) cSortD)
def od2 : MStm := (sSet 4 odR)
abbrev odN : ME := (mLc [6, 5] (iSeq (mv 4)) (gTupN [6, 5]) mYes (mv 5))
def od3 : MStm := (sIf (mB (m2 (oEqK false (oEqD false)) (mv 2) (mc (.str "near")))) (sRet odN) sNx)
abbrev odF : ME := (mCall (mCons (mLc [6, 5] (iSeq (mv 4)) (gTupN [6, 5]) mYes (mTup (mCons (m2 oSub (mc (.int 0)) (mv 6)) (mCons (mv 5) mNil)))) mNil) cSortD)
def od4 : MStm := (sRet (mLc [6, 5] (iSeq odF) (gTupN [6, 5]) mYes (mv 5)))
theorem od_eq : m__law_ordered = sSeq od0 (sSeq od1 (sSeq od2 (sSeq od3 od4))) := rfl
abbrev eO (I : List Int) (t q : Int) (w : Way) (o3 o4 : Option M) : List (Option M) := [some (.lst (I.map M.int)), some (.tup [.int t, .int q]), some (.str (wS w)), o3, o4, none, none]
theorem nk_at (ht : T15 t) {s : MS} {ke pe : ME} (hk : ke s = .ok (.int k) s) (hpr : pe s = .ok (.tup [.int t, .int q]) s) : m2 oAdd (m2 oMul (m2 (oIxD oIx) pe (mc (.int 0))) ke) (m2 (oIxD oIx) pe (mc (.int 1))) s = .ok (.int (t * k + q)) s := by
  have mo : mulOk t k = true := decide_eq_true (Or.inl ⟨by have := ht.1; omega, by have := ht.2; omega⟩)
  exact m2_of (m2_of (x := .int t) (m2_of hpr (b := mc (.int 0)) (y := .int 0) rfl rfl) hk (if_pos mo)) (y := .int q) (m2_of hpr (b := mc (.int 1)) (y := .int 1) rfl rfl) rfl
theorem dict_rws (ks : List Int) (v : Int → Int) (nd : ks.Nodup) {s : MS} : cDict [.lst (rm (ks.map fun k => (k, v k)))] s = .ok (.box s.hp.length) ⟨s.env, s.hp ++ [.dK (plM ks (PN v))]⟩ := by
  have kk : keysP (ks.map fun k => (k, v k)) = ks := by
    unfold keysP
    rw [List.map_map]
    conv => rhs; rw [← List.map_id ks]
    rfl
  unfold cDict
  dsimp only
  rw [show seqL s.hp (.lst (rm (ks.map fun k => (k, v k)))) = some (rm (ks.map fun k => (k, v k))) from rfl]
  dsimp only
  rw [pairsM_rm]
  dsimp only
  rw [show mergeM [] (dm (ks.map fun k => (k, v k))) = dm (ks.map fun k => (k, v k)) from mergeM_dm (ps := []) (show (keysP ([] ++ ks.map fun k => (k, v k))).Nodup by rw [List.nil_append, kk]; exact nd)]
  rw [show dm (ks.map fun k => (k, v k)) = plM ks (PN v) by unfold dm plM; rw [List.map_map]; rfl]
theorem filt_true {α β : Type} (l : List α) (f : α → β) : (l.filter fun _ => true).map f = l.map f := by
  rw [List.filter_eq_self.mpr (fun _ _ => rfl)]
theorem od0_at (ht : T15 t) (hl : I.length ≤ 40) (nd : I.Nodup) : od0 ⟨eO I t q w none none, hp⟩ = .ok .nx ⟨eO I t q w (some (.box hp.length)) none, hp ++ [.dK (plM I (PN (mA t q)))]⟩ := by
  have z := mlc_if (vs := [5]) (it := iSeq (mv 0)) (tg := gSet 5) (tt := mYes) (el := mTup (mCons (mv 5) (mCons (mCall (mCons (m2 oSub (m2 oAdd (m2 oMul (m2 (oIxD oIx) (mv 1) (mc (.int 0))) (mv 5)) (m2 (oIxD oIx) (mv 1) (mc (.int 1)))) (mv 5)) mNil) cAbs) mNil))) (em := M.int) (f := fun k => pM (k, mA t q k)) (p := fun _ => true) (xs := I) (s := ⟨eO I t q w none none, hp⟩) (s1 := ⟨eO I t q w none none, hp⟩) rfl (Nat.le_trans hl (by decide)) fun k _ =>
    ⟨⟨[some (.lst (I.map M.int)), some (.tup [.int t, .int q]), some (.str (wS w)), none, none, some (.int k), none], hp⟩, [some (.lst (I.map M.int)), some (.tup [.int t, .int q]), some (.str (wS w)), none, none, some (.int k), none], rfl, rfl, fun _ => ⟨_, mtup2 (mv_of rfl) (by
      refine call_of (mone (m2_of (nk_at (q := q) ht (mv_of rfl) (mv_of rfl)) (mv_of rfl) rfl)) ?_
      show Res.ok (M.int (if t * k + q - k < 0 then -(t * k + q - k) else t * k + q - k)) _ = _
      rw [absI_mv])⟩⟩
  rw [filt_true, show I.map (fun k => pM (k, mA t q k)) = rm (I.map fun k => (k, mA t q k)) by unfold rm; rw [List.map_map]; rfl] at z
  exact set_of (s1 := ⟨eO I t q w none none, hp ++ [.dK (plM I (PN (mA t q)))]⟩) (call_of (mone z) (dict_rws I (mA t q) nd))
theorem pw_lt_le {J : List Int} (h : J.Pairwise (· < ·)) : J.Pairwise (· ≤ ·) := h.imp fun z => Int.le_of_lt z
theorem lex2 {a b c d : Int} (h : a < c ∨ (a = c ∧ b < d)) : List.Lex (· < ·) [a, b] [c, d] := by
  rcases h with h | ⟨rfl, h⟩
  · exact .rel h
  · exact .cons (.rel h)
theorem od2_at (hD : hp[k.toNat]? = some (.dK (plM I (PN (mA t q))))) (hl : I.length ≤ 40) (hJ : J.Perm I) (pw : J.Pairwise (Bf t q .near)) {o4 : Option M} :
    od2 ⟨eO I t q w (some (.box k.toNat)) o4, hp⟩ = .ok .nx ⟨eO I t q w (some (.box k.toNat)) (some (.lst (J.map fun k => tupI [mA t q k, k]))), hp⟩ := by
  have z := mlc_if (vs := [5]) (it := iSeq (mv 0)) (tg := gSet 5) (tt := mYes) (el := mTup (mCons (m2 (oIxD oIx) (mv 3) (mv 5)) (mCons (mv 5) mNil))) (em := M.int) (f := fun k => tupI [mA t q k, k]) (p := fun _ => true) (xs := I) (s := ⟨eO I t q w (some (.box k.toNat)) o4, hp⟩) (s1 := ⟨eO I t q w (some (.box k.toNat)) o4, hp⟩) rfl (Nat.le_trans hl (by decide)) fun j hj =>
    ⟨⟨[some (.lst (I.map M.int)), some (.tup [.int t, .int q]), some (.str (wS w)), some (.box k.toNat), o4, some (.int j), none], hp⟩, [some (.lst (I.map M.int)), some (.tup [.int t, .int q]), some (.str (wS w)), some (.box k.toNat), o4, some (.int j), none], rfl, rfl, fun _ => ⟨_, mtup2 (x := .int (mA t q j)) (m2_of (mv_of rfl) (mv_of rfl) (ixp (dictOf_w hD) hj)) (mv_of rfl)⟩⟩
  rw [filt_true] at z
  have s := sortD_tups (L1 := I.map fun k => [mA t q k, k]) (L2 := J.map fun k => [mA t q k, k]) (hJ.symm.map _) (List.pairwise_map.mpr (pw.imp fun {a b} h => lex2 (by simp only [Bf] at h; unfold mA; omega))) (fun l hl => by
    obtain ⟨a, _, rfl⟩ := List.mem_map.mp hl
    simp) (s := ⟨eO I t q w (some (.box k.toNat)) o4, hp⟩)
  rw [List.map_map, List.map_map] at s
  exact set_of (s1 := ⟨eO I t q w (some (.box k.toNat)) o4, hp⟩) (call_of (mone z) s)
theorem odN_at (hl : J.length ≤ 40) {o3 : Option M} : odN ⟨eO I t q w o3 (some (.lst (J.map fun k => tupI [mA t q k, k]))), hp⟩ = .ok (.lst (J.map M.int)) ⟨eO I t q w o3 (some (.lst (J.map fun k => tupI [mA t q k, k]))), hp⟩ := by
  have z := mlc_if (vs := [6, 5]) (it := iSeq (mv 4)) (tg := gTupN [6, 5]) (tt := mYes) (el := mv 5) (em := fun k => tupI [mA t q k, k]) (f := M.int) (p := fun _ => true) (xs := J) (s := ⟨eO I t q w o3 (some (.lst (J.map fun k => tupI [mA t q k, k]))), hp⟩) (s1 := ⟨eO I t q w o3 (some (.lst (J.map fun k => tupI [mA t q k, k]))), hp⟩) rfl (Nat.le_trans hl (by decide)) fun j _ =>
    ⟨⟨[some (.lst (I.map M.int)), some (.tup [.int t, .int q]), some (.str (wS w)), o3, some (.lst (J.map fun k => tupI [mA t q k, k])), some (.int j), some (.int (mA t q j))], hp⟩, [some (.lst (I.map M.int)), some (.tup [.int t, .int q]), some (.str (wS w)), o3, some (.lst (J.map fun k => tupI [mA t q k, k])), some (.int j), some (.int (mA t q j))], rfl, rfl, fun _ => ⟨_, mv_of rfl⟩⟩
  rw [filt_true] at z
  exact z
theorem odF_at {J0 : List Int} (hl : J0.length ≤ 40) (hJ : J.Perm J0) (pw : J.Pairwise (Bf t q .far)) {o3 : Option M} :
    odF ⟨eO I t q w o3 (some (.lst (J0.map fun k => tupI [mA t q k, k]))), hp⟩ = .ok (.lst (J.map fun k => tupI [0 - mA t q k, k])) ⟨eO I t q w o3 (some (.lst (J0.map fun k => tupI [mA t q k, k]))), hp⟩ := by
  have z := mlc_if (vs := [6, 5]) (it := iSeq (mv 4)) (tg := gTupN [6, 5]) (tt := mYes) (el := mTup (mCons (m2 oSub (mc (.int 0)) (mv 6)) (mCons (mv 5) mNil))) (em := fun k => tupI [mA t q k, k]) (f := fun k => tupI [0 - mA t q k, k]) (p := fun _ => true) (xs := J0) (s := ⟨eO I t q w o3 (some (.lst (J0.map fun k => tupI [mA t q k, k]))), hp⟩) (s1 := ⟨eO I t q w o3 (some (.lst (J0.map fun k => tupI [mA t q k, k]))), hp⟩) rfl (Nat.le_trans hl (by decide)) fun j _ =>
    ⟨⟨[some (.lst (I.map M.int)), some (.tup [.int t, .int q]), some (.str (wS w)), o3, some (.lst (J0.map fun k => tupI [mA t q k, k])), some (.int j), some (.int (mA t q j))], hp⟩, [some (.lst (I.map M.int)), some (.tup [.int t, .int q]), some (.str (wS w)), o3, some (.lst (J0.map fun k => tupI [mA t q k, k])), some (.int j), some (.int (mA t q j))], rfl, rfl, fun _ => ⟨_, mtup2 (m2_of (x := .int 0) rfl (mv_of rfl) rfl) (mv_of rfl)⟩⟩
  rw [filt_true] at z
  have s := sortD_tups (L1 := J0.map fun k => [0 - mA t q k, k]) (L2 := J.map fun k => [0 - mA t q k, k]) (hJ.symm.map _) (List.pairwise_map.mpr (pw.imp fun {a b} h => lex2 (by simp only [Bf] at h; unfold mA; omega))) (fun l hl => by
    obtain ⟨a, _, rfl⟩ := List.mem_map.mp hl
    simp) (s := ⟨eO I t q w o3 (some (.lst (J0.map fun k => tupI [mA t q k, k]))), hp⟩)
  rw [List.map_map, List.map_map] at s
  exact call_of (mone z) s
theorem iseq_of {a : ME} {s s1 : MS} {xs : List M} (h : a s = .ok (.lst xs) s1) : iSeq a s = .ok xs s1 := by
  unfold iSeq; rw [h]; rfl
theorem od4_at (hl : J.length ≤ 40) {o3 o4 : Option M} (h : odF ⟨eO I t q w o3 o4, hp⟩ = .ok (.lst (J.map fun k => tupI [0 - mA t q k, k])) ⟨eO I t q w o3 o4, hp⟩) : od4 ⟨eO I t q w o3 o4, hp⟩ = .ok (.rt (.lst (J.map M.int))) ⟨eO I t q w o3 o4, hp⟩ := by
  have z := mlc_if (vs := [6, 5]) (it := iSeq odF) (tg := gTupN [6, 5]) (tt := mYes) (el := mv 5) (em := fun k => tupI [0 - mA t q k, k]) (f := M.int) (p := fun _ => true) (xs := J) (s := ⟨eO I t q w o3 o4, hp⟩) (s1 := ⟨eO I t q w o3 o4, hp⟩) ((iseq_of h).trans rfl) (Nat.le_trans hl (by decide)) fun j _ =>
    ⟨⟨[some (.lst (I.map M.int)), some (.tup [.int t, .int q]), some (.str (wS w)), o3, o4, some (.int j), some (.int (0 - mA t q j))], hp⟩, [some (.lst (I.map M.int)), some (.tup [.int t, .int q]), some (.str (wS w)), o3, o4, some (.int j), some (.int (0 - mA t q j))], rfl, rfl, fun _ => ⟨_, mv_of rfl⟩⟩
  rw [filt_true] at z
  exact ret_of z
theorem ordered_at (ht : T15 t) (hl : I.length ≤ 40) (nd : I.Nodup) : ∃ (J : List Int) (hp' : List Cell), F__law_ordered [.lst (I.map M.int), .tup [.int t, .int q], .str (wS w)] hp = .ok (.lst (J.map M.int)) hp' ∧ Ext hp hp' ∧ J.Perm I ∧ J.Pairwise (Bf t q w) := by
  obtain ⟨J, hJ, pw⟩ := ex_ord t q w nd
  refine ⟨J, hp ++ [.dK (plM I (PN (mA t q)))], ?_, Ext.app _ _, hJ, pw⟩
  obtain ⟨N, hN, pn⟩ := ex_ord t q .near nd
  have s0 := od0_at (q := q) (w := w) (hp := hp) ht hl nd
  have lJ : J.length ≤ 40 := by rw [hJ.length_eq]; exact hl
  have lN : N.length ≤ 40 := by rw [hN.length_eq]; exact hl
  have hD : (hp ++ [Cell.dK (plM I (PN (mA t q)))])[((hp.length : Nat) : Int).toNat]? = some (.dK (plM I (PN (mA t q)))) := by simp
  have s2 := od2_at (w := w) (o4 := none) hD hl hN pn
  rw [Int.toNat_natCast] at s2
  refine (show F__law_ordered [.lst (I.map M.int), .tup [.int t, .int q], .str (wS w)] hp = bodyF 3 7 m__law_ordered [.lst (I.map M.int), .tup [.int t, .int q], .str (wS w)] hp from rfl).trans ?_
  generalize hp ++ [Cell.dK (plM I (PN (mA t q)))] = A at s0 s2
  cases w with
  | up =>
    refine body_rt (s' := ⟨eO I t q .up (some (.box hp.length)) none, A⟩) ?_
    rw [od_eq]
    have g : odU ⟨eO I t q .up (some (.box hp.length)) none, A⟩ = .ok true ⟨eO I t q .up (some (.box hp.length)) none, A⟩ := by kernel_rfl
    have r : od1 ⟨eO I t q .up (some (.box hp.length)) none, A⟩ = .ok (.rt (.lst (J.map M.int))) ⟨eO I t q .up (some (.box hp.length)) none, A⟩ := (if_of (k := true) (or_t g)).trans ((if_pos rfl).trans (ret_of ((Lw.mif_of (q := true) g).trans ((if_pos rfl).trans (call_of (mone (mv_of rfl)) (sortD_ints hJ.symm (pw_lt_le pw)))))))
    exact (seq_nx s0).trans (seq_rt r)
  | down =>
    refine body_rt (s' := ⟨eO I t q .down (some (.box hp.length)) none, A⟩) ?_
    rw [od_eq]
    have p2 : J.reverse.Pairwise (· < ·) := List.pairwise_reverse.mpr pw
    have e : mRevL (mCall (mCons (mv 0) mNil) cSortD) ⟨eO I t q .down (some (.box hp.length)) none, A⟩ = .ok (.lst (J.map M.int)) ⟨eO I t q .down (some (.box hp.length)) none, A⟩ := by
      unfold mRevL
      rw [call_of (mone (mv_of rfl)) (sortD_ints (hJ.symm.trans J.reverse_perm.symm) (pw_lt_le p2))]
      show Res.ok (M.lst ((J.reverse.map M.int).reverse)) _ = _
      rw [List.map_reverse, List.reverse_reverse]
    have g : odU ⟨eO I t q .down (some (.box hp.length)) none, A⟩ = .ok false ⟨eO I t q .down (some (.box hp.length)) none, A⟩ := by kernel_rfl
    have g2 : odT ⟨eO I t q .down (some (.box hp.length)) none, A⟩ = .ok true ⟨eO I t q .down (some (.box hp.length)) none, A⟩ := (or_f g).trans (by kernel_rfl)
    have r : od1 ⟨eO I t q .down (some (.box hp.length)) none, A⟩ = .ok (.rt (.lst (J.map M.int))) ⟨eO I t q .down (some (.box hp.length)) none, A⟩ := (if_of (k := true) g2).trans ((if_pos rfl).trans (ret_of ((Lw.mif_of (q := false) g).trans e)))
    exact (seq_nx s0).trans (seq_rt r)
  | near =>
    refine body_rt (s' := ⟨eO I t q .near (some (.box hp.length)) (some (.lst (N.map fun k => tupI [mA t q k, k]))), A⟩) ?_
    rw [od_eq]
    have e : N = J := List.Perm.eq_of_pairwise (le := Bf t q .near) (fun a b _ _ h1 h2 => absurd h2 h1.asymm) pn pw (hN.trans hJ.symm)
    have r1 : od1 ⟨eO I t q .near (some (.box hp.length)) none, A⟩ = .ok .nx ⟨eO I t q .near (some (.box hp.length)) none, A⟩ := by kernel_rfl
    have g : mB (m2 (oEqK false (oEqD false)) (mv 2) (mc (.str "near"))) ⟨eO I t q .near (some (.box hp.length)) (some (.lst (N.map fun k => tupI [mA t q k, k]))), A⟩ = .ok true ⟨eO I t q .near (some (.box hp.length)) (some (.lst (N.map fun k => tupI [mA t q k, k]))), A⟩ := by kernel_rfl
    have r3 : od3 ⟨eO I t q .near (some (.box hp.length)) (some (.lst (N.map fun k => tupI [mA t q k, k]))), A⟩ = .ok (.rt (.lst (N.map M.int))) ⟨eO I t q .near (some (.box hp.length)) (some (.lst (N.map fun k => tupI [mA t q k, k]))), A⟩ := (if_of (k := true) g).trans ((if_pos rfl).trans (ret_of (odN_at lN)))
    rw [e] at r3 s2
    rw [e]
    exact (seq_nx s0).trans ((seq_nx r1).trans ((seq_nx s2).trans (seq_rt r3)))
  | far =>
    refine body_rt (s' := ⟨eO I t q .far (some (.box hp.length)) (some (.lst (N.map fun k => tupI [mA t q k, k]))), A⟩) ?_
    rw [od_eq]
    have r1 : od1 ⟨eO I t q .far (some (.box hp.length)) none, A⟩ = .ok .nx ⟨eO I t q .far (some (.box hp.length)) none, A⟩ := by kernel_rfl
    have r3 : od3 ⟨eO I t q .far (some (.box hp.length)) (some (.lst (N.map fun k => tupI [mA t q k, k]))), A⟩ = .ok .nx ⟨eO I t q .far (some (.box hp.length)) (some (.lst (N.map fun k => tupI [mA t q k, k]))), A⟩ := by kernel_rfl
    exact (seq_nx s0).trans ((seq_nx r1).trans ((seq_nx s2).trans ((seq_nx r3).trans (od4_at lJ (odF_at lN (hJ.trans hN.symm) pw)))))
end
/-! E2 -/
section
variable {t q k x : Int} {w : Way} {lo hi : Option Int} {hp B : List Cell} {I J K ks o : List Int} {env : List (Option M)} {v : Int → Int} {W D : Nat}
theorem inside_at : F__law_inside [.int x, oM lo, oM hi] hp = .ok (.bl (decide (WI lo hi x))) hp := by
  refine (show F__law_inside [.int x, oM lo, oM hi] hp = bodyF 3 3 m__law_inside [.int x, oM lo, oM hi] hp from rfl).trans (body_rt (s' := ⟨[some (.int x), some (oM lo), some (oM hi)], hp⟩) (ret_of ?_))
  have a : mOrV (m2 (oIsN false) (mv 1) (mc .non)) (m2 oGe (mv 0) (mv 1)) ⟨[some (.int x), some (oM lo), some (oM hi)], hp⟩ = .ok (.bl (decide (WI lo none x))) ⟨[some (.int x), some (oM lo), some (oM hi)], hp⟩ := by
    cases lo with
    | none => exact orv_t' rfl
    | some l => exact (orv_f' rfl).trans rfl
  have b : mOrV (m2 (oIsN false) (mv 2) (mc .non)) (m2 oLe (mv 0) (mv 2)) ⟨[some (.int x), some (oM lo), some (oM hi)], hp⟩ = .ok (.bl (decide (WI none hi x))) ⟨[some (.int x), some (oM lo), some (oM hi)], hp⟩ := by
    cases hi with
    | none => exact orv_t' rfl
    | some l => exact (orv_f' rfl).trans rfl
  refine (andv_d a b).trans ?_
  rw [bl_iff (p := WI lo none x ∧ WI none hi x) (r := WI lo hi x) (by cases lo <;> cases hi <;> simp [WI])]
abbrev plI : MT := (mB (mFn (mCons (mv 8) (mCons (mv 3) (mCons (mv 4) mNil))) F__law_inside))
def pl0 : MStm := (sSet 5 (mLc [8] (iSeq (mv 0)) (gSet 8) plI (mv 8)))
def pl1 : MStm := (sSet 6 (mCall (mCons (mLc [8] (iSeq (mv 0)) (gSet 8) (mNot plI) (mv 8)) mNil) (cSortT cSortD)))
def pl2 : MStm := (sSet 7 (m2 oAdd (mLc [8] (iSeq (mv 5)) (gSet 8) mYes (mTup (mCons (mv 8) (mCons (m2 oAdd (m2 oMul (m2 (oIxD oIx) (mv 1) (mc (.int 0))) (mv 8)) (m2 (oIxD oIx) (mv 1) (mc (.int 1)))) mNil)))) (mLc [8] (iSeq (mv 6)) (gSet 8) mYes (mTup (mCons (mv 8) (mCons (mv 8) mNil))))))
def pl3 : MStm := (sRet (mTup (mCons (mv 7) (mCons (mCall (mCons (m2 oAdd (mFn (mCons (mv 5) (mCons (mv 1) (mCons (mv 2) mNil))) F__law_ordered) (mv 6)) mNil) cTup) mNil))))
theorem pl_eq : m__law_planned = sSeq pl0 (sSeq pl1 (sSeq pl2 pl3)) := rfl
abbrev inS (lo hi : Option Int) (K : List Int) : List Int := K.filter fun k => decide (WI lo hi k)
abbrev ouS (lo hi : Option Int) (K : List Int) : List Int := (K.filter fun k => !decide (WI lo hi k)).mergeSort (fun a b => decide (a ≤ b))
def vP (t q : Int) (lo hi : Option Int) (k : Int) : Int := if WI lo hi k then t * k + q else k
theorem ou_perm (K : List Int) : (ouS lo hi K).Perm (K.filter fun k => !decide (WI lo hi k)) := List.mergeSort_perm _ _
theorem ou_pw (K : List Int) : (ouS lo hi K).Pairwise (· ≤ ·) :=
  (List.pairwise_mergeSort (le := fun a b : Int => decide (a ≤ b)) (fun a b c h1 h2 => decide_eq_true (by have := of_decide_eq_true h1; have := of_decide_eq_true h2; omega)) (fun a b => by simp; omega) _).imp fun {a b} h => of_decide_eq_true h
theorem io_perm (K : List Int) : (inS lo hi K ++ ouS lo hi K).Perm K := ((ou_perm (lo := lo) (hi := hi) K).append_left _).trans (List.filter_append_perm _ K)
theorem sortT_ints {l m : List Int} (hp : l.Perm m) (hs : m.Pairwise (· ≤ ·)) {s : MS} : cSortT cSortD [.lst (l.map M.int)] s = .ok (.lst (m.map M.int)) s := sortD_ints hp hs
theorem rm_map (f : Int → Int) (l : List Int) : l.map (fun k => pM (k, f k)) = rm (l.map fun k => (k, f k)) := by unfold rm; rw [List.map_map]; rfl
theorem rows_vP : ((inS lo hi K).map fun k => (k, t * k + q)) ++ ((ouS lo hi K).map fun k => (k, k)) = (inS lo hi K ++ ouS lo hi K).map fun k => (k, vP t q lo hi k) := by
  rw [List.map_append]
  congr 1
  · refine List.map_congr_left fun k hk => ?_
    have := of_decide_eq_true (List.mem_filter.mp hk).2
    unfold vP
    rw [if_pos this]
  · refine List.map_congr_left fun k hk => ?_
    have := (List.mem_filter.mp ((ou_perm K).mem_iff.mp hk)).2
    simp at this
    unfold vP
    rw [if_neg this]
end
end Lw
namespace Lw
open L2 Ma PySem.Spec PySem PyProof.Rows
/-! RC -/
theorem rows_at {n d : Nat} {T : List IP} {hp : List Cell} (t : TabAt hp n d T) (hl : T.length ≤ 40) : F_Table_rows [.box n] hp = .ok (.tup (rm T)) hp := by
  refine body_rt (s' := ⟨[some (.box n)], hp⟩) (ret_of ?_)
  show mItems _ ⟨[some (.box n)], hp⟩ = _
  unfold mItems
  have e : mFld ["Table"] [] "_new_keys" (mv 0) ⟨[some (.box n)], hp⟩ = .ok (.box d) ⟨[some (.box n)], hp⟩ := by
    unfold mFld
    exact fld_at (s := ⟨[some (.box n)], hp⟩) t
  rw [e]
  show oItems (.box d) ⟨[some (.box n)], hp⟩ = _
  unfold oItems
  rw [show dictL (MS.hp ⟨[some (.box n)], hp⟩) (.box d) = some (dm T) from dictL_at' t]
  dsimp only
  rw [if_pos (by rw [List.length_map]; exact Nat.le_trans hl (by decide))]
  have e2 : itemsM (dm T) = rm T := by
    unfold itemsM dm rm
    rw [List.map_map]
    rfl
  rw [e2]
theorem self_rows {n d : Nat} {T : List IP} {s : MS} {env : List (Option M)} {i : Nat} (hs : s.env[i]? = some (some (.box n))) (t : TabAt s.hp n d T) (hl : T.length ≤ 40) : mAt (mv i) (oPrp "Table" F_Table_rows (fun _ _ => .stuck)) s = .ok (.tup (rm T)) s := by
  refine (at_of (mv_of hs)).trans ?_
  unfold oPrp
  rw [if_pos (isIns_at t), rows_at t hl]
  rfl
/-! G0 -/
theorem same_str {x y : M} {z : Str} {hp : List Cell} (h1 : ∀ env, cReprS cRepr [x] ⟨env, hp⟩ = .ok (.str z) ⟨env, hp⟩) (h2 : ∀ env, cReprS cRepr [y] ⟨env, hp⟩ = .ok (.str z) ⟨env, hp⟩) (lz : lowS z) : F__law_same [x, y] hp = .ok (.bl true) hp := by
  refine body_rt (s' := ⟨[some x, some y], hp⟩) (ret_of (m2_of (x := .str z) (y := .str z) (s1 := ⟨[some x, some y], hp⟩) (s2 := ⟨[some x, some y], hp⟩) (call_of (mone rfl) (h1 _)) (call_of (mone rfl) (h2 _)) ?_))
  show oEqD false (.str z) (.str z) _ = _
  rw [oEqD_str lz lz]
  simp
theorem same_okd {x y : M} {d : PyData} {k w : Nat} {hp : List Cell} (hx : datT hp x = some d) (hy : datT hp y = some d) (hs : isSeqD d = true) (h : Okd d k w) (hk : k ≤ 64) (hw : w ≤ 200000) : F__law_same [x, y] hp = .ok (.bl true) hp :=
  same_str (fun env => (reprS_seq (s := ⟨env, hp⟩) hx hs).trans (cRepr_seq hx hs h hk hw)) (fun env => (reprS_seq (s := ⟨env, hp⟩) hy hs).trans (cRepr_seq hy hs h hk hw)) h.low
end Lw
namespace Lw
open L2 Ma PySem.Spec PySem PyProof.Rows
/-! rows and order of a statement, by the law and by the program -/
section
variable {t q k x : Int} {w : Way} {lo hi : Option Int} {hp B : List Cell} {I J K L ks o : List Int} {env : List (Option M)} {v : Int → Int} {n : Nat}
abbrev eP (K : List Int) (t q : Int) (w : Way) (lo hi : Option Int) (o5 o6 o7 o8 : Option M) : List (Option M) := [some (tupI K), some (.tup [.int t, .int q]), some (.str (wS w)), some (oM lo), some (oM hi), o5, o6, o7, o8]
theorem planned_at (ht : T15 t) (hl : K.length ≤ 40) (nd : K.Nodup) : ∃ (J : List Int) (hp' : List Cell), F__law_planned [tupI K, .tup [.int t, .int q], .str (wS w), oM lo, oM hi] hp = .ok (.tup [.lst (rm ((inS lo hi K ++ ouS lo hi K).map fun k => (k, vP t q lo hi k))), tupI (J ++ ouS lo hi K)]) hp' ∧ Ext hp hp' ∧ J.Perm (inS lo hi K) ∧ J.Pairwise (Bf t q w) := by
  have il : (inS lo hi K).length ≤ 40 := Nat.le_trans (List.length_filter_le _ _) hl
  have ol : (ouS lo hi K).length ≤ 40 := by rw [(ou_perm K).length_eq]; exact Nat.le_trans (List.length_filter_le _ _) hl
  obtain ⟨J, hp', e, x, hJ, pw⟩ := ordered_at (t := t) (q := q) (w := w) (hp := hp) ht il (nd.filter _)
  have z0 := mlc_if (vs := [8]) (it := iSeq (mv 0)) (tg := gSet 8) (tt := plI) (el := mv 8) (em := M.int) (f := M.int) (p := fun k => decide (WI lo hi k)) (xs := K) (s := ⟨eP K t q w lo hi none none none none, hp⟩) (s1 := ⟨eP K t q w lo hi none none none none, hp⟩) rfl (Nat.le_trans hl (by decide)) fun k _ =>
    ⟨⟨eP K t q w lo hi none none none (some (.int k)), hp⟩, eP K t q w lo hi none none none (some (.int k)), rfl, b_of (fnE (F := F__law_inside) (mcons_of (mv_of rfl) (mcons_of (mv_of rfl) (mone (mv_of rfl)))) inside_at), fun _ => ⟨_, mv_of rfl⟩⟩
  have s0 : pl0 ⟨eP K t q w lo hi none none none none, hp⟩ = .ok .nx ⟨eP K t q w lo hi (some (.lst ((inS lo hi K).map M.int))) none none none, hp⟩ := set_of (s1 := ⟨eP K t q w lo hi none none none none, hp⟩) z0
  generalize hI : inS lo hi K = I at *
  have z1 := mlc_if (vs := [8]) (it := iSeq (mv 0)) (tg := gSet 8) (tt := mNot plI) (el := mv 8) (em := M.int) (f := M.int) (p := fun k => !decide (WI lo hi k)) (xs := K) (s := ⟨eP K t q w lo hi (some (.lst (I.map M.int))) none none none, hp⟩) (s1 := ⟨eP K t q w lo hi (some (.lst (I.map M.int))) none none none, hp⟩) rfl (Nat.le_trans hl (by decide)) fun k _ =>
    ⟨⟨eP K t q w lo hi (some (.lst (I.map M.int))) none none (some (.int k)), hp⟩, eP K t q w lo hi (some (.lst (I.map M.int))) none none (some (.int k)), rfl, not_of (b_of (fnE (F := F__law_inside) (mcons_of (mv_of rfl) (mcons_of (mv_of rfl) (mone (mv_of rfl)))) inside_at)), fun _ => ⟨_, mv_of rfl⟩⟩
  have s1 : pl1 ⟨eP K t q w lo hi (some (.lst (I.map M.int))) none none none, hp⟩ = .ok .nx ⟨eP K t q w lo hi (some (.lst (I.map M.int))) (some (.lst ((ouS lo hi K).map M.int))) none none, hp⟩ :=
    set_of (s1 := ⟨eP K t q w lo hi (some (.lst (I.map M.int))) none none none, hp⟩) (call_of (mone z1) (sortT_ints (ou_perm K).symm (ou_pw K)))
  have hrow := rows_vP (t := t) (q := q) (lo := lo) (hi := hi) (K := K)
  rw [hI] at hrow
  generalize hO : ouS lo hi K = O at *
  have z2 := mlc_if (vs := [8]) (it := iSeq (mv 5)) (tg := gSet 8) (tt := mYes) (el := mTup (mCons (mv 8) (mCons (m2 oAdd (m2 oMul (m2 (oIxD oIx) (mv 1) (mc (.int 0))) (mv 8)) (m2 (oIxD oIx) (mv 1) (mc (.int 1)))) mNil))) (em := M.int) (f := fun k => pM (k, t * k + q)) (p := fun _ => true) (xs := I) (s := ⟨eP K t q w lo hi (some (.lst (I.map M.int))) (some (.lst (O.map M.int))) none none, hp⟩) (s1 := ⟨eP K t q w lo hi (some (.lst (I.map M.int))) (some (.lst (O.map M.int))) none none, hp⟩) rfl (Nat.le_trans il (by decide)) fun k _ =>
    ⟨⟨eP K t q w lo hi (some (.lst (I.map M.int))) (some (.lst (O.map M.int))) none (some (.int k)), hp⟩, eP K t q w lo hi (some (.lst (I.map M.int))) (some (.lst (O.map M.int))) none (some (.int k)), rfl, rfl, fun _ => ⟨_, mtup2 (mv_of rfl) (nk_at ht (mv_of rfl) (mv_of rfl))⟩⟩
  have z3 := mlc_if (vs := [8]) (it := iSeq (mv 6)) (tg := gSet 8) (tt := mYes) (el := mTup (mCons (mv 8) (mCons (mv 8) mNil))) (em := M.int) (f := fun k => pM (k, id k)) (p := fun _ => true) (xs := O) (s := ⟨eP K t q w lo hi (some (.lst (I.map M.int))) (some (.lst (O.map M.int))) none none, hp⟩) (s1 := ⟨eP K t q w lo hi (some (.lst (I.map M.int))) (some (.lst (O.map M.int))) none none, hp⟩) rfl (Nat.le_trans ol (by decide)) fun k _ =>
    ⟨⟨eP K t q w lo hi (some (.lst (I.map M.int))) (some (.lst (O.map M.int))) none (some (.int k)), hp⟩, eP K t q w lo hi (some (.lst (I.map M.int))) (some (.lst (O.map M.int))) none (some (.int k)), rfl, rfl, fun _ => ⟨_, mtup2 (mv_of rfl) (mv_of rfl)⟩⟩
  rw [filt_true, rm_map fun k => t * k + q] at z2
  rw [filt_true, rm_map id] at z3
  have s2 : pl2 ⟨eP K t q w lo hi (some (.lst (I.map M.int))) (some (.lst (O.map M.int))) none none, hp⟩ = .ok .nx ⟨eP K t q w lo hi (some (.lst (I.map M.int))) (some (.lst (O.map M.int))) (some (.lst (rm ((I ++ O).map fun k => (k, vP t q lo hi k))))) none, hp⟩ := by
    refine set_of (s1 := ⟨eP K t q w lo hi (some (.lst (I.map M.int))) (some (.lst (O.map M.int))) none none, hp⟩) ((m2_of z2 z3 (oAdd_lst ?_)).trans ?_)
    · simp [rm]
      have : (80 : Nat) ≤ big := by decide
      omega
    · rw [← hrow]
      unfold rm
      rw [List.map_append]
      rfl
  have f := fnE (F := F__law_ordered) (env := eP K t q w lo hi (some (.lst (I.map M.int))) (some (.lst (O.map M.int))) (some (.lst (rm ((I ++ O).map fun k => (k, vP t q lo hi k))))) none) (ma := mCons (mv 5) (mCons (mv 1) (mCons (mv 2) mNil))) (mcons_of (mv_of rfl) (mcons_of (mv_of rfl) (mone (mv_of rfl)))) e
  have jl : J.length ≤ 40 := by rw [hJ.length_eq]; exact il
  have a := m2_of (o := oAdd) f (b := mv 6) (y := .lst (O.map M.int)) (mv_of rfl) (oAdd_lst (by
    simp
    have : (80 : Nat) ≤ big := by decide
    omega))
  rw [← List.map_append] at a
  refine ⟨J, hp', ?_, x, hJ, pw⟩
  refine (show F__law_planned [tupI K, .tup [.int t, .int q], .str (wS w), oM lo, oM hi] hp = bodyF 5 9 m__law_planned [tupI K, .tup [.int t, .int q], .str (wS w), oM lo, oM hi] hp from rfl).trans (body_rt (s' := ⟨eP K t q w lo hi (some (.lst (I.map M.int))) (some (.lst (O.map M.int))) (some (.lst (rm ((I ++ O).map fun k => (k, vP t q lo hi k))))) none, hp'⟩) ?_)
  rw [pl_eq]
  exact (seq_nx s0).trans ((seq_nx s1).trans ((seq_nx s2).trans (ret_of (mtup2 (mv_of rfl) (call_of (o := cTup) (mone a) rfl)))))
theorem two_nodup {l : List Int} {a b : Int} (nd : l.Nodup) (h1 : [a, b].Sublist l) (h2 : [b, a].Sublist l) : a = b := by
  induction l with
  | nil => cases h1
  | cons x l ih =>
    have nd' := List.nodup_cons.mp nd
    cases h1 with
    | cons _ h1 =>
      cases h2 with
      | cons _ h2 => exact ih nd'.2 h1 h2
      | cons_cons _ h2 => exact absurd (h1.subset (by simp)) nd'.1
    | cons_cons _ h1 =>
      cases h2 with
      | cons _ h2 => exact absurd (h2.subset (by simp)) nd'.1
      | cons_cons _ h2 => rfl
theorem stab {le : Int → Int → Bool} (tr : ∀ a b c, le a b = true → le b c = true → le a c = true) (to : ∀ a b, (le a b || le b a) = true) (h : L.Pairwise (· < ·)) : (L.mergeSort le).Pairwise fun a b => le a b = true ∧ (le b a = true → a < b) := by
  have p := List.pairwise_mergeSort tr to L
  have nd : (L.mergeSort le).Nodup := (List.mergeSort_perm _ _).nodup_iff.mpr (h.imp fun z => by omega)
  refine List.pairwise_iff_forall_sublist.mpr fun {a b} s => ⟨List.pairwise_iff_forall_sublist.mp p s, fun g => ?_⟩
  have ab : a ≠ b := List.pairwise_iff_forall_sublist.mp nd s
  have ma : a ∈ L := (List.mergeSort_perm L le).mem_iff.mp (s.subset (by simp))
  have mb : b ∈ L := (List.mergeSort_perm L le).mem_iff.mp (s.subset (by simp))
  apply Classical.byContradiction
  intro z
  have ba : [b, a].Sublist L := by
    obtain ⟨l1, l2, e⟩ := List.append_of_mem mb
    subst e
    rcases List.mem_append.mp ma with m | m
    · have := (List.pairwise_append.mp h).2.2 a m b (by simp)
      omega
    · rcases List.mem_cons.mp m with m | m
      · exact absurd m ab
      · refine (List.Sublist.cons_cons b (List.singleton_sublist.mpr m)).trans (List.sublist_append_right _ _)
  have s2 := List.pair_sublist_mergeSort tr to g ba
  exact absurd (two_nodup nd s s2) ab
theorem changed2_at (hf : hp[n]? = some (fr t q)) (ht : T15 t) (hs : K.Perm L) (hm : L.Pairwise (· ≤ ·)) (hl : L.length ≤ 1000) :
    F_changed_rows [tupI K, .box n, oM lo, oM hi] hp = .ok (.lst (rm (L.map fun k => (k, vP t q lo hi k)))) hp := by
  have it : iSeq (mCall (mCons (mv 0) mNil) (cSortT cSortD)) ⟨[some (tupI K), some (.box n), some (oM lo), some (oM hi), none], hp⟩ = .ok (L.map M.int) ⟨[some (tupI K), some (.box n), some (oM lo), some (oM hi), none], hp⟩ := by
    unfold iSeq
    rw [call_of (mone (mv_of (m := tupI K) rfl)) ((show cSortT cSortD [tupI K] _ = cSortD [.lst (K.map M.int)] _ from rfl).trans (sortD_ints hs hm))]
    rfl
  have c1 := mlc_if (vs := [4]) (tg := gSet 4) (tt := mYes) (el := mTup (mCons (mv 4) (mCons (mIf (mB (mFn (mCons (mv 4) (mCons (mv 2) (mCons (mv 3) mNil))) F_is_within)) (mFn (mCons (mv 1) (mCons (mv 4) mNil)) F_new_key) (mv 4)) mNil))) (em := M.int) (f := fun x => pM (x, vP t q lo hi x)) (p := fun _ => true) (xs := L) it (Nat.le_trans hl (by decide)) fun x hx =>
    ⟨⟨[some (tupI K), some (.box n), some (oM lo), some (oM hi), some (.int x)], hp⟩, [some (tupI K), some (.box n), some (oM lo), some (oM hi), some (.int x)], rfl, rfl, fun _ => ⟨[some (tupI K), some (.box n), some (oM lo), some (oM hi), some (.int x)], by
      have t1 := b_of (fnE (F := F_is_within) (env := [some (tupI K), some (.box n), some (oM lo), some (oM hi), some (.int x)]) (mcons_of (a := mv 4) (mv_of rfl) (mcons_of (a := mv 2) (mv_of rfl) (mone (a := mv 3) (mv_of rfl)))) (within_at (x := x) (hp := hp)))
      have v : mIf (mB (mFn (mCons (mv 4) (mCons (mv 2) (mCons (mv 3) mNil))) F_is_within)) (mFn (mCons (mv 1) (mCons (mv 4) mNil)) F_new_key) (mv 4) ⟨[some (tupI K), some (.box n), some (oM lo), some (oM hi), some (.int x)], hp⟩ = .ok (.int (vP t q lo hi x)) ⟨[some (tupI K), some (.box n), some (oM lo), some (oM hi), some (.int x)], hp⟩ := by
        refine (Lw.mif_of t1).trans ?_
        unfold vP
        by_cases h : WI lo hi x
        · rw [decide_eq_true h, if_pos rfl, if_pos h]
          exact fnE (F := F_new_key) (mcons_of (a := mv 1) (mv_of rfl) (mone (a := mv 4) (mv_of rfl))) (newk_at hf ht)
        · rw [decide_eq_false h, if_neg (by decide), if_neg h]
          exact mv_of rfl
      unfold mTup
      rw [mcons_of (a := mv 4) (x := .int x) (mv_of rfl) (mone v)]
      rfl⟩⟩
  rw [List.filter_eq_self.mpr (fun _ _ => rfl)] at c1
  refine (show F_changed_rows [tupI K, .box n, oM lo, oM hi] hp = bodyF 4 5 m_changed_rows [tupI K, .box n, oM lo, oM hi] hp from rfl).trans (body_rt (s' := ⟨[some (tupI K), some (.box n), some (oM lo), some (oM hi), none], hp⟩) (ret_of ?_))
  rw [rm, List.map_map]
  exact c1
/-! ### the order -/
abbrev rw_ (t q : Int) (lo hi : Option Int) (L : List Int) : List IP := L.map fun k => (k, vP t q lo hi k)
theorem dist_at {a b : Int} : F_distance [pM (a, b)] hp = .ok (.int (if b - a < 0 then -(b - a) else b - a)) hp :=
  (show F_distance [pM (a, b)] hp = bodyF 1 1 m_distance [pM (a, b)] hp from rfl).trans (body_rt (s' := ⟨[some (pM (a, b))], hp⟩) (ret_of (call_of (o := cAbs) (mone (m2_of (x := .int b) (y := .int a) rfl rfl rfl)) rfl)))
theorem keyz_at : ∀ l : List Int, (∀ k ∈ l, WI lo hi k) → keyzM F_distance (rm (rw_ t q lo hi l)) hp = some (l.map (mA t q), hp)
  | [], _ => rfl
  | k :: l, h => by
    have e : vP t q lo hi k = t * k + q := if_pos (h k (by simp))
    show (match F_distance [pM (k, vP t q lo hi k)] hp with
      | .ok (.int n) hp1 => match keyzM F_distance (rm (rw_ t q lo hi l)) hp1 with
        | some (ns, hp2) => some (n :: ns, hp2)
        | none => none
      | _ => none) = _
    rw [dist_at, e, absI_mv]
    dsimp only
    rw [keyz_at l fun k hk => h k (by simp [hk])]
    rfl
open PySem.W in
theorem sortK_at {a : ME} {s : MS} {b : Bool} (h : a s = .ok (.lst (rm (rw_ t q lo hi L))) s) (hw : ∀ k ∈ L, WI lo hi k) :
    mSrtK b F_distance a s = .ok (.lst (rm (rw_ t q lo hi (L.mergeSort fun x y => if b = true then decide (mA t q y ≤ mA t q x) else decide (mA t q x ≤ mA t q y))))) s := by
  unfold mSrtK
  rw [h]
  show (match keyzM F_distance (rm (rw_ t q lo hi L)) s.hp with | some (ns, hp2) => Res.ok (M.lst (sortM b (rm (rw_ t q lo hi L)) ns)) ⟨s.env, hp2⟩ | none => Res.stuck) = _
  rw [keyz_at L hw]
  dsimp only
  unfold sortM
  have ez : ∀ l : List Int, (rm (rw_ t q lo hi l)).zip (l.map (mA t q)) = l.map fun k => (pM (k, vP t q lo hi k), mA t q k) := fun l => by
    induction l with
    | nil => rfl
    | cons x l ih =>
      rw [List.map_cons, List.map_cons, ← ih]
      rfl
  rw [ez]
  have e2 : (L.mergeSort fun x y => if b = true then decide (mA t q y ≤ mA t q x) else decide (mA t q x ≤ mA t q y)).map (fun k => (pM (k, vP t q lo hi k), mA t q k)) = (L.map fun k => (pM (k, vP t q lo hi k), mA t q k)).mergeSort (fun p q => if b = true then decide (q.2 ≤ p.2) else decide (p.2 ≤ q.2)) := sort_maps _ fun x _ y _ => rfl
  rw [← e2, List.map_map]
  unfold rm
  rw [List.map_map]
  rfl
abbrev eVs (t q : Int) (w : Way) (lo hi : Option Int) (L : List Int) (o4 o5 o6 : Option M) : List (Option M) := [some (.lst (rm (rw_ t q lo hi L))), some (.str (wS w)), some (oM lo), some (oM hi), o4, o5, o6]
abbrev vsW : MT := (mB (mFn (mCons (m2 (oIxD oIx) (mv 6) (mc (.int 0))) (mCons (mv 2) (mCons (mv 3) mNil))) F_is_within))
def vs0 : MStm := (sSet 4 (mLc [6] (iSeq (mv 0)) (gSet 6) vsW (mv 6)))
def vsD : MStm := (sIf (mB (m2 (oEqK false (oEqD false)) (mv 1) (mc (.str "down")))) (sSet 4 (mRevL (mv 4))) sNx)
def vsN : MStm := (sIf (mB (m2 (oEqK false (oEqD false)) (mv 1) (mc (.str "near")))) (sSet 4 (mSrtK false F_distance (mv 4))) sNx)
def vsF : MStm := (sIf (mB (m2 (oEqK false (oEqD false)) (mv 1) (mc (.str "far")))) (sSet 4 (mSrtK true F_distance (mv 4))) sNx)
def vs4 : MStm := (sSet 5 (mLc [6] (iSeq (mv 0)) (gSet 6) (mNot vsW) (mv 6)))
def vs5 : MStm := (sRet (mCall (mCons (mLc [6] (iSeq (m2 oAdd (mv 4) (mv 5))) (gSet 6) mYes (m2 (oIxD oIx) (mv 6) (mc (.int 0)))) mNil) cTup))
theorem vs_eq : m_visited_rows = sSeq vs0 (sSeq vsD (sSeq vsN (sSeq vsF (sSeq vs4 vs5)))) := rfl
theorem rm_rw (l : List Int) : rm (rw_ t q lo hi l) = l.map fun k => pM (k, vP t q lo hi k) := by unfold rm; rw [List.map_map]; rfl
theorem visited2_at (hl : L.length ≤ 40) (up : L.Pairwise (· < ·)) : ∃ J : List Int, F_visited_rows [.lst (rm (rw_ t q lo hi L)), .str (wS w), oM lo, oM hi] hp = .ok (tupI (J ++ L.filter fun k => !decide (WI lo hi k))) hp ∧ J.Perm (inS lo hi L) ∧ J.Pairwise (Bf t q w) := by
  have wt : ∀ (k : Int) (o4 o5 : Option M), vsW ⟨eVs t q w lo hi L o4 o5 (some (pM (k, vP t q lo hi k))), hp⟩ = .ok (decide (WI lo hi k)) ⟨eVs t q w lo hi L o4 o5 (some (pM (k, vP t q lo hi k))), hp⟩ := fun k o4 o5 =>
    b_of (fnE (F := F_is_within) (mcons_of (m2_of (x := pM (k, vP t q lo hi k)) (y := .int 0) (b := mc (.int 0)) (mv_of rfl) rfl rfl) (mcons_of (a := mv 2) (mv_of rfl) (mone (a := mv 3) (mv_of rfl)))) within_at)
  have it : ∀ o4 o5 : Option M, iSeq (mv 0) ⟨eVs t q w lo hi L o4 o5 none, hp⟩ = .ok (L.map fun k => pM (k, vP t q lo hi k)) ⟨eVs t q w lo hi L o4 o5 none, hp⟩ := fun o4 o5 => by
    rw [← rm_rw]; rfl
  have c0 := mlc_if (vs := [6]) (tg := gSet 6) (tt := vsW) (el := mv 6) (em := fun k => pM (k, vP t q lo hi k)) (f := fun k => pM (k, vP t q lo hi k)) (p := fun k => decide (WI lo hi k)) (xs := L) (it none none) (Nat.le_trans hl (by decide)) fun k _ =>
    ⟨⟨eVs t q w lo hi L none none (some (pM (k, vP t q lo hi k))), hp⟩, eVs t q w lo hi L none none (some (pM (k, vP t q lo hi k))), rfl, wt k none none, fun _ => ⟨_, mv_of rfl⟩⟩
  rw [← rm_rw] at c0
  have s0 : vs0 ⟨eVs t q w lo hi L none none none, hp⟩ = .ok .nx ⟨eVs t q w lo hi L (some (.lst (rm (rw_ t q lo hi (inS lo hi L))))) none none, hp⟩ := set_of (s1 := ⟨eVs t q w lo hi L none none none, hp⟩) c0
  have iw : ∀ k ∈ inS lo hi L, WI lo hi k := fun k hk => of_decide_eq_true (List.mem_filter.mp hk).2
  have iu : (inS lo hi L).Pairwise (· < ·) := up.filter _
  have il : (inS lo hi L).length ≤ 40 := Nat.le_trans (List.length_filter_le _ _) hl
  have mid : ∃ J : List Int, sSeq vsD (sSeq vsN (sSeq vsF (sSeq vs4 vs5))) ⟨eVs t q w lo hi L (some (.lst (rm (rw_ t q lo hi (inS lo hi L))))) none none, hp⟩ = sSeq vs4 vs5 ⟨eVs t q w lo hi L (some (.lst (rm (rw_ t q lo hi J)))) none none, hp⟩ ∧ J.Perm (inS lo hi L) ∧ J.Pairwise (Bf t q w) := by
    generalize inS lo hi L = I at iw iu
    cases w with
    | up => exact ⟨I, (seq_nx (s1 := ⟨eVs t q .up lo hi L (some (.lst (rm (rw_ t q lo hi I)))) none none, hp⟩) (by kernel_rfl)).trans ((seq_nx (s1 := ⟨eVs t q .up lo hi L (some (.lst (rm (rw_ t q lo hi I)))) none none, hp⟩) (by kernel_rfl)).trans (seq_nx (s1 := ⟨eVs t q .up lo hi L (some (.lst (rm (rw_ t q lo hi I)))) none none, hp⟩) (by kernel_rfl))), .refl _, iu⟩
    | down =>
      have r : vsD ⟨eVs t q .down lo hi L (some (.lst (rm (rw_ t q lo hi I)))) none none, hp⟩ = .ok .nx ⟨eVs t q .down lo hi L (some (.lst (rm (rw_ t q lo hi I.reverse)))) none none, hp⟩ := by
        have g : mB (m2 (oEqK false (oEqD false)) (mv 1) (mc (.str "down"))) ⟨eVs t q .down lo hi L (some (.lst (rm (rw_ t q lo hi I)))) none none, hp⟩ = .ok true ⟨eVs t q .down lo hi L (some (.lst (rm (rw_ t q lo hi I)))) none none, hp⟩ := by kernel_rfl
        refine (if_of (k := true) g).trans ((if_pos rfl).trans ?_)
        refine set_of (s1 := ⟨eVs t q .down lo hi L (some (.lst (rm (rw_ t q lo hi I)))) none none, hp⟩) ?_
        show Res.ok (M.lst (rm (rw_ t q lo hi I)).reverse) _ = _
        unfold rm rw_
        rw [List.map_reverse, List.map_reverse]
      exact ⟨I.reverse, (seq_nx r).trans ((seq_nx (s1 := ⟨eVs t q .down lo hi L (some (.lst (rm (rw_ t q lo hi I.reverse)))) none none, hp⟩) (by kernel_rfl)).trans (seq_nx (s1 := ⟨eVs t q .down lo hi L (some (.lst (rm (rw_ t q lo hi I.reverse)))) none none, hp⟩) (by kernel_rfl))), I.reverse_perm, List.pairwise_reverse.mpr iu⟩
    | near =>
      have g : mB (m2 (oEqK false (oEqD false)) (mv 1) (mc (.str "near"))) ⟨eVs t q .near lo hi L (some (.lst (rm (rw_ t q lo hi I)))) none none, hp⟩ = .ok true ⟨eVs t q .near lo hi L (some (.lst (rm (rw_ t q lo hi I)))) none none, hp⟩ := by kernel_rfl
      have sk := sortK_at (a := mv 4) (s := ⟨eVs t q .near lo hi L (some (.lst (rm (rw_ t q lo hi I)))) none none, hp⟩) (b := false) (mv_of rfl) iw
      have st := stab (le := fun x y => if false = true then decide (mA t q y ≤ mA t q x) else decide (mA t q x ≤ mA t q y)) (fun a b c h1 h2 => by simp at h1 h2 ⊢; omega) (fun a b => by simp; omega) iu
      have pm := List.mergeSort_perm I (fun x y => if false = true then decide (mA t q y ≤ mA t q x) else decide (mA t q x ≤ mA t q y))
      generalize I.mergeSort (fun x y => if false = true then decide (mA t q y ≤ mA t q x) else decide (mA t q x ≤ mA t q y)) = J at sk st pm
      have r : vsN ⟨eVs t q .near lo hi L (some (.lst (rm (rw_ t q lo hi I)))) none none, hp⟩ = .ok .nx ⟨eVs t q .near lo hi L (some (.lst (rm (rw_ t q lo hi J)))) none none, hp⟩ := (if_of (k := true) g).trans ((if_pos rfl).trans (set_of (s1 := ⟨eVs t q .near lo hi L (some (.lst (rm (rw_ t q lo hi I)))) none none, hp⟩) sk))
      exact ⟨J, (seq_nx (s1 := ⟨eVs t q .near lo hi L (some (.lst (rm (rw_ t q lo hi I)))) none none, hp⟩) (by kernel_rfl)).trans ((seq_nx r).trans (seq_nx (s1 := ⟨eVs t q .near lo hi L (some (.lst (rm (rw_ t q lo hi J)))) none none, hp⟩) (by kernel_rfl))), pm, st.imp fun {a b} h => by simp only [Bf]; simp at h; omega⟩
    | far =>
      have g : mB (m2 (oEqK false (oEqD false)) (mv 1) (mc (.str "far"))) ⟨eVs t q .far lo hi L (some (.lst (rm (rw_ t q lo hi I)))) none none, hp⟩ = .ok true ⟨eVs t q .far lo hi L (some (.lst (rm (rw_ t q lo hi I)))) none none, hp⟩ := by kernel_rfl
      have sk := sortK_at (a := mv 4) (s := ⟨eVs t q .far lo hi L (some (.lst (rm (rw_ t q lo hi I)))) none none, hp⟩) (b := true) (mv_of rfl) iw
      have st := stab (le := fun x y => if true = true then decide (mA t q y ≤ mA t q x) else decide (mA t q x ≤ mA t q y)) (fun a b c h1 h2 => by simp at h1 h2 ⊢; omega) (fun a b => by simp; omega) iu
      have pm := List.mergeSort_perm I (fun x y => if true = true then decide (mA t q y ≤ mA t q x) else decide (mA t q x ≤ mA t q y))
      generalize I.mergeSort (fun x y => if true = true then decide (mA t q y ≤ mA t q x) else decide (mA t q x ≤ mA t q y)) = J at sk st pm
      have r : vsF ⟨eVs t q .far lo hi L (some (.lst (rm (rw_ t q lo hi I)))) none none, hp⟩ = .ok .nx ⟨eVs t q .far lo hi L (some (.lst (rm (rw_ t q lo hi J)))) none none, hp⟩ := (if_of (k := true) g).trans ((if_pos rfl).trans (set_of (s1 := ⟨eVs t q .far lo hi L (some (.lst (rm (rw_ t q lo hi I)))) none none, hp⟩) sk))
      exact ⟨J, (seq_nx (s1 := ⟨eVs t q .far lo hi L (some (.lst (rm (rw_ t q lo hi I)))) none none, hp⟩) (by kernel_rfl)).trans ((seq_nx (s1 := ⟨eVs t q .far lo hi L (some (.lst (rm (rw_ t q lo hi I)))) none none, hp⟩) (by kernel_rfl)).trans (seq_nx r)), pm, st.imp fun {a b} h => by simp only [Bf]; simp at h; omega⟩
  obtain ⟨J, em, pJ, wJ⟩ := mid
  have jl : J.length ≤ 40 := by rw [pJ.length_eq]; exact il
  have c4 := mlc_if (vs := [6]) (tg := gSet 6) (tt := mNot vsW) (el := mv 6) (em := fun k => pM (k, vP t q lo hi k)) (f := fun k => pM (k, vP t q lo hi k)) (p := fun k => !decide (WI lo hi k)) (xs := L) (it (some (.lst (rm (rw_ t q lo hi J)))) none) (Nat.le_trans hl (by decide)) fun k _ =>
    ⟨⟨eVs t q w lo hi L (some (.lst (rm (rw_ t q lo hi J)))) none (some (pM (k, vP t q lo hi k))), hp⟩, eVs t q w lo hi L (some (.lst (rm (rw_ t q lo hi J)))) none (some (pM (k, vP t q lo hi k))), rfl, not_of (wt k _ none), fun _ => ⟨_, mv_of rfl⟩⟩
  rw [← rm_rw] at c4
  have ol : (L.filter fun k => !decide (WI lo hi k)).length ≤ 40 := Nat.le_trans (List.length_filter_le _ _) hl
  generalize (L.filter fun k => !decide (WI lo hi k)) = O at c4 ol
  have s4 : vs4 ⟨eVs t q w lo hi L (some (.lst (rm (rw_ t q lo hi J)))) none none, hp⟩ = .ok .nx ⟨eVs t q w lo hi L (some (.lst (rm (rw_ t q lo hi J)))) (some (.lst (rm (rw_ t q lo hi O)))) none, hp⟩ := set_of (s1 := ⟨eVs t q w lo hi L (some (.lst (rm (rw_ t q lo hi J)))) none none, hp⟩) c4
  have ad : iSeq (m2 oAdd (mv 4) (mv 5)) ⟨eVs t q w lo hi L (some (.lst (rm (rw_ t q lo hi J)))) (some (.lst (rm (rw_ t q lo hi O)))) none, hp⟩ = .ok ((J ++ O).map fun k => pM (k, vP t q lo hi k)) ⟨eVs t q w lo hi L (some (.lst (rm (rw_ t q lo hi J)))) (some (.lst (rm (rw_ t q lo hi O)))) none, hp⟩ := by
    unfold iSeq
    rw [m2_of (o := oAdd) (a := mv 4) (b := mv 5) (x := .lst (rm (rw_ t q lo hi J))) (y := .lst (rm (rw_ t q lo hi O))) (mv_of rfl) (mv_of rfl) (oAdd_lst (by
      simp [rm]
      have : (80 : Nat) ≤ big := by decide
      omega)), ← rm_rw]
    show Res.ok (rm (rw_ t q lo hi J) ++ rm (rw_ t q lo hi O)) _ = _
    unfold rm rw_
    rw [← List.map_append, ← List.map_append]
  have c5 := mlc_if (vs := [6]) (tg := gSet 6) (tt := mYes) (el := m2 (oIxD oIx) (mv 6) (mc (.int 0))) (em := fun k => pM (k, vP t q lo hi k)) (f := M.int) (p := fun _ => true) (xs := J ++ O) ad (by
    rw [List.length_append]
    have : (80 : Nat) ≤ big := by decide
    omega) fun k _ =>
    ⟨⟨eVs t q w lo hi L (some (.lst (rm (rw_ t q lo hi J)))) (some (.lst (rm (rw_ t q lo hi O)))) (some (pM (k, vP t q lo hi k))), hp⟩, eVs t q w lo hi L (some (.lst (rm (rw_ t q lo hi J)))) (some (.lst (rm (rw_ t q lo hi O)))) (some (pM (k, vP t q lo hi k))), rfl, rfl, fun _ => ⟨_, m2_of (x := pM (k, vP t q lo hi k)) (y := .int 0) (b := mc (.int 0)) (mv_of rfl) rfl rfl⟩⟩
  rw [filt_true] at c5
  refine ⟨J, (show F_visited_rows [.lst (rm (rw_ t q lo hi L)), .str (wS w), oM lo, oM hi] hp = bodyF 4 7 m_visited_rows [.lst (rm (rw_ t q lo hi L)), .str (wS w), oM lo, oM hi] hp from rfl).trans (body_rt (s' := ⟨eVs t q w lo hi L (some (.lst (rm (rw_ t q lo hi J)))) (some (.lst (rm (rw_ t q lo hi O)))) none, hp⟩) ?_), pJ, wJ⟩
  rw [vs_eq]
  exact (seq_nx s0).trans (em.trans ((seq_nx s4).trans (ret_of (call_of (o := cTup) (mone c5) rfl))))
end
end Lw
namespace Lw
open L2 Ma PySem.Spec PySem PyProof.Rows
/-! what statement answers, and what the law expects -/
instance {i : Int} : Decidable (KB i) := by unfold KB; infer_instance
section
variable {t q k x : Int} {w : Way} {lo hi : Option Int} {hp B : List Cell} {I J K L ks o : List Int} {env : List (Option M)} {v : Int → Int} {n f : Nat} {s : MS}
/-- keys in ascending order -/
abbrev srI (K : List Int) : List Int := K.mergeSort (fun a b => decide (a ≤ b))
theorem sr_perm (K : List Int) : (srI K).Perm K := List.mergeSort_perm _ _
theorem sr_le (K : List Int) : (srI K).Pairwise (· ≤ ·) :=
  (List.pairwise_mergeSort (le := fun a b : Int => decide (a ≤ b)) (fun a b c h1 h2 => decide_eq_true (by have := of_decide_eq_true h1; have := of_decide_eq_true h2; omega)) (fun a b => by simp; omega) _).imp fun {a b} h => of_decide_eq_true h
theorem sr_lt (nd : K.Nodup) : (srI K).Pairwise (· < ·) := ((sr_le K).and ((sr_perm K).nodup_iff.mpr nd)).imp fun {a b} h => by
  have h1 := h.1
  have h2 : a ≠ b := h.2
  omega
theorem ou_sr (nd : K.Nodup) : (srI K).filter (fun k => !decide (WI lo hi k)) = ouS lo hi K :=
  List.Perm.eq_of_pairwise (le := fun a b : Int => a ≤ b) (fun a b _ _ h1 h2 => Int.le_antisymm h1 h2) ((sr_le K).filter _) (ou_pw K) (((sr_perm K).filter _).trans (ou_perm K).symm)
theorem in_sr : (inS lo hi (srI K)).Perm (inS lo hi K) := (sr_perm K).filter _
theorem rw_srt (h : L.Pairwise (· < ·)) : Srt (rw_ t q lo hi L) := List.pairwise_map.mpr h
theorem keys_rw : keysP (rw_ t q lo hi L) = L := by
  unfold keysP
  rw [List.map_map]
  conv => rhs; rw [← List.map_id L]
  rfl
theorem srtP_rw (nd : K.Nodup) : srtP (rw_ t q lo hi (srI K)) = rw_ t q lo hi (srI K) :=
  Srt.one (srtP_srt (by rw [keys_rw]; exact (sr_perm K).nodup_iff.mpr nd)) (rw_srt (sr_lt nd)) (srtP_perm _)
/-- the law's rows sorted -/
theorem sort_rows (nd : K.Nodup) : cSortT cSortD [.lst (rm (rw_ t q lo hi (inS lo hi K ++ ouS lo hi K)))] s = .ok (.lst (rm (rw_ t q lo hi (srI K)))) s := by
  have pp : (inS lo hi K ++ ouS lo hi K).Perm (srI K) := (io_perm K).trans (sr_perm K).symm
  have h := sortD_tups (L1 := (inS lo hi K ++ ouS lo hi K).map fun k => [k, vP t q lo hi k]) (L2 := (srI K).map fun k => [k, vP t q lo hi k]) (pp.map _) (List.pairwise_map.mpr ((sr_lt nd).imp fun {a b} h => lex2 (.inl h))) (fun l hl => by
    obtain ⟨a, _, rfl⟩ := List.mem_map.mp hl
    simp) (s := s)
  rw [List.map_map, List.map_map] at h
  rw [rm_rw, rm_rw]
  exact h
/-- all new keys have at most thirty digits -/
def Fit (t q : Int) (lo hi : Option Int) (K : List Int) : Prop := ∀ k ∈ K, KB (vP t q lo hi k)
theorem rows_of (kb : ∀ k ∈ K, KB k) (nd : K.Nodup) (hl : K.length ≤ 40) (h : Fit t q lo hi K) : Rows (rw_ t q lo hi (srI K)) := ⟨fun p hp => by
  obtain ⟨k, hk, rfl⟩ := List.mem_map.mp hp
  have := (sr_perm K).mem_iff.mp hk
  exact ⟨kb k this, h k this⟩, by rw [keys_rw]; exact (sr_perm K).nodup_iff.mpr nd, by rw [List.length_map, (sr_perm K).length_eq]; exact hl⟩
theorem fit_iff : ((rw_ t q lo hi (srI K)).all fun p => decide (-10 ^ 30 < p.2 ∧ p.2 < 10 ^ 30)) = true ↔ Fit t q lo hi K := by
  rw [List.all_eq_true]
  constructor
  · intro h k hk
    exact of_decide_eq_true (h (k, vP t q lo hi k) (List.mem_map.mpr ⟨k, (sr_perm K).mem_iff.mpr hk, rfl⟩))
  · intro h p hp
    obtain ⟨k, hk, rfl⟩ := List.mem_map.mp hp
    exact decide_eq_true (h k ((sr_perm K).mem_iff.mp hk))
theorem stmt_ok (hf : hp[f]? = some (fr t q)) (ht : T15 t) (h1 : SmO lo) (h2 : SmO hi) (kb : ∀ k ∈ K, KB k) (nd : K.Nodup) (hl : K.length ≤ 40) (h : Fit t q lo hi K) (pJ : J.Perm (inS lo hi K)) (wJ : J.Pairwise (Bf t q w)) :
    ∃ (x d : Nat) (hp' : List Cell), bodyF 5 7 m_statement [tupI K, .box f, .str (wS w), oM lo, oM hi] hp = .ok (.tup [.box x, tupI (J ++ ouS lo hi K)]) hp' ∧ TabAt hp' x d (rw_ t q lo hi (srI K)) ∧ Ext hp hp' := by
  have R := rows_of kb nd hl h
  have ll : (srI K).length ≤ 40 := by rw [(sr_perm K).length_eq]; exact hl
  obtain ⟨J2, e, p2, w2⟩ := visited2_at (t := t) (q := q) (w := w) (lo := lo) (hi := hi) (hp := hp ++ mkCells hp.length (rw_ t q lo hi (srI K))) ll (sr_lt nd)
  have ej : J2 = J := List.Perm.eq_of_pairwise (le := Bf t q w) (fun a b _ _ h1 h2 => absurd h2 h1.asymm) w2 wJ (p2.trans (in_sr.trans pJ.symm))
  rw [ej, ou_sr nd] at e
  have c := changed2_at (lo := lo) (hi := hi) hf ht (sr_perm K).symm (sr_le K) (Nat.le_trans ll (by decide))
  refine ⟨_, hp.length + 2, _, st_ok (diff_yes kb (by omega) nd) hf scan_ok (bnd_ok h1 h2) hl c R e, ?_, Ext.app _ _⟩
  have := mk_tab (ps := rw_ t q lo hi (srI K)) (hp := hp)
  rw [srtP_rw nd] at this
  exact this
theorem stmt_no (hf : hp[f]? = some (fr t q)) (ht : T15 t) (h1 : SmO lo) (h2 : SmO hi) (kb : ∀ k ∈ K, KB k) (nd : K.Nodup) (hl : K.length ≤ 40) (h : ¬Fit t q lo hi K) :
    bodyF 5 7 m_statement [tupI K, .box f, .str (wS w), oM lo, oM hi] hp = .err ⟨"TooLarge", [], []⟩ hp := by
  have ll : (srI K).length ≤ 40 := by rw [(sr_perm K).length_eq]; exact hl
  have c := changed2_at (lo := lo) (hi := hi) hf ht (sr_perm K).symm (sr_le K) (Nat.le_trans ll (by decide))
  refine st_large (diff_yes kb (by omega) nd) hf scan_ok (bnd_ok h1 h2) hl c (by rw [List.length_map]; omega) ?_
  exact Bool.eq_false_iff.mpr fun z => h (fit_iff.mp z)
abbrev eTd (K : List Int) (f : Nat) (w : Way) (lo hi : Option Int) (o5 o6 : Option M) : List (Option M) := [some (tupI K), some (.box f), some (.str (wS w)), some (oM lo), some (oM hi), o5, o6]
def td0 : MStm := (sAsg (mFn (mCat 2 3 (mCons (mv 0) (mCons (mv 1) mNil)) (mCons (mv 2) (mCons (mv 3) (mCons (mv 4) mNil)))) F_statement_k2_scan_low_high) (gUnpN [5, 6]))
def td1 : MStm := (sRet (mTup (mCons (mAt (mv 5) (oPrp "Table" F_Table_rows (fun _ _ => .stuck))) (mCons (mv 6) mNil))))
theorem td_eq : m__law_told = sSeq td0 td1 := rfl
theorem stk_eq (a b c d e : M) : F_statement_k2_scan_low_high [a, b, c, d, e] hp = bodyF 5 7 m_statement [a, b, c, d, e] hp := rfl
abbrev dueM (t q : Int) (lo hi : Option Int) (K J : List Int) : M := .tup [.tup (rm (rw_ t q lo hi (srI K))), tupI (J ++ ouS lo hi K)]
theorem asg2 {e : ME} {i j : Nat} {a b : M} {env env' : List (Option M)} {hp hp' : List Cell} (h : e ⟨env, hp⟩ = .ok (.tup [a, b]) ⟨env', hp'⟩) : sAsg e (gUnpN [i, j]) ⟨env, hp⟩ = .ok .nx ⟨(env'.set i (some a)).set j (some b), hp'⟩ := by
  unfold sAsg
  rw [h]
  rfl
theorem asg_err {e : ME} {g : MG} {s s1 : MS} {x : Exc} (h : e s = .err x s1) : sAsg e g s = .err x s1 := by
  unfold sAsg
  rw [h]
  rfl
theorem told_ok (hf : hp[f]? = some (fr t q)) (ht : T15 t) (h1 : SmO lo) (h2 : SmO hi) (kb : ∀ k ∈ K, KB k) (nd : K.Nodup) (hl : K.length ≤ 40) (h : Fit t q lo hi K) (pJ : J.Perm (inS lo hi K)) (wJ : J.Pairwise (Bf t q w)) :
    ∃ hp', F__law_told [tupI K, .box f, .str (wS w), oM lo, oM hi] hp = .ok (dueM t q lo hi K J) hp' ∧ Ext hp hp' := by
  obtain ⟨x, d, hp', e, tb, x1⟩ := stmt_ok hf ht h1 h2 kb nd hl h pJ wJ
  refine ⟨hp', ?_, x1⟩
  have f1 := fnE (F := F_statement_k2_scan_low_high) (env := eTd K f w lo hi none none) (ma := mCat 2 3 (mCons (mv 0) (mCons (mv 1) mNil)) (mCons (mv 2) (mCons (mv 3) (mCons (mv 4) mNil)))) (mcat_of (n := 2) (k := 3) (mcons_of (a := mv 0) (mv_of rfl) (mone (a := mv 1) (mv_of rfl))) (mcons_of (a := mv 2) (mv_of rfl) (mcons_of (a := mv 3) (mv_of rfl) (mone (a := mv 4) (mv_of rfl))))) ((stk_eq _ _ _ _ _).trans e)
  have s1 : td0 ⟨eTd K f w lo hi none none, hp⟩ = .ok .nx ⟨eTd K f w lo hi (some (.box x)) (some (tupI (J ++ ouS lo hi K))), hp'⟩ := asg2 f1
  refine (show F__law_told [tupI K, .box f, .str (wS w), oM lo, oM hi] hp = bodyF 5 7 m__law_told [tupI K, .box f, .str (wS w), oM lo, oM hi] hp from rfl).trans (body_rt (s' := ⟨eTd K f w lo hi (some (.box x)) (some (tupI (J ++ ouS lo hi K))), hp'⟩) ?_)
  rw [td_eq]
  exact (seq_nx s1).trans (ret_of (mtup2 (self_rows (env := eTd K f w lo hi (some (.box x)) (some (tupI (J ++ ouS lo hi K)))) (s := ⟨eTd K f w lo hi (some (.box x)) (some (tupI (J ++ ouS lo hi K))), hp'⟩) rfl tb (by rw [List.length_map, (sr_perm K).length_eq]; exact hl)) (mv_of rfl)))
theorem told_no (hf : hp[f]? = some (fr t q)) (ht : T15 t) (h1 : SmO lo) (h2 : SmO hi) (kb : ∀ k ∈ K, KB k) (nd : K.Nodup) (hl : K.length ≤ 40) (h : ¬Fit t q lo hi K) :
    F__law_told [tupI K, .box f, .str (wS w), oM lo, oM hi] hp = .err ⟨"TooLarge", [], []⟩ hp := by
  have f1 := fn_errE (F := F_statement_k2_scan_low_high) (env := eTd K f w lo hi none none) (ma := mCat 2 3 (mCons (mv 0) (mCons (mv 1) mNil)) (mCons (mv 2) (mCons (mv 3) (mCons (mv 4) mNil)))) (mcat_of (n := 2) (k := 3) (mcons_of (a := mv 0) (mv_of rfl) (mone (a := mv 1) (mv_of rfl))) (mcons_of (a := mv 2) (mv_of rfl) (mcons_of (a := mv 3) (mv_of rfl) (mone (a := mv 4) (mv_of rfl))))) ((stk_eq _ _ _ _ _).trans (stmt_no (w := w) hf ht h1 h2 kb nd hl h))
  refine (show F__law_told [tupI K, .box f, .str (wS w), oM lo, oM hi] hp = bodyF 5 7 m__law_told [tupI K, .box f, .str (wS w), oM lo, oM hi] hp from rfl).trans (body_err (s' := ⟨eTd K f w lo hi none none, hp⟩) ?_)
  rw [td_eq]
  exact seq_err (asg_err f1)
/-! ### the law's look at the size -/
theorem kb_abs {v : Int} : decide ((if v < 0 then -v else v) < 1000000000000000000000000000000) = decide (KB v) := by
  refine decide_eq_decide.mpr ?_
  unfold KB
  rw [z30]
  split <;> omega
abbrev bigT (i j k : Nat) : MT := mNot (mB (mCall (mCons (mLc [j, k] (iSeq (mv i)) (gTupN [j, k]) mYes (m2 oLt (mCall (mCons (mv k) mNil) cAbs) (m2 oPow (mc (.int 10)) (mc (.int 30))))) mNil) (cAll false)))
instance : Decidable (Fit t q lo hi K) := by unfold Fit; infer_instance
theorem big_el {env : List (Option M)} {k : Nat} {v : Int} (h : env[k]? = some (some (.int v))) : m2 oLt (mCall (mCons (mv k) mNil) cAbs) (m2 oPow (mc (.int 10)) (mc (.int 30))) ⟨env, hp⟩ = .ok (.bl (decide (KB v))) ⟨env, hp⟩ := by
  rw [← kb_abs]
  exact m2_of (call_of (o := cAbs) (mone (mv_of h)) rfl) (s2 := ⟨env, hp⟩) (y := .int 1000000000000000000000000000000) (by kernel_rfl) rfl
theorem big_all (K : List Int) : ((rw_ t q lo hi (inS lo hi K ++ ouS lo hi K)).all fun p => decide (KB p.2)) = decide (Fit t q lo hi K) := by
  have : ((rw_ t q lo hi (inS lo hi K ++ ouS lo hi K)).all fun p => decide (KB p.2)) = true ↔ Fit t q lo hi K := by
    rw [List.all_eq_true]
    constructor
    · intro h k hk
      exact of_decide_eq_true (h (k, vP t q lo hi k) (List.mem_map.mpr ⟨k, (io_perm K).mem_iff.mpr hk, rfl⟩))
    · intro h p hp
      obtain ⟨k, hk, rfl⟩ := List.mem_map.mp hp
      exact decide_eq_true (h k ((io_perm K).mem_iff.mp hk))
  by_cases h : Fit t q lo hi K
  · rw [decide_eq_true h]; exact this.mpr h
  · rw [decide_eq_false h]; exact Bool.eq_false_iff.mpr fun z => h (this.mp z)
/-! ### arguments left out -/
abbrev eD (K : List Int) (f : Nat) (t q : Int) (o3 o4 o5 o6 o7 o8 : Option M) : List (Option M) := [some (tupI K), some (.box f), some (.tup [.int t, .int q]), o3, o4, o5, o6, o7, o8]
def df0 : MStm := (sAsg (mFn (mCons (mv 0) (mCons (mv 2) (mCons (mc (.str "up")) (mCons (mc .non) (mCons (mc .non) mNil))))) F__law_planned) (gUnpN [3, 4]))
def df1 : MStm := (sIf (bigT 3 7 8) (sRet (mc (.bl true))) sNx)
def df2 : MStm := (sAsg (mFn (mCons (mv 0) (mCons (mv 1) mNil)) F_statement) (gUnpN [5, 6]))
abbrev df3a : ME := (m2 (oEqK false (oEqD false)) (mAt (mv 5) (oPrp "Table" F_Table_rows (fun _ _ => .stuck))) (mCall (mCons (mCall (mCons (mv 3) mNil) (cSortT cSortD)) mNil) cTup))
def df3 : MStm := (sRet (mAndV df3a (m2 (oEqK false (oEqD false)) (mv 6) (mv 4))))
theorem df_eq : m__law_defaults_right = sSeq df0 (sSeq df1 (sSeq df2 df3)) := rfl
theorem defaults_at (hf : hp[f]? = some (fr t q)) (ht : T15 t) (kb : ∀ k ∈ K, KB k) (nd : K.Nodup) (hl : K.length ≤ 40) : ∃ hp', F__law_defaults_right [tupI K, .box f, .tup [.int t, .int q]] hp = .ok (.bl true) hp' ∧ Ext hp hp' := by
  obtain ⟨J, hp1, e1, x1, pJ, wJ⟩ := planned_at (t := t) (q := q) (w := .up) (lo := none) (hi := none) (hp := hp) ht hl nd
  have f0 := fnE (F := F__law_planned) (env := eD K f t q none none none none none none) (ma := mCons (mv 0) (mCons (mv 2) (mCons (mc (.str "up")) (mCons (mc .non) (mCons (mc .non) mNil))))) (mcons_of (mv_of rfl) (mcons_of (mv_of rfl) (mcons_of (x := .str "up") rfl (mcons_of (x := .non) rfl (mone (x := .non) rfl))))) e1
  have s0 : df0 ⟨eD K f t q none none none none none none, hp⟩ = .ok .nx ⟨eD K f t q (some (.lst (rm (rw_ t q none none (inS none none K ++ ouS none none K))))) (some (tupI (J ++ ouS none none K))) none none none none, hp1⟩ := asg2 f0
  have il : (inS none none K ++ ouS none none K).length ≤ 40 := by rw [(io_perm (lo := none) (hi := none) K).length_eq]; exact hl
  have bT : bigT 3 7 8 ⟨eD K f t q (some (.lst (rm (rw_ t q none none (inS none none K ++ ouS none none K))))) (some (tupI (J ++ ouS none none K))) none none none none, hp1⟩ = .ok (!decide (Fit t q none none K)) ⟨eD K f t q (some (.lst (rm (rw_ t q none none (inS none none K ++ ouS none none K))))) (some (tupI (J ++ ouS none none K))) none none none none, hp1⟩ := by
    rw [← big_all]
    have rl : (rw_ t q none none (inS none none K ++ ouS none none K)).length ≤ 1000 := by rw [List.length_map]; omega
    generalize (rw_ t q none none (inS none none K ++ ouS none none K)) = R at rl
    have c1 := mlc_if (vs := [7, 8]) (it := iSeq (mv 3)) (tg := gTupN [7, 8]) (tt := mYes) (el := m2 oLt (mCall (mCons (mv 8) mNil) cAbs) (m2 oPow (mc (.int 10)) (mc (.int 30)))) (em := pM) (f := fun p : IP => M.bl (decide (KB p.2))) (p := fun _ => true) (xs := R) (s := ⟨eD K f t q (some (.lst (rm R))) (some (tupI (J ++ ouS none none K))) none none none none, hp1⟩) (s1 := ⟨eD K f t q (some (.lst (rm R))) (some (tupI (J ++ ouS none none K))) none none none none, hp1⟩) rfl (Nat.le_trans rl (by decide)) fun p _ =>
      ⟨⟨eD K f t q (some (.lst (rm R))) (some (tupI (J ++ ouS none none K))) none none (some (.int p.1)) (some (.int p.2)), hp1⟩, eD K f t q (some (.lst (rm R))) (some (tupI (J ++ ouS none none K))) none none (some (.int p.1)) (some (.int p.2)), rfl, rfl, fun _ => ⟨_, big_el rfl⟩⟩
    rw [filt_true] at c1
    exact not_of (b_of (call_of (o := cAll false) (mone c1) (all_blsG (neg := false))))
  by_cases ft : Fit t q none none K
  · rw [decide_eq_true ft] at bT
    obtain ⟨x, d, hp2, e2, tb, x2⟩ := stmt_ok (w := .up) (x1 _ _ hf) ht (lo := none) (hi := none) (fun l e => by cases e) (fun l e => by cases e) kb nd hl ft pJ wJ
    have f2 := fnE (F := F_statement) (env := eD K f t q (some (.lst (rm (rw_ t q none none (inS none none K ++ ouS none none K))))) (some (tupI (J ++ ouS none none K))) none none none none) (ma := mCons (mv 0) (mCons (mv 1) mNil)) (mcons_of (mv_of rfl) (mone (mv_of rfl))) ((show F_statement [tupI K, .box f] hp1 = bodyF 5 7 m_statement [tupI K, .box f, .str (wS .up), oM none, oM none] hp1 from rfl).trans e2)
    have s2 : df2 ⟨eD K f t q (some (.lst (rm (rw_ t q none none (inS none none K ++ ouS none none K))))) (some (tupI (J ++ ouS none none K))) none none none none, hp1⟩ = .ok .nx ⟨eD K f t q (some (.lst (rm (rw_ t q none none (inS none none K ++ ouS none none K))))) (some (tupI (J ++ ouS none none K))) (some (.box x)) (some (tupI (J ++ ouS none none K))) none none, hp2⟩ := asg2 f2
    have so := sort_rows (t := t) (q := q) (lo := none) (hi := none) (K := K) nd (s := ⟨eD K f t q (some (.lst (rm (rw_ t q none none (inS none none K ++ ouS none none K))))) (some (tupI (J ++ ouS none none K))) (some (.box x)) (some (tupI (J ++ ouS none none K))) none none, hp2⟩)
    generalize rm (rw_ t q none none (inS none none K ++ ouS none none K)) = R at s0 bT s2 so
    generalize J ++ ouS none none K = O at s0 bT s2 so
    have a1 : df3a ⟨eD K f t q (some (.lst R)) (some (tupI O)) (some (.box x)) (some (tupI O)) none none, hp2⟩ = .ok (.bl true) ⟨eD K f t q (some (.lst R)) (some (tupI O)) (some (.box x)) (some (tupI O)) none none, hp2⟩ :=
      m2_of (self_rows (env := eD K f t q (some (.lst R)) (some (tupI O)) (some (.box x)) (some (tupI O)) none none) (s := ⟨eD K f t q (some (.lst R)) (some (tupI O)) (some (.box x)) (some (tupI O)) none none, hp2⟩) rfl tb (by rw [List.length_map, (sr_perm K).length_eq]; exact hl)) (call_of (o := cTup) (mone (call_of (mone (mv_of rfl)) so)) rfl) eq_rowsT
    have s1 : df1 ⟨eD K f t q (some (.lst R)) (some (tupI O)) none none none none, hp1⟩ = .ok .nx ⟨eD K f t q (some (.lst R)) (some (tupI O)) none none none none, hp1⟩ := (if_of (k := false) bT).trans rfl
    refine ⟨hp2, (show F__law_defaults_right [tupI K, .box f, .tup [.int t, .int q]] hp = bodyF 3 9 m__law_defaults_right [tupI K, .box f, .tup [.int t, .int q]] hp from rfl).trans (body_rt (s' := ⟨eD K f t q (some (.lst R)) (some (tupI O)) (some (.box x)) (some (tupI O)) none none, hp2⟩) ?_), x1.trans x2⟩
    rw [df_eq]
    exact (seq_nx s0).trans ((seq_nx s1).trans ((seq_nx s2).trans (ret_of ((andv_t a1).trans (m2_of (mv_of rfl) (mv_of rfl) eq_tupI)))))
  · rw [decide_eq_false ft] at bT
    generalize rm (rw_ t q none none (inS none none K ++ ouS none none K)) = R at s0 bT
    generalize J ++ ouS none none K = O at s0 bT
    have s1 : df1 ⟨eD K f t q (some (.lst R)) (some (tupI O)) none none none none, hp1⟩ = .ok (.rt (.bl true)) ⟨eD K f t q (some (.lst R)) (some (tupI O)) none none none none, hp1⟩ := (if_of (k := true) bT).trans rfl
    refine ⟨hp1, (show F__law_defaults_right [tupI K, .box f, .tup [.int t, .int q]] hp = bodyF 3 9 m__law_defaults_right [tupI K, .box f, .tup [.int t, .int q]] hp from rfl).trans (body_rt (s' := ⟨eD K f t q (some (.lst R)) (some (tupI O)) none none none none, hp1⟩) ?_), x1⟩
    rw [df_eq]
    exact (seq_nx s0).trans (seq_rt s1)
end
end Lw
namespace Lw
open L2 Ma PySem.Spec PySem PyProof.Rows
/-! the law -/
def IT0 : MI := (iSeq (m2 oAdd (mLst (mCons (mFn (mCons (mv 0) (mCons (mc (.int 0)) mNil)) F__law_cell_at) mNil)) (mSl (mv 0) (oSome (mc (.int 1))) (oSome (mc (.int 3))))))
def C0 : MStm := (sSet 2 (mFn (mCons (mv 1) mNil) F__law_pen))
def C1 : MStm := (sSet 3 (mFn (mCons (mv 2) mNil) F__law_numbers))
def C2 : MStm := (sAsg (mTup (mCons (mMk "Formula" F_Formula___init__ (mCons (m2 (oIxD oIx) (mv 3) (mc (.int 0))) (mCons (m2 (oIxD oIx) (mv 3) (mc (.int 1))) mNil))) (mCons (mFn (mCons (mv 2) (mCons (mFn (mCons (mv 2) (mCons (mLst (mCons (mc (.int 40)) (mCons (mc (.int 9)) (mCons (mc (.int 9)) mNil)))) mNil)) F__law_pick) mNil)) F__law_pairs) mNil))) (gUnpN [8, 9]))
def C3 : MStm := (sSet 4 (mFn (mCons (mv 2) (mCons (mLst (mCons (mc (.int 0)) (mCons (mIf (mB (m2 (oEqK true (oEqD true)) (m2 (oIxD oIx) (mv 3) (mc (.int 0))) (mc (.int 1)))) (m2 oFdv (m2 (oIxD oIx) (mv 3) (mc (.int 1))) (m2 oSub (mc (.int 1)) (m2 (oIxD oIx) (mv 3) (mc (.int 0))))) (mc (.int 5))) mNil))) mNil)) F__law_pick))
def C4 : MStm := (sSet 5 (mCall (mCons (mLc [16, 17] (iSeq (mv 9)) (gTupN [16, 17]) (mB (m2 oLt (mCall (mCons (mv 16) mNil) cAbs) (m2 oPow (mc (.int 10)) (mc (.int 29))))) (m2 oAdd (mv 16) (mv 4))) mNil) cTup))
def C5 : MStm := (sSet 6 (mCall (mCons (mv 5) mNil) (cReprL (cReprK (cReprS cRepr)))))
def C7 : MStm := (sIf (mOr (mNot (mB (mFn (mCons (mv 5) (mCons (mv 8) (mCons (mv 3) mNil))) F__law_defaults_right))) (mB (m2 (oEqK true (oEqD true)) (mCall (mCons (mv 5) mNil) (cReprL (cReprK (cReprS cRepr)))) (mv 6)))) (sRet (mc (.bl false))) sNx)
def C8 : MStm := (sIf (mNot (mB (mFn (mCons (mLst (mCons (mAt (mv 8) (oPrp "Formula" F_Formula_times (fun _ _ => .stuck))) (mCons (mAt (mv 8) (oPrp "Formula" F_Formula_plus (fun _ _ => .stuck))) mNil))) (mCons (mCall (mCons (mv 3) mNil) cList) mNil)) F__law_same))) (sRet (mc (.bl false))) sNx)
def V0 : MStm := (sAsg (mFn (mCons (mv 2) (mCons (mv 3) mNil)) F__law_bounds) (gUnpN [12, 13]))
def V1 : MStm := (sAsg (mFn (mCons (mv 5) (mCons (mv 3) (mCons (mv 7) (mCons (mv 12) (mCons (mv 13) mNil))))) F__law_planned) (gUnpN [14, 15]))
def V2 : MStm := (sSet 10 (mTup (mCons (mc (.str "returned")) (mCons (mTup (mCons (mCall (mCons (mCall (mCons (mv 14) mNil) (cSortT cSortD)) mNil) cTup) (mCons (mv 15) mNil))) mNil))))
def V3 : MStm := (sIf (mNot (mB (mCall (mCons (mLc [16, 17] (iSeq (mv 14)) (gTupN [16, 17]) mYes (m2 oLt (mCall (mCons (mv 17) mNil) cAbs) (m2 oPow (mc (.int 10)) (mc (.int 30))))) mNil) (cAll false)))) (sSet 10 (mTup (mCons (mc (.str "large")) mNil))) sNx)
def V4B : MStm := (sIf (mNot (mB (mFn (mCons (mSaid (saidX WS) (mFn (mCons (mv 5) (mCons (mv 8) (mCons (mv 7) (mCons (mv 12) (mCons (mv 13) mNil))))) F__law_told)) (mCons (mv 10) mNil)) F__law_same))) (sRet (mc (.bl false))) sNx)
def V4 : MStm := (sForI (iRange1 (mCons (mc (.int 2)) mNil)) (gSet 11) V4B)
abbrev WAY : MStm := (sSeq V0 (sSeq V1 (sSeq V2 (sSeq V3 V4))))
def C6 : MStm := (sForI (iSeq (mLst (mCons (mc (.str "up")) (mCons (mc (.str "down")) (mCons (mc (.str "far")) (mCons (mc (.str "near")) mNil)))))) (gSet 7) WAY)
abbrev CELL : MStm := (sSeq C0 (sSeq C1 (sSeq C2 (sSeq C3 (sSeq C4 (sSeq C5 (sSeq C6 (sSeq C7 C8))))))))
def RT : MStm := (sRet (mc (.bl true)))
theorem law_eq : m_law = sSeq (sForI IT0 (gSet 1) CELL) RT := rfl
abbrev env0 (ns : List Int) (o1 o2 o3 o4 o5 o6 o7 o8 o9 o10 o11 o12 o13 o14 o15 o16 o17 : Option M) : List (Option M) := [some (.scr ns), o1, o2, o3, o4, o5, o6, o7, o8, o9, o10, o11, o12, o13, o14, o15, o16, o17]
abbrev fmE : ME := (mMk "Formula" F_Formula___init__ (mCons (m2 (oIxD oIx) (mv 3) (mc (.int 0))) (mCons (m2 (oIxD oIx) (mv 3) (mc (.int 1))) mNil)))
abbrev prE : ME := (mFn (mCons (mv 2) (mCons (mFn (mCons (mv 2) (mCons (mLst (mCons (mc (.int 40)) (mCons (mc (.int 9)) (mCons (mc (.int 9)) mNil)))) mNil)) F__law_pick) mNil)) F__law_pairs)
abbrev pkE : ME := (mFn (mCons (mv 2) (mCons (mLst (mCons (mc (.int 40)) (mCons (mc (.int 9)) (mCons (mc (.int 9)) mNil)))) mNil)) F__law_pick)
abbrev shE : ME := (mLst (mCons (mc (.int 0)) (mCons (mIf (mB (m2 (oEqK true (oEqD true)) (m2 (oIxD oIx) (mv 3) (mc (.int 0))) (mc (.int 1)))) (m2 oFdv (m2 (oIxD oIx) (mv 3) (mc (.int 1))) (m2 oSub (mc (.int 1)) (m2 (oIxD oIx) (mv 3) (mc (.int 0))))) (mc (.int 5))) mNil)))
section
variable {hp B : List Cell} {ns : List Int} {i x : Int} {n f : Nat} {t q : Int} {w : Way} {lo hi : Option Int} {o1 o2 o3 o4 o5 o6 o7 o8 o9 o10 o11 o12 o13 o14 o15 o16 o17 : Option M} {env : List (Option M)} {c c' : Cell} {y m : M} {K J : List Int} {ps : List IP}
/-- the keys of a cell -/
structure Ks (K : List Int) : Prop where
  kb : ∀ k ∈ K, KB k
  nd : K.Nodup
  le : K.length ≤ 40
abbrev kept (K : List Int) : Str := (tupD K).shown
theorem c2_at (hc : hp[n]? = some c) (P : IsPen c) (ht : T15 t) (hq : T15 q) : ∃ ps f c' hp', C2 ⟨env0 ns o1 (some (.box n)) (some (.tup [.int t, .int q])) o4 o5 o6 o7 o8 o9 o10 o11 o12 o13 o14 o15 o16 o17, hp⟩ = .ok .nx ⟨env0 ns o1 (some (.box n)) (some (.tup [.int t, .int q])) o4 o5 o6 o7 (some (.box f)) (some (.lst (rm ps))) o10 o11 o12 o13 o14 o15 o16 o17, hp'⟩ ∧ hp'[n]? = some c' ∧ IsPen c' ∧ hp'[f]? = some (fr t q) ∧ f ≠ n ∧ Rows ps := by
  have hn := lt_of hc
  have f1 : fmE ⟨env0 ns o1 (some (.box n)) (some (.tup [.int t, .int q])) o4 o5 o6 o7 o8 o9 o10 o11 o12 o13 o14 o15 o16 o17, hp⟩ = .ok (.box hp.length) ⟨env0 ns o1 (some (.box n)) (some (.tup [.int t, .int q])) o4 o5 o6 o7 o8 o9 o10 o11 o12 o13 o14 o15 o16 o17, hp ++ [fr t q]⟩ := mk_ok (s1 := ⟨env0 ns o1 (some (.box n)) (some (.tup [.int t, .int q])) o4 o5 o6 o7 o8 o9 o10 o11 o12 o13 o14 o15 o16 o17, hp⟩) (mcons_of (m2_of (x := .tup [.int t, .int q]) (y := .int 0) (b := mc (.int 0)) (mv_of rfl) rfl rfl) (mone (m2_of (x := .tup [.int t, .int q]) (y := .int 1) (b := mc (.int 1)) (mv_of rfl) rfl rfl))) (by rw [z15]; exact ht) (by rw [z15]; exact hq)
  have hc1 : (hp ++ [fr t q])[n]? = some c := by rw [List.getElem?_append_left hn]; exact hc
  have hf1 : (hp ++ [fr t q])[hp.length]? = some (fr t q) := List.getElem?_concat_length
  obtain ⟨m, c1, hm, e1, P1⟩ := pick_at (ms := [.int 40, .int 9, .int 9]) hc1 P (by simp) (by simp)
  have hk : ∃ mx : Int, m = .int mx ∧ 0 ≤ mx ∧ mx ≤ 40 := by
    simp only [List.mem_cons, List.not_mem_nil, or_false] at hm
    rcases hm with rfl | rfl | rfl <;> exact ⟨_, rfl, by decide, by decide⟩
  obtain ⟨mx, rfl, m0, m1⟩ := hk
  have hn1 : n < (hp ++ [fr t q]).length := by rw [List.length_append]; omega
  have hc2 : ((hp ++ [fr t q]).set n c1)[n]? = some c1 := List.getElem?_set_self hn1
  obtain ⟨ps, c2, ex, e2, P2, R, _, _, _⟩ := pairs_at m0 m1 hc2 P1
  rw [List.set_set] at e2
  have f2 : pkE ⟨env0 ns o1 (some (.box n)) (some (.tup [.int t, .int q])) o4 o5 o6 o7 o8 o9 o10 o11 o12 o13 o14 o15 o16 o17, hp ++ [fr t q]⟩ = .ok (.int mx) ⟨env0 ns o1 (some (.box n)) (some (.tup [.int t, .int q])) o4 o5 o6 o7 o8 o9 o10 o11 o12 o13 o14 o15 o16 o17, (hp ++ [fr t q]).set n c1⟩ := fnE (F := F__law_pick) (mcons_of (a := mv 2) (mv_of rfl) (mone (x := .lst [.int 40, .int 9, .int 9]) rfl)) e1
  have f3 : prE ⟨env0 ns o1 (some (.box n)) (some (.tup [.int t, .int q])) o4 o5 o6 o7 o8 o9 o10 o11 o12 o13 o14 o15 o16 o17, hp ++ [fr t q]⟩ = .ok (.lst (rm ps)) ⟨env0 ns o1 (some (.box n)) (some (.tup [.int t, .int q])) o4 o5 o6 o7 o8 o9 o10 o11 o12 o13 o14 o15 o16 o17, (hp ++ [fr t q]).set n c2 ++ ex⟩ := fnE (F := F__law_pairs) (mcons_of (a := mv 2) (mv_of rfl) (mone f2)) e2
  refine ⟨ps, hp.length, c2, (hp ++ [fr t q]).set n c2 ++ ex, asg2 (mtup2 f1 f3), ?_, P2, ?_, by omega, R⟩
  · rw [List.getElem?_append_left (by rw [List.length_set]; exact hn1)]
    exact List.getElem?_set_self hn1
  · rw [List.getElem?_append_left (by rw [List.length_set, List.length_append]; simp), List.getElem?_set_ne (by omega)]
    exact hf1
theorem fdiv_sm (hq : T15 q) (d : Int) : -1000000000000001 ≤ q.fdiv d ∧ q.fdiv d ≤ 1000000000000001 := by
  have h1 : (q / d).natAbs ≤ q.natAbs := Int.natAbs_ediv_le_natAbs q d
  have h2 := @Int.fdiv_eq_ediv q d
  unfold T15 at hq
  have h3 : q.fdiv d = q / d ∨ q.fdiv d = q / d - 1 := by
    rw [h2]
    split <;> omega
  omega
abbrev b0T' : MT := (mB (m2 (oEqK true (oEqD true)) (m2 (oIxD oIx) (mv 3) (mc (.int 0))) (mc (.int 1))))
theorem c3_at (hc : hp[n]? = some c) (P : IsPen c) (ht : T15 t) (hq : T15 q) : ∃ x c', C3 ⟨env0 ns o1 (some (.box n)) (some (.tup [.int t, .int q])) o4 o5 o6 o7 o8 o9 o10 o11 o12 o13 o14 o15 o16 o17, hp⟩ = .ok .nx ⟨env0 ns o1 (some (.box n)) (some (.tup [.int t, .int q])) (some (.int x)) o5 o6 o7 o8 o9 o10 o11 o12 o13 o14 o15 o16 o17, hp.set n c'⟩ ∧ IsPen c' ∧ -1000000000000001 ≤ x ∧ x ≤ 1000000000000001 := by
  have hs : ∃ y : Int, shE ⟨env0 ns o1 (some (.box n)) (some (.tup [.int t, .int q])) o4 o5 o6 o7 o8 o9 o10 o11 o12 o13 o14 o15 o16 o17, hp⟩ = .ok (.lst [.int 0, .int y]) ⟨env0 ns o1 (some (.box n)) (some (.tup [.int t, .int q])) o4 o5 o6 o7 o8 o9 o10 o11 o12 o13 o14 o15 o16 o17, hp⟩ ∧ -1000000000000001 ≤ y ∧ y ≤ 1000000000000001 := by
    have g : b0T' ⟨env0 ns o1 (some (.box n)) (some (.tup [.int t, .int q])) o4 o5 o6 o7 o8 o9 o10 o11 o12 o13 o14 o15 o16 o17, hp⟩ = .ok (!(t == 1)) ⟨env0 ns o1 (some (.box n)) (some (.tup [.int t, .int q])) o4 o5 o6 o7 o8 o9 o10 o11 o12 o13 o14 o15 o16 o17, hp⟩ := by rfl
    by_cases h : t = 1
    · rw [show (t == 1) = true from beq_iff_eq.mpr h] at g
      exact ⟨5, mlst_of (mcons_of (a := mc (.int 0)) (x := .int 0) rfl (mone ((Lw.mif_of (q := false) g).trans rfl))) (show 2 ≤ big by decide), by decide, by decide⟩
    · rw [show (t == 1) = false from beq_eq_false_iff_ne.mpr h] at g
      refine ⟨q.fdiv (1 - t), mlst_of (mcons_of (a := mc (.int 0)) (x := .int 0) rfl (mone ((Lw.mif_of (q := true) g).trans ?_))) (show 2 ≤ big by decide), (fdiv_sm hq _).1, (fdiv_sm hq _).2⟩
      rw [if_pos rfl]
      unfold T15 at ht
      exact m2_of (x := .int q) (y := .int (1 - t)) rfl rfl (if_pos (decide_eq_true ⟨by omega, by omega⟩))
  obtain ⟨y, e0, y0, y1⟩ := hs
  obtain ⟨m, c1, hm, e1, P1⟩ := pick_at (ms := [.int 0, .int y]) hc P (by simp) (by simp)
  have f1 := fnE (F := F__law_pick) (env := env0 ns o1 (some (.box n)) (some (.tup [.int t, .int q])) o4 o5 o6 o7 o8 o9 o10 o11 o12 o13 o14 o15 o16 o17) (mcons_of (a := mv 2) (mv_of rfl) (mone e0)) e1
  simp only [List.mem_cons, List.not_mem_nil, or_false] at hm
  rcases hm with rfl | rfl
  · exact ⟨0, c1, set_of (s1 := ⟨env0 ns o1 (some (.box n)) (some (.tup [.int t, .int q])) o4 o5 o6 o7 o8 o9 o10 o11 o12 o13 o14 o15 o16 o17, hp.set n c1⟩) f1, P1, by decide, by decide⟩
  · exact ⟨y, c1, set_of (s1 := ⟨env0 ns o1 (some (.box n)) (some (.tup [.int t, .int q])) o4 o5 o6 o7 o8 o9 o10 o11 o12 o13 o14 o15 o16 o17, hp.set n c1⟩) f1, P1, y0, y1⟩
theorem c4_at (R : Rows ps) (h0 : -1000000000000001 ≤ x) (h1 : x ≤ 1000000000000001) : ∃ K, C4 ⟨env0 ns o1 o2 o3 (some (.int x)) o5 o6 o7 o8 (some (.lst (rm ps))) o10 o11 o12 o13 o14 o15 none none, hp⟩ = .ok .nx ⟨env0 ns o1 o2 o3 (some (.int x)) (some (tupI K)) o6 o7 o8 (some (.lst (rm ps))) o10 o11 o12 o13 o14 o15 none none, hp⟩ ∧ Ks K := by
  have z := mlc_if (vs := [16, 17]) (it := iSeq (mv 9)) (tg := gTupN [16, 17]) (tt := mB (m2 oLt (mCall (mCons (mv 16) mNil) cAbs) (m2 oPow (mc (.int 10)) (mc (.int 29))))) (el := m2 oAdd (mv 16) (mv 4)) (em := pM) (f := fun p : IP => M.int (p.1 + x)) (p := fun p : IP => decide ((if p.1 < 0 then -p.1 else p.1) < 100000000000000000000000000000)) (xs := ps) (s := ⟨env0 ns o1 o2 o3 (some (.int x)) o5 o6 o7 o8 (some (.lst (rm ps))) o10 o11 o12 o13 o14 o15 none none, hp⟩) (s1 := ⟨env0 ns o1 o2 o3 (some (.int x)) o5 o6 o7 o8 (some (.lst (rm ps))) o10 o11 o12 o13 o14 o15 none none, hp⟩) rfl (Nat.le_trans R.le (by decide)) fun p _ =>
    ⟨⟨env0 ns o1 o2 o3 (some (.int x)) o5 o6 o7 o8 (some (.lst (rm ps))) o10 o11 o12 o13 o14 o15 (some (.int p.1)) (some (.int p.2)), hp⟩, env0 ns o1 o2 o3 (some (.int x)) o5 o6 o7 o8 (some (.lst (rm ps))) o10 o11 o12 o13 o14 o15 (some (.int p.1)) (some (.int p.2)), rfl, b_of (m2_of (call_of (o := cAbs) (mone (mv_of rfl)) rfl) (s2 := ⟨env0 ns o1 o2 o3 (some (.int x)) o5 o6 o7 o8 (some (.lst (rm ps))) o10 o11 o12 o13 o14 o15 (some (.int p.1)) (some (.int p.2)), hp⟩) (y := .int 100000000000000000000000000000) (by kernel_rfl) rfl), fun _ => ⟨_, m2_of (mv_of rfl) (mv_of rfl) rfl⟩⟩
  generalize hQ : (ps.filter fun p : IP => decide ((if p.1 < 0 then -p.1 else p.1) < 100000000000000000000000000000)) = Q at z
  have qm : ∀ p ∈ Q, p ∈ ps ∧ (if p.1 < 0 then -p.1 else p.1) < 100000000000000000000000000000 := fun p hp => by
    rw [← hQ] at hp
    exact ⟨(List.mem_filter.mp hp).1, of_decide_eq_true (List.mem_filter.mp hp).2⟩
  refine ⟨Q.map fun p => p.1 + x, set_of (s1 := ⟨env0 ns o1 o2 o3 (some (.int x)) o5 o6 o7 o8 (some (.lst (rm ps))) o10 o11 o12 o13 o14 o15 none none, hp⟩) (call_of (o := cTup) (mone z) ?_), ⟨fun k hk => ?_, ?_, ?_⟩⟩
  · show Res.ok (M.tup (Q.map fun p : IP => M.int (p.1 + x))) _ = Res.ok (M.tup ((Q.map fun p => p.1 + x).map M.int)) _
    rw [List.map_map]
    rfl
  · obtain ⟨p, hp, rfl⟩ := List.mem_map.mp hk
    have := (qm p hp).2
    unfold KB
    rw [z30]
    split at this <;> omega
  · have nd : (keysP Q).Nodup := by
      rw [← hQ]
      exact (List.Sublist.map _ List.filter_sublist).nodup R.nd
    have : (Q.map fun p => p.1 + x) = (keysP Q).map fun k => k + x := by unfold keysP; rw [List.map_map]; rfl
    rw [this]
    exact List.pairwise_map.mpr (nd.imp fun h z => h (by omega))
  · rw [List.length_map, ← hQ]
    exact Nat.le_trans (List.length_filter_le _ _) R.le
theorem Ks.okd (h : Ks K) : Okd (tupD K) 1 5800 := okd_tup ⟨by have := h.le; omega, h.kb⟩
theorem kept_at (h : Ks K) {i : Nat} (hi : env[i]? = some (some (tupI K))) : mCall (mCons (mv i) mNil) (cReprL (cReprK (cReprS cRepr))) ⟨env, hp⟩ = .ok (.str (kept K)) ⟨env, hp⟩ := by
  refine call_of (mone (mv_of hi)) ?_
  have d : datT hp (tupI K) = some (tupD K) := by
    show (datL (K.map M.int)).map PyData.tuple = _
    rw [datL_ints]; rfl
  exact (show cReprL (cReprK (cReprS cRepr)) [tupI K] ⟨env, hp⟩ = cReprS cRepr [tupI K] ⟨env, hp⟩ from rfl).trans ((reprS_seq (s := ⟨env, hp⟩) d rfl).trans (cRepr_seq (s := ⟨env, hp⟩) d rfl h.okd (by decide) (by decide)))
theorem c5_at (h : Ks K) : C5 ⟨env0 ns o1 o2 o3 o4 (some (tupI K)) o6 o7 o8 o9 o10 o11 o12 o13 o14 o15 o16 o17, hp⟩ = .ok .nx ⟨env0 ns o1 o2 o3 o4 (some (tupI K)) (some (.str (kept K))) o7 o8 o9 o10 o11 o12 o13 o14 o15 o16 o17, hp⟩ := set_of (s1 := ⟨env0 ns o1 o2 o3 o4 (some (tupI K)) o6 o7 o8 o9 o10 o11 o12 o13 o14 o15 o16 o17, hp⟩) (kept_at h rfl)
/-! ### one way -/
def dueV (t q : Int) (lo hi : Option Int) (K J : List Int) : M := if Fit t q lo hi K then .tup [.str "returned", dueM t q lo hi K J] else .tup [.str "large"]
theorem v1_at (ht : T15 t) (h : Ks K) : ∃ J hp', V1 ⟨env0 ns o1 o2 (some (.tup [.int t, .int q])) o4 (some (tupI K)) o6 (some (.str (wS w))) o8 o9 o10 o11 (some (oM lo)) (some (oM hi)) o14 o15 o16 o17, hp⟩ = .ok .nx ⟨env0 ns o1 o2 (some (.tup [.int t, .int q])) o4 (some (tupI K)) o6 (some (.str (wS w))) o8 o9 o10 o11 (some (oM lo)) (some (oM hi)) (some (.lst (rm (rw_ t q lo hi (inS lo hi K ++ ouS lo hi K))))) (some (tupI (J ++ ouS lo hi K))) o16 o17, hp'⟩ ∧ Ext hp hp' ∧ J.Perm (inS lo hi K) ∧ J.Pairwise (Bf t q w) := by
  obtain ⟨J, hp1, e1, x1, pJ, wJ⟩ := planned_at (t := t) (q := q) (w := w) (lo := lo) (hi := hi) (hp := hp) ht h.le h.nd
  have f1 := fnE (F := F__law_planned) (env := env0 ns o1 o2 (some (.tup [.int t, .int q])) o4 (some (tupI K)) o6 (some (.str (wS w))) o8 o9 o10 o11 (some (oM lo)) (some (oM hi)) o14 o15 o16 o17) (ma := (mCons (mv 5) (mCons (mv 3) (mCons (mv 7) (mCons (mv 12) (mCons (mv 13) mNil)))))) (mcons_of (mv_of rfl) (mcons_of (mv_of rfl) (mcons_of (mv_of rfl) (mcons_of (mv_of rfl) (mone (mv_of rfl)))))) e1
  exact ⟨J, hp1, asg2 f1, x1, pJ, wJ⟩
theorem v23_at (h : Ks K) {m : MStm} : sSeq V2 (sSeq V3 m) ⟨env0 ns o1 o2 o3 o4 o5 o6 o7 o8 o9 o10 o11 o12 o13 (some (.lst (rm (rw_ t q lo hi (inS lo hi K ++ ouS lo hi K))))) (some (tupI (J ++ ouS lo hi K))) none none, hp⟩ = m ⟨env0 ns o1 o2 o3 o4 o5 o6 o7 o8 o9 (some (dueV t q lo hi K J)) o11 o12 o13 (some (.lst (rm (rw_ t q lo hi (inS lo hi K ++ ouS lo hi K))))) (some (tupI (J ++ ouS lo hi K))) none none, hp⟩ := by
  have so := sort_rows (t := t) (q := q) (lo := lo) (hi := hi) (K := K) h.nd (s := ⟨env0 ns o1 o2 o3 o4 o5 o6 o7 o8 o9 o10 o11 o12 o13 (some (.lst (rm (rw_ t q lo hi (inS lo hi K ++ ouS lo hi K))))) (some (tupI (J ++ ouS lo hi K))) none none, hp⟩)
  have il : (inS lo hi K ++ ouS lo hi K).length ≤ 40 := by rw [(io_perm (lo := lo) (hi := hi) K).length_eq]; exact h.le
  have bT : bigT 14 16 17 ⟨env0 ns o1 o2 o3 o4 o5 o6 o7 o8 o9 (some (.tup [.str "returned", dueM t q lo hi K J])) o11 o12 o13 (some (.lst (rm (rw_ t q lo hi (inS lo hi K ++ ouS lo hi K))))) (some (tupI (J ++ ouS lo hi K))) none none, hp⟩ = .ok (!decide (Fit t q lo hi K)) ⟨env0 ns o1 o2 o3 o4 o5 o6 o7 o8 o9 (some (.tup [.str "returned", dueM t q lo hi K J])) o11 o12 o13 (some (.lst (rm (rw_ t q lo hi (inS lo hi K ++ ouS lo hi K))))) (some (tupI (J ++ ouS lo hi K))) none none, hp⟩ := by
    rw [← big_all]
    have rl : (rw_ t q lo hi (inS lo hi K ++ ouS lo hi K)).length ≤ 1000 := by rw [List.length_map]; omega
    have c1 := mlc_if (vs := [16, 17]) (it := iSeq (mv 14)) (tg := gTupN [16, 17]) (tt := mYes) (el := m2 oLt (mCall (mCons (mv 17) mNil) cAbs) (m2 oPow (mc (.int 10)) (mc (.int 30)))) (em := pM) (f := fun p : IP => M.bl (decide (KB p.2))) (p := fun _ => true) (xs := (rw_ t q lo hi (inS lo hi K ++ ouS lo hi K))) (s := ⟨env0 ns o1 o2 o3 o4 o5 o6 o7 o8 o9 (some (.tup [.str "returned", dueM t q lo hi K J])) o11 o12 o13 (some (.lst (rm (rw_ t q lo hi (inS lo hi K ++ ouS lo hi K))))) (some (tupI (J ++ ouS lo hi K))) none none, hp⟩) (s1 := ⟨env0 ns o1 o2 o3 o4 o5 o6 o7 o8 o9 (some (.tup [.str "returned", dueM t q lo hi K J])) o11 o12 o13 (some (.lst (rm (rw_ t q lo hi (inS lo hi K ++ ouS lo hi K))))) (some (tupI (J ++ ouS lo hi K))) none none, hp⟩) rfl (Nat.le_trans rl (by decide)) fun p _ =>
      ⟨⟨env0 ns o1 o2 o3 o4 o5 o6 o7 o8 o9 (some (.tup [.str "returned", dueM t q lo hi K J])) o11 o12 o13 (some (.lst (rm (rw_ t q lo hi (inS lo hi K ++ ouS lo hi K))))) (some (tupI (J ++ ouS lo hi K))) (some (.int p.1)) (some (.int p.2)), hp⟩, env0 ns o1 o2 o3 o4 o5 o6 o7 o8 o9 (some (.tup [.str "returned", dueM t q lo hi K J])) o11 o12 o13 (some (.lst (rm (rw_ t q lo hi (inS lo hi K ++ ouS lo hi K))))) (some (tupI (J ++ ouS lo hi K))) (some (.int p.1)) (some (.int p.2)), rfl, rfl, fun _ => ⟨_, big_el rfl⟩⟩
    rw [filt_true] at c1
    exact not_of (b_of (call_of (o := cAll false) (mone c1) (all_blsG (neg := false))))
  have s2 : V2 ⟨env0 ns o1 o2 o3 o4 o5 o6 o7 o8 o9 o10 o11 o12 o13 (some (.lst (rm (rw_ t q lo hi (inS lo hi K ++ ouS lo hi K))))) (some (tupI (J ++ ouS lo hi K))) none none, hp⟩ = .ok .nx ⟨env0 ns o1 o2 o3 o4 o5 o6 o7 o8 o9 (some (.tup [.str "returned", dueM t q lo hi K J])) o11 o12 o13 (some (.lst (rm (rw_ t q lo hi (inS lo hi K ++ ouS lo hi K))))) (some (tupI (J ++ ouS lo hi K))) none none, hp⟩ := set_of (s1 := ⟨env0 ns o1 o2 o3 o4 o5 o6 o7 o8 o9 o10 o11 o12 o13 (some (.lst (rm (rw_ t q lo hi (inS lo hi K ++ ouS lo hi K))))) (some (tupI (J ++ ouS lo hi K))) none none, hp⟩) (mtup2 (x := .str "returned") rfl (mtup2 (call_of (o := cTup) (mone (call_of (mone (mv_of rfl)) so)) rfl) (mv_of rfl)))
  have s3 : V3 ⟨env0 ns o1 o2 o3 o4 o5 o6 o7 o8 o9 (some (.tup [.str "returned", dueM t q lo hi K J])) o11 o12 o13 (some (.lst (rm (rw_ t q lo hi (inS lo hi K ++ ouS lo hi K))))) (some (tupI (J ++ ouS lo hi K))) none none, hp⟩ = .ok .nx ⟨env0 ns o1 o2 o3 o4 o5 o6 o7 o8 o9 (some (dueV t q lo hi K J)) o11 o12 o13 (some (.lst (rm (rw_ t q lo hi (inS lo hi K ++ ouS lo hi K))))) (some (tupI (J ++ ouS lo hi K))) none none, hp⟩ := by
    by_cases ft : Fit t q lo hi K
    · rw [decide_eq_true ft] at bT
      rw [show dueV t q lo hi K J = _ from if_pos ft]
      exact (if_of (k := false) bT).trans rfl
    · rw [decide_eq_false ft] at bT
      rw [show dueV t q lo hi K J = _ from if_neg ft]
      exact (if_of (k := true) bT).trans rfl
  exact (seq_nx s2).trans (seq_nx s3)
theorem same_due (h : Ks K) (pJ : J.Perm (inS lo hi K)) : F__law_same [dueV t q lo hi K J, dueV t q lo hi K J] hp = .ok (.bl true) hp := by
  by_cases ft : Fit t q lo hi K
  · rw [show dueV t q lo hi K J = _ from if_pos ft]
    have R := rows_of h.kb h.nd h.le ft
    have po : (J ++ ouS lo hi K).Perm K := (pJ.append_right _).trans (io_perm K)
    have o1 := okd_rows (T := rw_ t q lo hi (srI K)) R.kp R.le
    have o2 := okd_tup (l := J ++ ouS lo hi K) ⟨by rw [po.length_eq]; have := h.le; omega, fun k hk => h.kb k (po.mem_iff.mp hk)⟩
    have o3 : Okd (.tuple [.tuple ((rw_ t q lo hi (srI K)).map dP), tupD (J ++ ouS lo hi K)]) 3 17200 := Okd.tuple ((Oks.cons o1 (Oks.cons (o2.le (by decide) (Nat.le_refl _)) (Oks.nil (w := 0)))).le (Nat.le_refl _) (by decide))
    have o4 : Okd (.tuple [.str "returned", .tuple [.tuple ((rw_ t q lo hi (srI K)).map dP), tupD (J ++ ouS lo hi K)]]) 4 17300 := Okd.tuple ((Oks.cons ((Okd.str (x := "returned") (lowS_of (by decide +kernel))).le (by decide) (show _ ≤ 20 by decide +kernel)) (Oks.cons o3 (Oks.nil (w := 0)))).le (Nat.le_refl _) (by decide))
    have d : datT hp (.tup [.str "returned", dueM t q lo hi K J]) = some (.tuple [.str "returned", .tuple [.tuple ((rw_ t q lo hi (srI K)).map dP), tupD (J ++ ouS lo hi K)]]) := by
      have d1 : dat (.tup (rm (rw_ t q lo hi (srI K)))) = some (.tuple ((rw_ t q lo hi (srI K)).map dP)) := by
        show (datL (rm (rw_ t q lo hi (srI K)))).map PyData.tuple = _
        rw [datL_rm]; rfl
      have d2 : dat (tupI (J ++ ouS lo hi K)) = some (tupD (J ++ ouS lo hi K)) := by
        show (datL ((J ++ ouS lo hi K).map M.int)).map PyData.tuple = _
        rw [datL_ints]; rfl
      have d3 : dat (dueM t q lo hi K J) = some (.tuple [.tuple ((rw_ t q lo hi (srI K)).map dP), tupD (J ++ ouS lo hi K)]) := by
        show (datL [.tup (rm (rw_ t q lo hi (srI K))), tupI (J ++ ouS lo hi K)]).map PyData.tuple = _
        simp only [datL, d1, d2]
        rfl
      show (datL [.str "returned", dueM t q lo hi K J]).map PyData.tuple = _
      simp only [datL, d3]
      rfl
    exact same_okd d d rfl o4 (by decide) (by decide)
  · rw [show dueV t q lo hi K J = _ from if_neg ft]
    kernel_rfl
theorem v4_at (hf : hp[f]? = some (fr t q)) (ht : T15 t) (h1 : SmO lo) (h2 : SmO hi) (h : Ks K) (pJ : J.Perm (inS lo hi K)) (wJ : J.Pairwise (Bf t q w)) : ∃ hp', V4B ⟨env0 ns o1 o2 o3 o4 (some (tupI K)) o6 (some (.str (wS w))) (some (.box f)) o9 (some (dueV t q lo hi K J)) o11 (some (oM lo)) (some (oM hi)) o14 o15 o16 o17, hp⟩ = .ok .nx ⟨env0 ns o1 o2 o3 o4 (some (tupI K)) o6 (some (.str (wS w))) (some (.box f)) o9 (some (dueV t q lo hi K J)) o11 (some (oM lo)) (some (oM hi)) o14 o15 o16 o17, hp'⟩ ∧ Ext hp hp' := by
  by_cases ft : Fit t q lo hi K
  · obtain ⟨hp', e, x⟩ := told_ok (w := w) hf ht h1 h2 h.kb h.nd h.le ft pJ wJ
    have v := said_ok (v := saidX WS) (fnE (F := F__law_told) (env := env0 ns o1 o2 o3 o4 (some (tupI K)) o6 (some (.str (wS w))) (some (.box f)) o9 (some (dueV t q lo hi K J)) o11 (some (oM lo)) (some (oM hi)) o14 o15 o16 o17) (mcons_of (a := mv 5) (mv_of rfl) (mcons_of (a := mv 8) (mv_of rfl) (mcons_of (a := mv 7) (mv_of rfl) (mcons_of (a := mv 12) (mv_of rfl) (mone (a := mv 13) (mv_of rfl)))))) e)
    rw [← show dueV t q lo hi K J = _ from if_pos ft] at v
    exact ⟨hp', (if_of (k := false) (not_of (b := true) (b_of (fnE (F := F__law_same) (mcons_of v (mone (a := mv 10) (mv_of rfl))) (same_due h pJ))))).trans rfl, x⟩
  · have v := said_err (v := saidX WS) (fn_errE (F := F__law_told) (env := env0 ns o1 o2 o3 o4 (some (tupI K)) o6 (some (.str (wS w))) (some (.box f)) o9 (some (dueV t q lo hi K J)) o11 (some (oM lo)) (some (oM hi)) o14 o15 o16 o17) (mcons_of (a := mv 5) (mv_of rfl) (mcons_of (a := mv 8) (mv_of rfl) (mcons_of (a := mv 7) (mv_of rfl) (mcons_of (a := mv 12) (mv_of rfl) (mone (a := mv 13) (mv_of rfl)))))) (told_no (w := w) hf ht h1 h2 h.kb h.nd h.le ft)) sa_large
    rw [← show dueV t q lo hi K J = _ from if_neg ft] at v
    exact ⟨hp, (if_of (k := false) (not_of (b := true) (b_of (fnE (F := F__law_same) (mcons_of v (mone (a := mv 10) (mv_of rfl))) (same_due h pJ))))).trans rfl, Ext.refl _⟩
theorem way_at (hc : hp[n]? = some c) (P : IsPen c) (hf : hp[f]? = some (fr t q)) (ne : f ≠ n) (ht : T15 t) (hq : T15 q) (h : Ks K) :
    ∃ p10 p11 p12 p13 p14 p15 c' hp', WAY ⟨env0 ns o1 (some (.box n)) (some (.tup [.int t, .int q])) o4 (some (tupI K)) o6 (some (.str (wS w))) (some (.box f)) o9 o10 o11 o12 o13 o14 o15 none none, hp⟩ = .ok .nx ⟨env0 ns o1 (some (.box n)) (some (.tup [.int t, .int q])) o4 (some (tupI K)) o6 (some (.str (wS w))) (some (.box f)) o9 p10 p11 p12 p13 p14 p15 none none, hp'⟩ ∧ hp'[n]? = some c' ∧ IsPen c' ∧ hp'[f]? = some (fr t q) := by
  have hn := lt_of hc
  obtain ⟨lo, hi, c', ex, e2, P', s1, s2⟩ := bounds_at hc P ht hq
  have f0 := fnE (F := F__law_bounds) (env := env0 ns o1 (some (.box n)) (some (.tup [.int t, .int q])) o4 (some (tupI K)) o6 (some (.str (wS w))) (some (.box f)) o9 o10 o11 o12 o13 o14 o15 none none) (mcons_of (a := mv 2) (mv_of rfl) (mone (a := mv 3) (mv_of rfl))) e2
  have s0 : V0 ⟨env0 ns o1 (some (.box n)) (some (.tup [.int t, .int q])) o4 (some (tupI K)) o6 (some (.str (wS w))) (some (.box f)) o9 o10 o11 o12 o13 o14 o15 none none, hp⟩ = .ok .nx ⟨env0 ns o1 (some (.box n)) (some (.tup [.int t, .int q])) o4 (some (tupI K)) o6 (some (.str (wS w))) (some (.box f)) o9 o10 o11 (some (oM lo)) (some (oM hi)) o14 o15 none none, hp.set n c' ++ ex⟩ := asg2 f0
  have hc1 : (hp.set n c' ++ ex)[n]? = some c' := by rw [List.getElem?_append_left (by rw [List.length_set]; exact hn)]; exact List.getElem?_set_self hn
  have hf1 : (hp.set n c' ++ ex)[f]? = some (fr t q) := by rw [List.getElem?_append_left (by rw [List.length_set]; exact lt_of hf), List.getElem?_set_ne (fun z => ne z.symm)]; exact hf
  generalize hp.set n c' ++ ex = hp1 at s0 hc1 hf1
  obtain ⟨J, hp2, sv1, x2, pJ, wJ⟩ := v1_at (ns := ns) (w := w) (lo := lo) (hi := hi) (q := q) (hp := hp1) (o1 := o1) (o2 := some (.box n)) (o4 := o4) (o6 := o6) (o8 := some (.box f)) (o9 := o9) (o10 := o10) (o11 := o11) (o14 := o14) (o15 := o15) (o16 := none) (o17 := none) ht h
  obtain ⟨hp3, e3, x3⟩ := v4_at (ns := ns) (w := w) (o1 := o1) (o2 := some (.box n)) (o3 := some (.tup [.int t, .int q])) (o4 := o4) (o6 := o6) (o9 := o9) (o14 := some (.lst (rm (rw_ t q lo hi (inS lo hi K ++ ouS lo hi K))))) (o15 := some (tupI (J ++ ouS lo hi K))) (o16 := none) (o17 := none) (o11 := some (.int 0)) (x2 _ _ hf1) ht s1 s2 h pJ wJ
  obtain ⟨hp4, e4, x4⟩ := v4_at (ns := ns) (w := w) (o1 := o1) (o2 := some (.box n)) (o3 := some (.tup [.int t, .int q])) (o4 := o4) (o6 := o6) (o9 := o9) (o14 := some (.lst (rm (rw_ t q lo hi (inS lo hi K ++ ouS lo hi K))))) (o15 := some (tupI (J ++ ouS lo hi K))) (o16 := none) (o17 := none) (o11 := some (.int 1)) (x3 _ _ (x2 _ _ hf1)) ht s1 s2 h pJ wJ
  have s4 : V4 ⟨env0 ns o1 (some (.box n)) (some (.tup [.int t, .int q])) o4 (some (tupI K)) o6 (some (.str (wS w))) (some (.box f)) o9 (some (dueV t q lo hi K J)) o11 (some (oM lo)) (some (oM hi)) (some (.lst (rm (rw_ t q lo hi (inS lo hi K ++ ouS lo hi K))))) (some (tupI (J ++ ouS lo hi K))) none none, hp2⟩ = .ok .nx ⟨env0 ns o1 (some (.box n)) (some (.tup [.int t, .int q])) o4 (some (tupI K)) o6 (some (.str (wS w))) (some (.box f)) o9 (some (dueV t q lo hi K J)) (some (.int 1)) (some (oM lo)) (some (oM hi)) (some (.lst (rm (rw_ t q lo hi (inS lo hi K ++ ouS lo hi K))))) (some (tupI (J ++ ouS lo hi K))) none none, hp4⟩ := by
    refine for_of (xs := [M.int 0, M.int 1]) (s1 := ⟨env0 ns o1 (some (.box n)) (some (.tup [.int t, .int q])) o4 (some (tupI K)) o6 (some (.str (wS w))) (some (.box f)) o9 (some (dueV t q lo hi K J)) o11 (some (oM lo)) (some (oM hi)) (some (.lst (rm (rw_ t q lo hi (inS lo hi K ++ ouS lo hi K))))) (some (tupI (J ++ ouS lo hi K))) none none, hp2⟩) rfl ?_
    exact (for_nx1 (tg := gSet 11) (s1 := ⟨env0 ns o1 (some (.box n)) (some (.tup [.int t, .int q])) o4 (some (tupI K)) o6 (some (.str (wS w))) (some (.box f)) o9 (some (dueV t q lo hi K J)) (some (.int 0)) (some (oM lo)) (some (oM hi)) (some (.lst (rm (rw_ t q lo hi (inS lo hi K ++ ouS lo hi K))))) (some (tupI (J ++ ouS lo hi K))) none none, hp2⟩) rfl e3).trans ((for_nx1 (tg := gSet 11) (s1 := ⟨env0 ns o1 (some (.box n)) (some (.tup [.int t, .int q])) o4 (some (tupI K)) o6 (some (.str (wS w))) (some (.box f)) o9 (some (dueV t q lo hi K J)) (some (.int 1)) (some (oM lo)) (some (oM hi)) (some (.lst (rm (rw_ t q lo hi (inS lo hi K ++ ouS lo hi K))))) (some (tupI (J ++ ouS lo hi K))) none none, hp3⟩) rfl e4).trans rfl)
  exact ⟨_, _, _, _, _, _, c', hp4, (seq_nx s0).trans ((seq_nx sv1).trans ((v23_at (ns := ns) (o1 := o1) (o2 := some (.box n)) (o3 := some (.tup [.int t, .int q])) (o4 := o4) (o5 := some (tupI K)) (o6 := o6) (o7 := some (.str (wS w))) (o8 := some (.box f)) (o9 := o9) (o11 := o11) (o12 := some (oM lo)) (o13 := some (oM hi)) (o10 := o10) h).trans s4)), x4 _ _ (x3 _ _ (x2 _ _ hc1)), P', x4 _ _ (x3 _ _ (x2 _ _ hf1))⟩
theorem ways_at (ht : T15 t) (hq : T15 q) (ne : f ≠ n) (h : Ks K) : ∀ (ws : List Way) {hp : List Cell} {c : Cell} {o7 o10 o11 o12 o13 o14 o15 : Option M}, hp[n]? = some c → IsPen c → hp[f]? = some (fr t q) → ∃ p7 p10 p11 p12 p13 p14 p15 c' hp', sFor (gSet 7) WAY (ws.map fun w => .str (wS w)) ⟨env0 ns o1 (some (.box n)) (some (.tup [.int t, .int q])) o4 (some (tupI K)) o6 o7 (some (.box f)) o9 o10 o11 o12 o13 o14 o15 none none, hp⟩ = .ok .nx ⟨env0 ns o1 (some (.box n)) (some (.tup [.int t, .int q])) o4 (some (tupI K)) o6 p7 (some (.box f)) o9 p10 p11 p12 p13 p14 p15 none none, hp'⟩ ∧ hp'[n]? = some c' ∧ IsPen c' ∧ hp'[f]? = some (fr t q)
  | [], hp, c, o7, o10, o11, o12, o13, o14, o15, hc, P, hf => ⟨o7, o10, o11, o12, o13, o14, o15, c, hp, rfl, hc, P, hf⟩
  | w :: ws, hp, c, o7, o10, o11, o12, o13, o14, o15, hc, P, hf => by
    obtain ⟨q10, q11, q12, q13, q14, q15, c1, hp1, e1, hc1, P1, hf1⟩ := way_at (ns := ns) (w := w) (o1 := o1) (o4 := o4) (o6 := o6) (o9 := o9) (o10 := o10) (o11 := o11) (o12 := o12) (o13 := o13) (o14 := o14) (o15 := o15) hc P hf ne ht hq h
    obtain ⟨p7, p10, p11, p12, p13, p14, p15, c2, hp2, e2, r⟩ := ways_at ht hq ne h ws (hp := hp1) (o7 := some (.str (wS w))) (o10 := q10) (o11 := q11) (o12 := q12) (o13 := q13) (o14 := q14) (o15 := q15) hc1 P1 hf1
    exact ⟨p7, p10, p11, p12, p13, p14, p15, c2, hp2, (for_nx1 (s1 := ⟨env0 ns o1 (some (.box n)) (some (.tup [.int t, .int q])) o4 (some (tupI K)) o6 (some (.str (wS w))) (some (.box f)) o9 o10 o11 o12 o13 o14 o15 none none, hp⟩) rfl e1).trans e2, r⟩
theorem c6_at (ht : T15 t) (hq : T15 q) (ne : f ≠ n) (h : Ks K) (hc : hp[n]? = some c) (P : IsPen c) (hf : hp[f]? = some (fr t q)) : ∃ p7 p10 p11 p12 p13 p14 p15 c' hp', C6 ⟨env0 ns o1 (some (.box n)) (some (.tup [.int t, .int q])) o4 (some (tupI K)) o6 o7 (some (.box f)) o9 o10 o11 o12 o13 o14 o15 none none, hp⟩ = .ok .nx ⟨env0 ns o1 (some (.box n)) (some (.tup [.int t, .int q])) o4 (some (tupI K)) o6 p7 (some (.box f)) o9 p10 p11 p12 p13 p14 p15 none none, hp'⟩ ∧ hp'[n]? = some c' ∧ IsPen c' ∧ hp'[f]? = some (fr t q) := by
  obtain ⟨p7, p10, p11, p12, p13, p14, p15, c2, hp2, e2, r⟩ := ways_at (ns := ns) (o1 := o1) (o4 := o4) (o6 := o6) (o9 := o9) ht hq ne h [.up, .down, .far, .near] hc P hf
  exact ⟨p7, p10, p11, p12, p13, p14, p15, c2, hp2, for_of (s1 := ⟨env0 ns o1 (some (.box n)) (some (.tup [.int t, .int q])) o4 (some (tupI K)) o6 o7 (some (.box f)) o9 o10 o11 o12 o13 o14 o15 none none, hp⟩) rfl e2, r⟩
theorem ne_str {z : Str} {s : MS} (h : lowS z) : oEqK true (oEqD true) (.str z) (.str z) s = .ok (.bl false) s := by
  show oEqD true (.str z) (.str z) _ = _
  rw [oEqD_str h h]
  simp
theorem c7_at (hf : hp[f]? = some (fr t q)) (ht : T15 t) (h : Ks K) : ∃ hp', C7 ⟨env0 ns o1 o2 (some (.tup [.int t, .int q])) o4 (some (tupI K)) (some (.str (kept K))) o7 (some (.box f)) o9 o10 o11 o12 o13 o14 o15 o16 o17, hp⟩ = .ok .nx ⟨env0 ns o1 o2 (some (.tup [.int t, .int q])) o4 (some (tupI K)) (some (.str (kept K))) o7 (some (.box f)) o9 o10 o11 o12 o13 o14 o15 o16 o17, hp'⟩ ∧ Ext hp hp' := by
  obtain ⟨hp', e, x⟩ := defaults_at hf ht h.kb h.nd h.le
  have a := not_of (b_of (fnE (F := F__law_defaults_right) (env := env0 ns o1 o2 (some (.tup [.int t, .int q])) o4 (some (tupI K)) (some (.str (kept K))) o7 (some (.box f)) o9 o10 o11 o12 o13 o14 o15 o16 o17) (mcons_of (a := mv 5) (mv_of rfl) (mcons_of (a := mv 8) (mv_of rfl) (mone (a := mv 3) (mv_of rfl)))) e))
  have b := b_of (m2_of (o := oEqK true (oEqD true)) (kept_at h (env := env0 ns o1 o2 (some (.tup [.int t, .int q])) o4 (some (tupI K)) (some (.str (kept K))) o7 (some (.box f)) o9 o10 o11 o12 o13 o14 o15 o16 o17) (i := 5) (hp := hp') rfl) (b := mv 6) (mv_of rfl) (ne_str h.okd.low))
  exact ⟨hp', (if_of (k := false) ((or_f a).trans b)).trans rfl, x⟩
theorem okd_15 {t : Int} (h : T15 t) : Okd (.int t) 0 140 := Okd.int (by
  unfold T15 at h
  have z : (10 : Nat) ^ 40 = 10000000000000000000000000000000000000000 := by decide
  rw [z]
  omega)
theorem c8_at (hf : hp[f]? = some (fr t q)) (ht : T15 t) (hq : T15 q) : C8 ⟨env0 ns o1 o2 (some (.tup [.int t, .int q])) o4 o5 o6 o7 (some (.box f)) o9 o10 o11 o12 o13 o14 o15 o16 o17, hp⟩ = .ok .nx ⟨env0 ns o1 o2 (some (.tup [.int t, .int q])) o4 o5 o6 o7 (some (.box f)) o9 o10 o11 o12 o13 o14 o15 o16 o17, hp⟩ := by
  have a : mLst (mCons (mAt (mv 8) (oPrp "Formula" F_Formula_times (fun _ _ => .stuck))) (mCons (mAt (mv 8) (oPrp "Formula" F_Formula_plus (fun _ _ => .stuck))) mNil)) ⟨env0 ns o1 o2 (some (.tup [.int t, .int q])) o4 o5 o6 o7 (some (.box f)) o9 o10 o11 o12 o13 o14 o15 o16 o17, hp⟩ = .ok (.lst [.int t, .int q]) ⟨env0 ns o1 o2 (some (.tup [.int t, .int q])) o4 o5 o6 o7 (some (.box f)) o9 o10 o11 o12 o13 o14 o15 o16 o17, hp⟩ :=
    mlst_of (mcons_of ((Ma.at_of (mv_of rfl)).trans (prp_t hf)) (mone ((Ma.at_of (mv_of rfl)).trans (prp_p hf)))) (show 2 ≤ big by decide)
  have b : mCall (mCons (mv 3) mNil) cList ⟨env0 ns o1 o2 (some (.tup [.int t, .int q])) o4 o5 o6 o7 (some (.box f)) o9 o10 o11 o12 o13 o14 o15 o16 o17, hp⟩ = .ok (.lst [.int t, .int q]) ⟨env0 ns o1 o2 (some (.tup [.int t, .int q])) o4 o5 o6 o7 (some (.box f)) o9 o10 o11 o12 o13 o14 o15 o16 o17, hp⟩ := call_of (o := cList) (mone (mv_of (m := .tup [.int t, .int q]) rfl)) rfl
  exact (if_of (k := false) (not_of (b := true) (b_of (fnE (F := F__law_same) (hp1 := hp) (mcons_of a (mone b)) (same_okd (d := .list [.int t, .int q]) rfl rfl rfl (Okd.list (Oks.cons (okd_15 ht) (Oks.cons (okd_15 hq) (Oks.nil (w := 0))))) (by decide) (by decide)))))).trans rfl
theorem cell_nx : ∃ p2 p3 p4 p5 p6 p7 p8 p9 p10 p11 p12 p13 p14 p15 hp', CELL ⟨env0 ns (some (.int i)) o2 o3 o4 o5 o6 o7 o8 o9 o10 o11 o12 o13 o14 o15 none none, hp⟩ = .ok .nx ⟨env0 ns (some (.int i)) p2 p3 p4 p5 p6 p7 p8 p9 p10 p11 p12 p13 p14 p15 none none, hp'⟩ := by
  have s0 : C0 ⟨env0 ns (some (.int i)) o2 o3 o4 o5 o6 o7 o8 o9 o10 o11 o12 o13 o14 o15 none none, hp⟩ = .ok .nx ⟨env0 ns (some (.int i)) (some (.box hp.length)) o3 o4 o5 o6 o7 o8 o9 o10 o11 o12 o13 o14 o15 none none, hp ++ [pen (if i - 10 ^ 18 > 0 then i - 10 ^ 18 else 0) (i % 2147483629) 1]⟩ := set_of (s1 := ⟨env0 ns (some (.int i)) o2 o3 o4 o5 o6 o7 o8 o9 o10 o11 o12 o13 o14 o15 none none, hp ++ [pen (if i - 10 ^ 18 > 0 then i - 10 ^ 18 else 0) (i % 2147483629) 1]⟩) (fnE (F := F__law_pen) (mone (a := mv 1) (mv_of rfl)) pen_at)
  have hc : (hp ++ [pen (if i - 10 ^ 18 > 0 then i - 10 ^ 18 else 0) (i % 2147483629) 1])[hp.length]? = some (pen (if i - 10 ^ 18 > 0 then i - 10 ^ 18 else 0) (i % 2147483629) 1) := by simp
  have P := pen_of i
  generalize pen (if i - 10 ^ 18 > 0 then i - 10 ^ 18 else 0) (i % 2147483629) 1 = c at hc P s0
  generalize hn : hp.length = n at s0 hc
  generalize hp ++ [c] = A at s0 hc
  obtain ⟨t, q, c1, e1, ht, hq, P1⟩ := numbers_at hc P
  rw [z15] at ht hq
  have s1 : C1 ⟨env0 ns (some (.int i)) (some (.box n)) o3 o4 o5 o6 o7 o8 o9 o10 o11 o12 o13 o14 o15 none none, A⟩ = .ok .nx ⟨env0 ns (some (.int i)) (some (.box n)) (some (.tup [.int t, .int q])) o4 o5 o6 o7 o8 o9 o10 o11 o12 o13 o14 o15 none none, A.set n c1⟩ := set_of (s1 := ⟨env0 ns (some (.int i)) (some (.box n)) o3 o4 o5 o6 o7 o8 o9 o10 o11 o12 o13 o14 o15 none none, A.set n c1⟩) (fnE (F := F__law_numbers) (mone (a := mv 2) (mv_of rfl)) e1)
  have hc1 : (A.set n c1)[n]? = some c1 := List.getElem?_set_self (lt_of hc)
  generalize A.set n c1 = A1 at s1 hc1
  obtain ⟨ps, f, c2, A2, s2, hc2, P2, hf2, ne, R⟩ := c2_at (ns := ns) (o1 := some (.int i)) (o4 := o4) (o5 := o5) (o6 := o6) (o7 := o7) (o10 := o10) (o11 := o11) (o12 := o12) (o13 := o13) (o14 := o14) (o15 := o15) (o16 := none) (o17 := none) (o8 := o8) (o9 := o9) hc1 P1 ht hq
  obtain ⟨x, c3, s3, P3, x0, x1⟩ := c3_at (ns := ns) (o1 := some (.int i)) (o5 := o5) (o6 := o6) (o7 := o7) (o8 := some (.box f)) (o9 := some (.lst (rm ps))) (o10 := o10) (o11 := o11) (o12 := o12) (o13 := o13) (o14 := o14) (o15 := o15) (o16 := none) (o17 := none) (o4 := o4) hc2 P2 ht hq
  have hc3 : (A2.set n c3)[n]? = some c3 := List.getElem?_set_self (lt_of hc2)
  have hf3 : (A2.set n c3)[f]? = some (fr t q) := by rw [List.getElem?_set_ne (fun z => ne z.symm)]; exact hf2
  generalize A2.set n c3 = A3 at s3 hc3 hf3
  obtain ⟨K, s4, h⟩ := c4_at (ns := ns) (hp := A3) (o1 := some (.int i)) (o2 := some (.box n)) (o3 := some (.tup [.int t, .int q])) (o6 := o6) (o7 := o7) (o8 := some (.box f)) (o10 := o10) (o11 := o11) (o12 := o12) (o13 := o13) (o14 := o14) (o15 := o15) (o5 := o5) R x0 x1
  have s5 := c5_at (ns := ns) (hp := A3) (o1 := some (.int i)) (o2 := some (.box n)) (o3 := some (.tup [.int t, .int q])) (o4 := some (.int x)) (o7 := o7) (o8 := some (.box f)) (o9 := some (.lst (rm ps))) (o10 := o10) (o11 := o11) (o12 := o12) (o13 := o13) (o14 := o14) (o15 := o15) (o16 := none) (o17 := none) (o6 := o6) h
  obtain ⟨p7, p10, p11, p12, p13, p14, p15, c6, A6, s6, hc6, P6, hf6⟩ := c6_at (ns := ns) (o1 := some (.int i)) (o4 := some (.int x)) (o6 := some (.str (kept K))) (o7 := o7) (o9 := some (.lst (rm ps))) (o10 := o10) (o11 := o11) (o12 := o12) (o13 := o13) (o14 := o14) (o15 := o15) ht hq ne h hc3 P3 hf3
  obtain ⟨A7, s7, x7⟩ := c7_at (ns := ns) (o1 := some (.int i)) (o2 := some (.box n)) (o4 := some (.int x)) (o7 := p7) (o9 := some (.lst (rm ps))) (o10 := p10) (o11 := p11) (o12 := p12) (o13 := p13) (o14 := p14) (o15 := p15) (o16 := none) (o17 := none) hf6 ht h
  have s8 := c8_at (ns := ns) (o1 := some (.int i)) (o2 := some (.box n)) (o4 := some (.int x)) (o5 := some (tupI K)) (o6 := some (.str (kept K))) (o7 := p7) (o9 := some (.lst (rm ps))) (o10 := p10) (o11 := p11) (o12 := p12) (o13 := p13) (o14 := p14) (o15 := p15) (o16 := none) (o17 := none) (x7 _ _ hf6) ht hq
  exact ⟨_, _, _, _, _, _, _, _, _, _, _, _, _, _, A7, (seq_nx s0).trans ((seq_nx s1).trans ((seq_nx s2).trans ((seq_nx s3).trans ((seq_nx s4).trans ((seq_nx s5).trans ((seq_nx s6).trans ((seq_nx s7).trans s8)))))))⟩
theorem cells_at : ∀ (is : List Int) {hp : List Cell} {o1 o2 o3 o4 o5 o6 o7 o8 o9 o10 o11 o12 o13 o14 o15 : Option M}, ∃ p1 p2 p3 p4 p5 p6 p7 p8 p9 p10 p11 p12 p13 p14 p15 hp', sFor (gSet 1) CELL (is.map M.int) ⟨env0 ns o1 o2 o3 o4 o5 o6 o7 o8 o9 o10 o11 o12 o13 o14 o15 none none, hp⟩ = .ok .nx ⟨env0 ns p1 p2 p3 p4 p5 p6 p7 p8 p9 p10 p11 p12 p13 p14 p15 none none, hp'⟩
  | [], hp, o1, o2, o3, o4, o5, o6, o7, o8, o9, o10, o11, o12, o13, o14, o15 => ⟨o1, o2, o3, o4, o5, o6, o7, o8, o9, o10, o11, o12, o13, o14, o15, hp, rfl⟩
  | i :: is, hp, o1, o2, o3, o4, o5, o6, o7, o8, o9, o10, o11, o12, o13, o14, o15 => by
    obtain ⟨q2, q3, q4, q5, q6, q7, q8, q9, q10, q11, q12, q13, q14, q15, hp1, e1⟩ := cell_nx (ns := ns) (i := i) (hp := hp) (o2 := o2) (o3 := o3) (o4 := o4) (o5 := o5) (o6 := o6) (o7 := o7) (o8 := o8) (o9 := o9) (o10 := o10) (o11 := o11) (o12 := o12) (o13 := o13) (o14 := o14) (o15 := o15)
    obtain ⟨p1, p2, p3, p4, p5, p6, p7, p8, p9, p10, p11, p12, p13, p14, p15, hp2, e2⟩ := cells_at is (hp := hp1) (o1 := some (.int i)) (o2 := q2) (o3 := q3) (o4 := q4) (o5 := q5) (o6 := q6) (o7 := q7) (o8 := q8) (o9 := q9) (o10 := q10) (o11 := q11) (o12 := q12) (o13 := q13) (o14 := q14) (o15 := q15)
    exact ⟨p1, p2, p3, p4, p5, p6, p7, p8, p9, p10, p11, p12, p13, p14, p15, hp2, (for_nx1 (s1 := ⟨env0 ns (some (.int i)) o2 o3 o4 o5 o6 o7 o8 o9 o10 o11 o12 o13 o14 o15 none none, hp⟩) rfl e1).trans e2⟩
end
theorem cell_at (ns : List Int) (hp : List Cell) : ∃ i : Int, F__law_cell_at [.scr ns, .int 0] hp = .ok (.int i) hp := by
  cases ns with
  | nil => exact ⟨0, by kernel_rfl⟩
  | cons i r =>
    refine ⟨i, ?_⟩
    simp [F__law_cell_at, m__law_cell_at, posF, bodyF, starF, sSeq, sIf, sSet, sRet, sNx, sAsg, sExpr, sForI, sPut, fPut, putFM, Ma.gSub, gSet, fSetL, fSetD, fSetI, dictL, dictOf, oIxD, m2, mv, mc, mB, isB, mNot, mAnd, mOr, mAndV, mNotV, mCons, mNil, mCall, mFn, upF, mLst, mTup, mFld, oFld, fldM, cInt, cLenD, cLen, cMax, oIx, seqL, lstOf, itemsOf, oInt, oGt, oLt, oAdd, oSub, oMul, oDivW, oMod, yes, Res.bind, atI, ixN, mYes, mAt, oPrp, isIns, noErr, mItems, iSeq, mChain, mNeg, oInD, oEqK, oEqD, datT, dat, datL, big, upP, pBl, pNot, pNat, pTru, cDun, oDunR, oDunC, oDunN, oDun, tin, tyAt, oDunBs, oDunRf, oMulL, cMin, oInL, oIsN, Ma.isNon, gUnpN, gTupN, setM]
theorem it0_at {ns : List Int} (hl : ns.length ≤ 63) {hp : List Cell} : ∃ is : List Int, IT0 ⟨env0 ns none none none none none none none none none none none none none none none none none, hp⟩ = .ok (is.map M.int) ⟨env0 ns none none none none none none none none none none none none none none none none none, hp⟩ := by
  obtain ⟨q, e0⟩ := cell_at ns hp
  have ec : cutM (ns.map M.int) (some 1) (some 3) = ((ns.drop (HT.sIx (ns.map M.int).length 0 (some 1))).take (HT.sIx (ns.map M.int).length (ns.map M.int).length (some 3) - HT.sIx (ns.map M.int).length 0 (some 1))).map M.int := by
    unfold cutM; rw [List.map_take, List.map_drop]
  refine ⟨q :: ((ns.drop (HT.sIx (ns.map M.int).length 0 (some 1))).take (HT.sIx (ns.map M.int).length (ns.map M.int).length (some 3) - HT.sIx (ns.map M.int).length 0 (some 1))), ?_⟩
  have eA : mLst (mCons (mFn (mCons (mv 0) (mCons (mc (.int 0)) mNil)) F__law_cell_at) mNil) ⟨env0 ns none none none none none none none none none none none none none none none none none, hp⟩ = .ok (.lst [.int q]) ⟨env0 ns none none none none none none none none none none none none none none none none none, hp⟩ := by
    simp [mLst, mFn, mCons, mNil, mv, mc, Res.bind, upF, e0, big]
  have eB : mSl (mv 0) (oSome (mc (.int 1))) (oSome (mc (.int 3))) ⟨env0 ns none none none none none none none none none none none none none none none none none, hp⟩ = .ok (.lst (cutM (ns.map M.int) (some 1) (some 3))) ⟨env0 ns none none none none none none none none none none none none none none none none none, hp⟩ := rfl
  have eC : oAdd (.lst [.int q]) (.lst (cutM (ns.map M.int) (some 1) (some 3))) ⟨env0 ns none none none none none none none none none none none none none none none none none, hp⟩ = .ok (.lst ([.int q] ++ cutM (ns.map M.int) (some 1) (some 3))) ⟨env0 ns none none none none none none none none none none none none none none none none none, hp⟩ := by
    refine if_pos ?_
    rw [ec]
    simp only [List.length_cons, List.length_nil, List.length_map, List.length_take, List.length_drop, big]; omega
  unfold IT0 iSeq
  rw [m2_of eA eB eC, ec]
  rfl
theorem law_pure {ns : List Int} (hl : ns.length ≤ 63) : ∃ hp, F_law [.scr ns] [.dead] = .ok (.bl true) hp := by
  obtain ⟨is, ei⟩ := it0_at hl (hp := [.dead])
  obtain ⟨p1, p2, p3, p4, p5, p6, p7, p8, p9, p10, p11, p12, p13, p14, p15, hp, ef⟩ := cells_at (ns := ns) is (hp := [.dead]) (o1 := none) (o2 := none) (o3 := none) (o4 := none) (o5 := none) (o6 := none) (o7 := none) (o8 := none) (o9 := none) (o10 := none) (o11 := none) (o12 := none) (o13 := none) (o14 := none) (o15 := none)
  have e4 : m_law ⟨env0 ns none none none none none none none none none none none none none none none none none, [.dead]⟩ = .ok (.rt (.bl true)) ⟨env0 ns p1 p2 p3 p4 p5 p6 p7 p8 p9 p10 p11 p12 p13 p14 p15 none none, hp⟩ := by
    rw [law_eq]
    exact (seq_nx (for_of ei ef)).trans (ret_of rfl)
  have e6 : bodyF 1 18 m_law [.scr ns] [.dead] = .ok (.bl true) hp := by
    unfold bodyF
    rw [show m_law ⟨[M.scr ns].map some ++ List.replicate (18 - 1) none, [.dead]⟩ = _ from e4]
  exact ⟨hp, (show F_law [.scr ns] [.dead] = bodyF 1 18 m_law [.scr ns] [.dead] from rfl).trans e6⟩
end Lw
open PySem.W PySem PySem.Calls PyProof.Rows
theorem PySem.Challenge.cw_rowclash_k72_statements_planned_holds : PySem.Challenge.rw_rowclash_k72_statements_planned.Holds := by
  w_on; o_law
  refine HandSHeadRun.head_any (r := Lw.R) (q := view Lw.R.prog [76]) (H := Lw.hk) (ob := Lw.ob) (M := 15000) (loose := Lw.loose) (d := HandSHeadRun.topDef Lw.R.prog 76) (kwd := []) Lw.ob_eq
    (by kernel_rfl) (fun s => by kernel_rfl) Lw.run (by kernel_rfl) (by kernel_rfl) (by kernel_rfl) (by rfl) (by first | assumption | decide +kernel) (by decide +kernel) ⟨rfl, rfl, rfl, rfl, rfl, by decide +kernel⟩ ?hw ?hc
  case hw => w_witness2
  case hc =>
    refine Ma.walkT (l := PySem.Challenge.rw_rowclash_k72_statements_planned) (n := 63) (k := 12) rfl (by decide) (by kernel_rfl) ⟨rfl, by decide, by decide⟩ ?F
    intro w mg fa h Y G hmg0
    obtain ⟨K, KX, c, t⟩ := Y
    have hmg : mg ("law" : PySem.Str) = some (.ref fa) := by
      have e : (HandSHeadRun.topDef Lw.R.prog 76).name = ("law" : PySem.Str) := by kernel_rfl
      rw [← e]
      exact hmg0
    refine ⟨Lw.TT K, Lw.tbs K, Lw.F_law, KX, t.at_, t.no, fun p hp => PySem.W.codeHd_of_K KX (t.hd p hp), rfl, t.nd, fun ns hl => Lw.law_pure hl, fun base hb gb TB => ?_⟩
    obtain ⟨f, fp, hm, kp⟩ := (Lw.law_kn (w := w) (base := base) KX G c t TB).ex
    rw [hmg] at hm
    cases hm
    exact fp
#print axioms PySem.Challenge.cw_rowclash_k72_statements_planned_holds
