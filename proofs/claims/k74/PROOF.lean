import PyProof.Rows.All
import Wide.All
import OpenK.AllK
import Wide.FinOn
import HandS.ForMost
import HandS.Exc
import HandS.Lambda
import HandS.Set
import HandS.Walk
import HandS.Style
import HandS.TupAny
import HandS.WideBits
import HandS.Conv
import HandS.WordsExc
import HandS.HeadEnd
import HandS.EndTab
import HandS.Star
import HandS.Property
import KE.KOpsOwn
import HandS.ExcInit
import HandS.ExcIs
import HandS.ExcField
import HandS.ExcValue
import HandS.IsInst
import KE.KExcIs
import KE.KExcSuper
import KE.KExcMake
import KE.KCount
import KE.DataFind
import HandS.Deep
import HandS.List
import PyProof.ReprRoads
import HandS.RaiseMore
import HandS.Codes
import KE.KSuper
import KE.KSuperObj
import HandS.FStr
import HandS.Head0
import HandS.Head1
import HandS.Head2
import HandS.HeadHook1
import HandS.HeadHook2
import HandS.HeadHook4
import HandS.HeadNt
import HandS.SlotsOwn
import HandS.WordsDict
import HandS.NamedTupSort
import PyProof.InstNe
import PyProof.TupleOfSeq
import KE.KItemsList
import HandS.ListItems
import HandS.Iter
import HandS.DictComp
import HandS.SortRule
import HandS.SortInts
import HandS.Zip
import OpenK.KOps
import PyProof.Conv_bool
import PyProof.ListTruth
import HandS.OwnEq
import PyProof.EqKinds
import HandS.NoneIn
import PyProof.ReprLen
import PyProof.Rows.ReprOcc
import HandS.ExcOwn
import HandS.HotCalls
import HandS.TupMul
import KE.KCallOwn
import HandS.Defaults
import PyProof.FactsAll.int
import PyProof.FactsAll.bool
import HandS.Wide
import KE.KToBytes
import KE.KFromBytes
import KE.KBytesMore
import HandS.Bytes
import HandS.BytesMake
import HandS.More
import HandS.ToBytes
import KE.BytesMul
import KE.KBytesStep
import KE.SortData
import HandS.SetFor
import HandS.Strs
import KE.DataMinMax
import HandS.SetKeys
import PyProof.SetRoads
import HandS.MakeKwOnly
import KE.DataMinKey
import KE.KRevSl
import KE.SortKeyHeap
import HandS.Keys
import HandS.SortKw
import PySem.Challenge.RW_rowclash_k74_clashes_of_two_keys
set_option Elab.async false
set_option linter.all false
set_option maxRecDepth 100000
set_option maxHeartbeats 0
/-! Ma1: the mirror machine: its values, its state, what a piece of code comes to. -/
namespace Ma
open L2 PySem
/-- values: tuples, and lists and dicts that nobody changes any more, are data; what may still change is a box -/
inductive M where
  | non | bl (b : Bool) | int (i : Int) | str (x : Str) | byt (b : Array UInt8)
  | tup (ms : List M) | lst (ms : List M) | dct (ks : List Key) (ms : List M)
  | scr (ns : List Int) | box (n : Nat) | exn (c : Str) (ns : List Str) (ms : List M) | cls (c : Str) | ty (n : String) | raw (a : Addr) | set (ks : List Int)
/-- what lies in a box -/
inductive Cell where
  | lst (ms : List M) | dK (kms : List (Key × M)) | dF (kms : List (Key × M)) | ins (c : Str) (fms : List (Str × M)) | dead
structure MS where
  env : List (Option M)
  hp : List Cell
structure Exc where
  c : Str
  ns : List Str
  ms : List M
inductive Res (α : Type) where
  | ok (a : α) (s : MS)
  | err (x : Exc) (s : MS)
  | stuck
def Res.bind {α β : Type} : Res α → (α → MS → Res β) → Res β
  | .ok a s, f => f a s
  | .err x s, _ => .err x s
  | .stuck, _ => .stuck
abbrev ME := MS → Res M
/-- expressions in a row -/
abbrev MA := MS → Res (List M)
abbrev MT := MS → Res Bool
inductive Fl where
  | nx | rt (m : M) | bk | ct
abbrev MStm := MS → Res Fl
/-- what a def comes to -/
inductive ResF where
  | ok (m : M) (hp : List Cell)
  | err (x : Exc) (hp : List Cell)
  | stuck
abbrev Fn := List M → List Cell → ResF
end Ma
/-! Ma2: how the machine's state stands to the layer's heap. -/
namespace Ma
open L2 PySem
/-- what is fixed: the written part, the own classes by name -/
structure Tab where
  K : PySem.W.Frag
  ad : Str → Option Addr
  tb : List (Addr × Str) := []
/-- where the boxes stand; what is frozen -/
structure Gh where
  ro : List Addr
  fz : Addr → Prop
/-- a set of ints -/
def SetI (a : Addr) (ks : List Int) : HO := .ext fun h => ∃ (w : World) (n : Nat), L2.SetR w h a (fun j => decide (j ∈ ks)) n
/-- a list of ints that the written part holds -/
def Wr (K : PySem.W.Frag) (a : Addr) (ns : List Int) : Prop := ∀ H : Hp, SqL K H a (ns.map V.int)
def XO (C : Value) (d : Option Addr) (a : Addr) : HO := .ext fun h => ∃ (oe : Obj) (vs : Array Value), h.get? a = some oe ∧ Zc C d oe ∧ oe.data = .fields vs
/-- an exception of the class at C with these fields -/
def XAt (fz : Addr → Prop) (H : Hp) (a C : Addr) (ns : List Str) (vs : List V) : Prop :=
  ns.length = vs.length ∧ fz a ∧ ∃ d : Option Addr, H a = some (XO (.ref C) d a) ∧ match d with
    | none => ns = []
    | some dx => fz dx ∧ H dx = some (.xd (ns.zip vs))
mutual
inductive RV (T : Tab) (g : Gh) (H : Hp) : M → V → Prop
  | non : RV T g H .non .non
  | bl (b : Bool) : RV T g H (.bl b) (.bl b)
  | int (i : Int) : RV T g H (.int i) (.int i)
  | str (x : Str) : RV T g H (.str x) (.str x)
  | byt (b : Array UInt8) : RV T g H (.byt b) (.byt b)
  | tup {a : Addr} {ms : List M} {vs : List V} : H a = some (.tup vs) → RVs T g H ms vs → RV T g H (.tup ms) (.ref a)
  | lst {a : Addr} {ms : List M} {vs : List V} : g.fz a → H a = some (.lst vs) → RVs T g H ms vs → RV T g H (.lst ms) (.ref a)
  | dct {a : Addr} {o : Obj} {ks : List Key} {ms : List M} {vs : List V} : g.fz a → ks.length = vs.length → H a = some (.frz o (.dK (ks.zip vs))) → RVs T g H ms vs → RV T g H (.dct ks ms) (.ref a)
  | scr {a : Addr} {o : Obj} {ns : List Int} : g.fz a → H a = some (.frz o (.lst (ns.map V.int))) → RV T g H (.scr ns) (.ref a)
  | scrK {a : Addr} {ns : List Int} : Wr T.K a ns → RV T g H (.scr ns) (.ref a)
  | box {n : Nat} {a : Addr} : g.ro[n]? = some a → RV T g H (.box n) (.ref a)
  | exn {a C : Addr} {c : Str} {ns : List Str} {ms : List M} {vs : List V} : T.ad c = some C → XAt g.fz H a C ns vs → RVs T g H ms vs → RV T g H (.exn c ns ms) (.ref a)
  | cls {c : Str} {C : Addr} : T.ad c = some C → RV T g H (.cls c) (.ref C)
  | ty (n : String) : RV T g H (.ty n) (.ty n)
  | raw (a : Addr) : RV T g H (.raw a) (.ref a)
  | set {a : Addr} {ks : List Int} : g.fz a → H a = some (SetI a ks) → RV T g H (.set ks) (.ref a)
inductive RVs (T : Tab) (g : Gh) (H : Hp) : List M → List V → Prop
  | nil : RVs T g H [] []
  | cons {m : M} {v : V} {ms : List M} {vs : List V} : RV T g H m v → RVs T g H ms vs → RVs T g H (m :: ms) (v :: vs)
end
/-- what was a value stays one -/
structure MonoB (g : Gh) (H : Hp) (g' : Gh) (H' : Hp) : Prop where
  ro : g.ro <+: g'.ro
  fz : ∀ a, g.fz a → g'.fz a
  fh : ∀ a, g.fz a → H' a = H a
  tup : ∀ a vs, H a = some (.tup vs) → H' a = some (.tup vs)
/-- and what is locked stays locked -/
structure Mono (g : Gh) (H : Hp) (g' : Gh) (H' : Hp) : Prop extends MonoB g H g' H' where
  fr : ∀ a o u, H a = some (.frz o u) → H' a = some (.frz o u)
instance {g g' : Gh} {H H' : Hp} : Coe (Mono g H g' H') (MonoB g H g' H') := ⟨Mono.toMonoB⟩
section
variable {T : Tab} {g g1 g2 : Gh} {H H1 H2 : Hp}
theorem Mono.refl (g : Gh) (H : Hp) : Mono g H g H := ⟨⟨List.prefix_refl _, fun _ h => h, fun _ _ => rfl, fun _ _ h => h⟩, fun _ _ _ h => h⟩
theorem Mono.trans (a : Mono g H g1 H1) (b : Mono g1 H1 g2 H2) : Mono g H g2 H2 :=
  ⟨⟨a.ro.trans b.ro, fun x h => b.fz x (a.fz x h), fun x h => (b.fh x (a.fz x h)).trans (a.fh x h), fun x vs h => b.tup x vs (a.tup x vs h)⟩, fun x o u h => b.fr x o u (a.fr x o u h)⟩
theorem MonoB.at (a : MonoB g H g1 H1) {n : Nat} {x : Addr} (h : g.ro[n]? = some x) : g1.ro[n]? = some x := by
  obtain ⟨t, e⟩ := a.ro
  rw [← e, List.getElem?_append_left (by
    have := List.getElem?_eq_some_iff.mp h
    exact this.1)]
  exact h
theorem Mono.at (a : Mono g H g1 H1) {n : Nat} {x : Addr} (h : g.ro[n]? = some x) : g1.ro[n]? = some x := a.toMonoB.at h
mutual
theorem RV.monoB (q : MonoB g H g1 H1) : ∀ {m : M} {v : V}, RV T g H m v → RV T g1 H1 m v
  | _, _, .non => .non
  | _, _, .bl b => .bl b
  | _, _, .int i => .int i
  | _, _, .str x => .str x
  | _, _, .byt b => .byt b
  | _, _, .tup e r => .tup (q.tup _ _ e) (RVs.monoB q r)
  | _, _, .lst f e r => .lst (q.fz _ f) ((q.fh _ f).trans e) (RVs.monoB q r)
  | _, _, .dct f l e r => .dct (q.fz _ f) l ((q.fh _ f).trans e) (RVs.monoB q r)
  | _, _, .scr f e => .scr (q.fz _ f) ((q.fh _ f).trans e)
  | _, _, .scrK e => .scrK e
  | _, _, .box e => .box (q.at e)
  | _, _, .exn e x r => .exn e (by
      obtain ⟨l, f, d, hd, y⟩ := x
      refine ⟨l, q.fz _ f, d, (q.fh _ f).trans hd, ?_⟩
      cases d with
      | none => exact y
      | some dx => exact ⟨q.fz _ y.1, (q.fh _ y.1).trans y.2⟩) (RVs.monoB q r)
  | _, _, .cls e => .cls e
  | _, _, .ty n => .ty n
  | _, _, .raw a => .raw a
  | _, _, .set f e => .set (q.fz _ f) ((q.fh _ f).trans e)
theorem RVs.monoB (q : MonoB g H g1 H1) : ∀ {ms : List M} {vs : List V}, RVs T g H ms vs → RVs T g1 H1 ms vs
  | _, _, .nil => .nil
  | _, _, .cons r s => .cons (RV.monoB q r) (RVs.monoB q s)
end
theorem RV.mono (q : Mono g H g1 H1) {m : M} {v : V} (r : RV T g H m v) : RV T g1 H1 m v := r.monoB q.toMonoB
theorem RVs.mono (q : Mono g H g1 H1) {ms : List M} {vs : List V} (r : RVs T g H ms vs) : RVs T g1 H1 ms vs := r.monoB q.toMonoB
theorem RVs.length : ∀ {ms : List M} {vs : List V}, RVs T g H ms vs → ms.length = vs.length
  | _, _, .nil => rfl
  | _, _, .cons _ s => congrArg Nat.succ (RVs.length s)
theorem RVs.get : ∀ {ms : List M} {vs : List V} {i : Nat} {m : M}, RVs T g H ms vs → ms[i]? = some m → ∃ v, vs[i]? = some v ∧ RV T g H m v
  | _, _, _, _, .nil, e => by simp at e
  | _, _, 0, _, .cons r _, e => by simp at e; subst e; exact ⟨_, rfl, r⟩
  | _, _, i + 1, m, .cons _ s, e => by
    obtain ⟨v, h1, h2⟩ := RVs.get (i := i) (m := m) s (by simpa using e)
    exact ⟨v, by simpa using h1, h2⟩
theorem RVs.app : ∀ {ms ns : List M} {vs ws : List V}, RVs T g H ms vs → RVs T g H ns ws → RVs T g H (ms ++ ns) (vs ++ ws)
  | _, _, _, _, .nil, s => s
  | _, _, _, _, .cons r t, s => .cons r (RVs.app t s)
theorem RVs.take : ∀ {ms : List M} {vs : List V} (n : Nat), RVs T g H ms vs → RVs T g H (ms.take n) (vs.take n)
  | _, _, 0, _ => .nil
  | _, _, _ + 1, .nil => .nil
  | _, _, n + 1, .cons r t => .cons r (RVs.take n t)
theorem RVs.drop : ∀ {ms : List M} {vs : List V} (n : Nat), RVs T g H ms vs → RVs T g H (ms.drop n) (vs.drop n)
  | _, _, 0, r => r
  | _, _, _ + 1, .nil => .nil
  | _, _, n + 1, .cons _ t => RVs.drop n t
theorem RVs.set : ∀ {ms : List M} {vs : List V} {m : M} {v : V} (n : Nat), RVs T g H ms vs → RV T g H m v → RVs T g H (ms.set n m) (vs.set n v)
  | _, _, _, _, _, .nil, _ => .nil
  | _, _, _, _, 0, .cons _ t, r => .cons r t
  | _, _, _, _, n + 1, .cons q t, r => .cons q (RVs.set n t r)
theorem RVs.erase : ∀ {ms : List M} {vs : List V} (n : Nat), RVs T g H ms vs → RVs T g H (ms.eraseIdx n) (vs.eraseIdx n)
  | _, _, _, .nil => .nil
  | _, _, 0, .cons _ t => t
  | _, _, n + 1, .cons q t => .cons q (RVs.erase n t)
theorem RVs.ints : ∀ (ns : List Int), RVs T g H (ns.map M.int) (ns.map V.int)
  | [] => .nil
  | n :: ns => .cons (.int n) (RVs.ints ns)
end
/-! ### boxes -/
/-- named values -/
inductive RFs {κ : Type} (T : Tab) (g : Gh) (H : Hp) : List (κ × M) → List (κ × V) → Prop
  | nil : RFs T g H [] []
  | cons {k : κ} {m : M} {v : V} {fs : List (κ × M)} {vs : List (κ × V)} : RV T g H m v → RFs T g H fs vs → RFs T g H ((k, m) :: fs) ((k, v) :: vs)
theorem RFs.monoB {κ : Type} {T : Tab} {g g1 : Gh} {H H1 : Hp} (q : MonoB g H g1 H1) : ∀ {fs : List (κ × M)} {vs : List (κ × V)}, RFs T g H fs vs → RFs T g1 H1 fs vs
  | _, _, .nil => .nil
  | _, _, .cons r s => .cons (r.monoB q) (RFs.monoB q s)
theorem RFs.mono {κ : Type} {T : Tab} {g g1 : Gh} {H H1 : Hp} (q : Mono g H g1 H1) {fs : List (κ × M)} {vs : List (κ × V)} (r : RFs T g H fs vs) : RFs T g1 H1 fs vs := r.monoB q.toMonoB
theorem RFs.length {κ : Type} {T : Tab} {g : Gh} {H : Hp} : ∀ {fs : List (κ × M)} {vs : List (κ × V)}, RFs T g H fs vs → fs.length = vs.length
  | _, _, .nil => rfl
  | _, _, .cons _ s => congrArg Nat.succ (RFs.length s)
theorem RFs.keys {κ : Type} {T : Tab} {g : Gh} {H : Hp} : ∀ {fs : List (κ × M)} {vs : List (κ × V)}, RFs T g H fs vs → fs.map (·.1) = vs.map (·.1)
  | _, _, .nil => rfl
  | _, _, .cons _ s => congrArg _ (RFs.keys s)
theorem RFs.get {κ : Type} {T : Tab} {g : Gh} {H : Hp} : ∀ {fs : List (κ × M)} {vs : List (κ × V)} {i : Nat} {k : κ} {m : M}, RFs T g H fs vs → fs[i]? = some (k, m) → ∃ v, vs[i]? = some (k, v) ∧ RV T g H m v
  | _, _, _, _, _, .nil, e => by simp at e
  | _, _, 0, _, _, .cons r _, e => by
    simp at e
    obtain ⟨rfl, rfl⟩ := e
    exact ⟨_, rfl, r⟩
  | _, _, i + 1, k, m, .cons _ s, e => by
    obtain ⟨v, h1, h2⟩ := RFs.get (i := i) (k := k) (m := m) s (by simpa using e)
    exact ⟨v, by simpa using h1, h2⟩
def CellR (T : Tab) (g : Gh) (H : Hp) : Cell → Addr → Prop
  | .lst ms, a => ∃ vs, H a = some (.lst vs) ∧ RVs T g H ms vs
  | .dK kms, a => ∃ kvs, H a = some (.dK kvs) ∧ RFs T g H kms kvs
  | .dF kms, a => ∃ o kvs, H a = some (.frz o (.dK kvs)) ∧ RFs T g H kms kvs
  | .ins c fms, a => ∃ C dx fvs, T.ad c = some C ∧ H a = some (.ins C dx fvs) ∧ RFs T g H fms fvs
  | .dead, _ => True
def Live : Cell → Prop
  | .dead => False
  | .dF _ => False
  | _ => True
/-- what may still change, locked or not -/
def Own : Cell → Prop
  | .dead => False
  | _ => True
theorem Live.own {c : Cell} (h : Live c) : Own c := by cases c <;> first | exact h.elim | trivial
/-- no code object of a lambda, no fields of an exception -/
structure NoCX (o : HO) : Prop where
  code : ∀ c q, o ≠ LamX.CodeO c q
  xd : ∀ fs, o ≠ .xd fs
/-- nor a table of code objects -/
structure Plain (o : HO) : Prop extends NoCX o where
  tbl : ∀ ps, o ≠ .tbl ps
/-- no table -/
def NoTbl (o : HO) : Prop := ∀ ps, o ≠ .tbl ps
/-- the tables of code objects that lambdas are kept in -/
structure TbOk (tb : List (Addr × Str)) (g : Gh) (H : Hp) : Prop where
  tab : ∀ p ∈ tb, LamX.TabS H p.1 p.2 ∧ p.1 ∈ g.ro ∧ ¬ g.fz p.1
  only : ∀ a ps, H a = some (.tbl ps) → ∃ p ∈ tb, p.1 = a
  roc : ∀ a ∈ g.ro, ∀ o, H a = some o → NoCX o
section
variable {tb : List (Addr × Str)} {g : Gh} {H H' : Hp} {p : Addr} {o : HO}
theorem tabS_upd {P : Addr} {q : Str} (t : LamX.TabS H P q) (h : ∀ u, H p = some u → Plain u) : LamX.TabS (upd H p o) P q := by
  obtain ⟨ps, h1, h2, h3⟩ := t
  have n1 : P ≠ p := fun z => by subst z; exact (h _ h1).tbl ps rfl
  refine ⟨ps, by rw [upd_ne n1]; exact h1, h2, fun pos cv hc => ?_⟩
  obtain ⟨c, e1, e2⟩ := h3 pos cv hc
  have n2 : c ≠ p := fun z => by subst z; exact (h _ e2).code _ _ rfl
  exact ⟨c, e1, by rw [upd_ne n2]; exact e2⟩
/-- a new object, or another content of a plain one -/
theorem TbOk.upd (t : TbOk tb g H) (h : ∀ u, H p = some u → Plain u) (ho : NoTbl o) (hc : p ∈ g.ro → Plain o) : TbOk tb g (upd H p o) := by
  refine ⟨fun x hx => ?_, fun a ps z => ?_, fun a ha u z => ?_⟩
  · obtain ⟨h1, h2, h3⟩ := t.tab x hx
    exact ⟨tabS_upd h1 h, h2, h3⟩
  · by_cases e : a = p
    · subst e; rw [upd_same] at z; exact absurd (Option.some.inj z) (ho ps)
    · rw [upd_ne e] at z; exact t.only a ps z
  · by_cases e : a = p
    · subst e; rw [upd_same] at z; exact Option.some.inj z ▸ (hc ha).toNoCX
    · rw [upd_ne e] at z; exact t.roc a ha u z
/-- one more frozen place -/
theorem TbOk.more {fz : Addr → Prop} (t : TbOk tb g H) (h : ∀ a, fz a → g.fz a ∨ ∃ u, H a = some u ∧ NoTbl u) : TbOk tb ⟨g.ro, fz⟩ H := by
  refine ⟨fun x hx => ?_, t.only, t.roc⟩
  obtain ⟨h1, h2, h3⟩ := t.tab x hx
  refine ⟨h1, h2, fun f => ?_⟩
  rcases h x.1 f with z | ⟨u, z, n⟩
  · exact h3 z
  · obtain ⟨ps, e, _⟩ := h1
    rw [z] at e
    exact n ps (Option.some.inj e)
/-- one more box -/
theorem TbOk.box (t : TbOk tb g H) (h : ∀ u, H p = some u → Plain u) : TbOk tb ⟨g.ro ++ [p], g.fz⟩ H := by
  refine ⟨fun x hx => ?_, t.only, fun a ha u z => ?_⟩
  · obtain ⟨h1, h2, h3⟩ := t.tab x hx
    exact ⟨h1, List.mem_append_left _ h2, h3⟩
  · have ha : a ∈ g.ro ++ [p] := ha
    rcases List.mem_append.mp ha with y | y
    · exact t.roc a y u z
    · simp at y; subst y; exact (h _ z).toNoCX
end
theorem plain_lst {vs : List V} : Plain (.lst vs) := by exact ⟨⟨fun _ _ z => (by unfold LamX.CodeO at z; cases z), fun _ z => (by cases z)⟩, fun _ z => (by cases z)⟩
theorem plain_dK {vs : List (Key × V)} : Plain (.dK vs) := by exact ⟨⟨fun _ _ z => (by unfold LamX.CodeO at z; cases z), fun _ z => (by cases z)⟩, fun _ z => (by cases z)⟩
theorem plain_frz {o : Obj} {u : HO} : Plain (.frz o u) := by exact ⟨⟨fun _ _ z => (by unfold LamX.CodeO at z; cases z), fun _ z => (by cases z)⟩, fun _ z => (by cases z)⟩
theorem plain_ins {C dx : Addr} {vs : List (Str × V)} : Plain (.ins C dx vs) := by exact ⟨⟨fun _ _ z => (by unfold LamX.CodeO at z; cases z), fun _ z => (by cases z)⟩, fun _ z => (by cases z)⟩
/-- the entry of a def: its ghosts, its heap -/
structure En where
  g : Gh
  H : Hp
structure RelH (T : Tab) (e : En) (g : Gh) (hp : List Cell) (H : Hp) : Prop where
  len : g.ro.length = hp.length
  nd : g.ro.Nodup
  cell : ∀ (n : Nat) (c : Cell) (a : Addr), hp[n]? = some c → g.ro[n]? = some a → CellR T g H c a
  thaw : ∀ (n : Nat) (c : Cell) (a : Addr), hp[n]? = some c → g.ro[n]? = some a → Own c → ¬ g.fz a
  fzt : ∀ a, g.fz a → ∃ o, H a = some o
  rot : ∀ a ∈ g.ro, ∃ o, H a = some o
  frm : ∀ a o, e.H a = some o → a ∉ e.g.ro → H a = some o
  nfz : ∀ a, g.fz a → e.g.fz a ∨ e.H a = none ∨ a ∈ e.g.ro
  nro : ∀ a ∈ g.ro, a ∈ e.g.ro ∨ e.H a = none
  m0 : Mono e.g e.H g H
  tb : TbOk T.tb g H
  tbe : ∀ p ∈ T.tb, p.1 ∈ e.g.ro
theorem CellR.plain {T : Tab} {g : Gh} {H : Hp} {c : Cell} {a : Addr} (h : CellR T g H c a) (o : Own c) {u : HO} (e : H a = some u) : Plain u := by
  cases c with
  | lst ms => obtain ⟨vs, h1, _⟩ := h; rw [e] at h1; cases h1; exact plain_lst
  | dK ms => obtain ⟨vs, h1, _⟩ := h; rw [e] at h1; cases h1; exact plain_dK
  | dF ms => obtain ⟨_, vs, h1, _⟩ := h; rw [e] at h1; cases h1; exact plain_frz
  | ins c ms => obtain ⟨_, _, vs, _, h1, _⟩ := h; rw [e] at h1; cases h1; exact plain_ins
  | dead => exact o.elim
structure Rel (T : Tab) (e : En) (g : Gh) (s : MS) (σ : L2.St) (H : Hp) : Prop where
  h : RelH T e g s.hp H
  len : s.env.length = σ.length
  sl : ∀ (i : Nat) (m : M) (v : Option V), s.env[i]? = some (some m) → σ[i]? = some v → ∃ x, v = some x ∧ RV T g H m x
section
variable {T : Tab} {e : En} {g g1 : Gh} {H H1 : Hp} {s : MS} {σ : L2.St} {hp : List Cell}
theorem CellR.monoB (q : MonoB g H g1 H1) {c : Cell} {a : Addr} (h : H1 a = H a) (r : CellR T g H c a) : CellR T g1 H1 c a := by
  cases c with
  | lst ms => obtain ⟨vs, h1, h2⟩ := r; exact ⟨vs, h.trans h1, h2.monoB q⟩
  | dK kms => obtain ⟨vs, h1, h2⟩ := r; exact ⟨vs, h.trans h1, h2.monoB q⟩
  | dF kms => obtain ⟨o, vs, h1, h2⟩ := r; exact ⟨o, vs, h.trans h1, h2.monoB q⟩
  | ins c fms => obtain ⟨C, dx, vs, l, h1, h2⟩ := r; exact ⟨C, dx, vs, l, h.trans h1, h2.monoB q⟩
  | dead => trivial
theorem CellR.mono (q : Mono g H g1 H1) {c : Cell} {a : Addr} (h : H1 a = H a) (r : CellR T g H c a) : CellR T g1 H1 c a := r.monoB q.toMonoB h
theorem Rel.get (r : Rel T e g s σ H) {i : Nat} {m : M} (h : s.env[i]? = some (some m)) : ∃ x, σ[i]? = some (some x) ∧ RV T g H m x := by
  have hi : i < σ.length := by
    rw [← r.len]
    exact (List.getElem?_eq_some_iff.mp h).1
  obtain ⟨x, e, q⟩ := r.sl i m σ[i] h (List.getElem?_eq_getElem hi)
  exact ⟨x, by rw [List.getElem?_eq_getElem hi, e], q⟩
/-- the slots stand while the values do -/
theorem Rel.envB (r : Rel T e g s σ H) (q : MonoB g H g1 H1) (h : RelH T e g1 hp H1) : Rel T e g1 ⟨s.env, hp⟩ σ H1 :=
  ⟨h, r.len, fun i m v h1 h2 => by
    obtain ⟨x, e, z⟩ := r.sl i m v h1 h2
    exact ⟨x, e, z.monoB q⟩⟩
theorem Rel.env (r : Rel T e g s σ H) (q : Mono g H g1 H1) (h : RelH T e g1 hp H1) : Rel T e g1 ⟨s.env, hp⟩ σ H1 := r.envB q.toMonoB h
theorem Rel.put (r : Rel T e g s σ H) {i : Nat} {m : M} {v : V} (h : RV T g H m v) : Rel T e g ⟨s.env.set i (some m), s.hp⟩ (σ.set i (some v)) H := by
  refine ⟨r.h, by simp [r.len], fun j m' v' h1 h2 => ?_⟩
  have h1 : (s.env.set i (some m))[j]? = some (some m') := h1
  rw [List.getElem?_set] at h1 h2
  by_cases hij : i = j
  · rw [if_pos hij] at h1 h2
    split at h1
    · split at h2
      · cases h1; cases h2; exact ⟨v, rfl, h⟩
      · cases h2
    · cases h1
  · rw [if_neg hij] at h1 h2
    exact r.sl j m' v' h1 h2
end
end Ma
/-! Ma3: the machine's code as readings; expressions, tests, statements. -/
namespace Ma
open L2 PySem
/-- where a piece of code stands -/
structure MC where
  X : Cx
  T : Tab
  e : En
  W : WX
  hK : X.K = T.K
/-- an exception in the machine and in the layer -/
def XR (T : Tab) (g : Gh) (H : Hp) (x : Exc) (cls : Value) (d : Option Addr) : Prop :=
  ∃ C, T.ad x.c = some C ∧ cls = .ref C ∧ match d with
    | none => x.ns = [] ∧ x.ms = []
    | some dx => ∃ vs, x.ns.length = vs.length ∧ H dx = some (.xd (x.ns.zip vs)) ∧ RVs T g H x.ms vs
abbrev MC.rel (C : MC) (g : Gh) (s : MS) (σ : L2.St) (H : Hp) : Prop := Rel C.T C.e g s σ H
/-- what a piece's end has to give -/
def Go {α β : Type} (C : MC) (R : Gh → Hp → α → β → Prop) (σ : L2.St) (r : Res α) (g : Gh) (H : Hp) (Q : β → Hp → Prop) : Prop :=
  match r with
  | .ok m s => ∀ (g' : Gh) (H' : Hp) (v : β), Mono g H g' H' → C.rel g' s σ H' → R g' H' m v → Q v H'
  | .err x s => ∀ (g' : Gh) (H' : Hp) (cls : Value) (d : Option Addr), Mono g H g' H' → C.rel g' s σ H' → XR C.T g' H' x cls d → C.W cls d σ H'
  | .stuck => False
abbrev MC.V1 (C : MC) : Gh → Hp → M → V → Prop := fun g H m v => RV C.T g H m v
abbrev MC.Vn (C : MC) : Gh → Hp → List M → List V → Prop := fun g H m v => RVs C.T g H m v
def REq {α : Type} : Gh → Hp → α → α → Prop := fun _ _ a b => a = b
section
variable {C : MC} {α β γ δ : Type} {R : Gh → Hp → α → β → Prop} {S : Gh → Hp → γ → δ → Prop} {σ : L2.St} {g g1 : Gh} {H H1 : Hp}
theorem Go.later {r : Res α} {Q : β → Hp → Prop} (m : Mono g H g1 H1) (h : Go C R σ r g H Q) : Go C R σ r g1 H1 Q := by
  cases r with
  | ok a s => exact fun g' H' v q => h g' H' v (m.trans q)
  | err x s => exact fun g' H' cls d q => h g' H' cls d (m.trans q)
  | stuck => exact h
theorem Go.imp {r : Res α} {Q Q' : β → Hp → Prop} (h : Go C R σ r g H Q) (hq : ∀ v H', Q v H' → Q' v H') : Go C R σ r g H Q' := by
  cases r with
  | ok a s => exact fun g' H' v q r x => hq _ _ (h g' H' v q r x)
  | err x s => exact h
  | stuck => exact h
/-- one piece, then another -/
theorem Go.bind {r : Res α} {f : α → MS → Res γ} {Q : δ → Hp → Prop} (h : Go C S σ (r.bind f) g H Q) :
    Go C R σ r g H fun x H1 => ∃ m s1 g1, Mono g H g1 H1 ∧ C.rel g1 s1 σ H1 ∧ R g1 H1 m x ∧ Go C S σ (f m s1) g1 H1 Q := by
  cases r with
  | ok a s => exact fun g' H' v q r x => ⟨a, s, g', q, r, x, h.later q⟩
  | err x s => exact h
  | stuck => exact h
theorem Go.ret {a : α} {s : MS} {v : β} {Q : β → Hp → Prop} (h : Go C R σ (.ok a s) g H Q) (hr : C.rel g s σ H) (hv : R g H a v) : Q v H :=
  h g H v (Mono.refl _ _) hr hv
end
/-- readings -/
def rdE (C : MC) (m : ME) : TE := fun σ H Q => ∃ g s, C.rel g s σ H ∧ Go C C.V1 σ (m s) g H Q
def rdA (C : MC) (m : MA) : TA := fun σ H Q => ∃ g s, C.rel g s σ H ∧ Go C C.Vn σ (m s) g H Q
def rdT (C : MC) (m : MT) : TT := fun σ H Q => ∃ g s, C.rel g s σ H ∧ Go C REq σ (m s) g H Q
/-- of a statement: the slots may change -/
def GoS (C : MC) (r : Res Fl) (g : Gh) (H : Hp) (D : Ends) : Prop :=
  match r with
  | .ok .nx s => ∀ (g' : Gh) (H' : Hp) (σ : L2.St), Mono g H g' H' → C.rel g' s σ H' → D.nx σ H'
  | .ok .bk s => ∀ (g' : Gh) (H' : Hp) (σ : L2.St), Mono g H g' H' → C.rel g' s σ H' → D.bk σ H'
  | .ok .ct s => ∀ (g' : Gh) (H' : Hp) (σ : L2.St), Mono g H g' H' → C.rel g' s σ H' → D.ct σ H'
  | .ok (.rt m) s => ∀ (g' : Gh) (H' : Hp) (σ : L2.St) (v : V), Mono g H g' H' → C.rel g' s σ H' → RV C.T g' H' m v → D.rt v H'
  | .err x s => ∀ (g' : Gh) (H' : Hp) (σ : L2.St) (cls : Value) (d : Option Addr), Mono g H g' H' → C.rel g' s σ H' → XR C.T g' H' x cls d → C.W cls d σ H'
  | .stuck => False
def rdS (C : MC) (m : MStm) : TS := fun D σ H => ∃ g s, C.rel g s σ H ∧ GoS C (m s) g H D
abbrev PMe (C : MC) (e : Expr) (m : ME) : Prop := PE C.X e (rdE C m)
abbrev PMa (C : MC) (e : List Expr) (m : MA) : Prop := PA C.X e (rdA C m)
abbrev PMt (C : MC) (e : Expr) (m : MT) : Prop := PT C.X e (rdT C m)
abbrev PMw (C : MC) (e : Expr) (m : MT) : Prop := PW C.X e (rdT C m)
abbrev PMs (C : MC) (e : Stmt) (m : MStm) : Prop := PS C.X e (rdS C m)
abbrev PMb (C : MC) (e : List Stmt) (m : MStm) : Prop := PSs C.X e (rdS C m)
theorem wkE {X : Cx} {e : Expr} {t t' : TE} (h : PE X e t) (k : ∀ σ H Q, t' σ H Q → t σ H Q) : PE X e t' := ⟨fun pins s σ H Q I q => h.run pins s σ H Q I (k _ _ _ q)⟩
theorem wkA {X : Cx} {e : List Expr} {t t' : TA} (h : PA X e t) (k : ∀ σ H Q, t' σ H Q → t σ H Q) : PA X e t' := ⟨fun pos pins s σ H Q I q => h.run pos pins s σ H Q I (k _ _ _ q)⟩
theorem wkT {X : Cx} {e : Expr} {t t' : TT} (h : PT X e t) (k : ∀ σ H Q, t' σ H Q → t σ H Q) : PT X e t' := ⟨fun pins s σ H Q I q => h.run pins s σ H Q I (k _ _ _ q)⟩
theorem wkW {X : Cx} {e : Expr} {t t' : TT} (h : PW X e t) (k : ∀ σ H Q, t' σ H Q → t σ H Q) : PW X e t' := ⟨fun w pins s σ H Q I q => h.run w pins s σ H Q I (k _ _ _ q)⟩
theorem wkS {X : Cx} {e : Stmt} {t t' : TS} (h : PS X e t) (k : ∀ D σ H, t' D σ H → t D σ H) : PS X e t' := ⟨fun pins s σ H D I q => h.run pins s σ H D I (k _ _ _ q)⟩
theorem wkB {X : Cx} {e : List Stmt} {t t' : TS} (h : PSs X e t) (k : ∀ D σ H, t' D σ H → t D σ H) : PSs X e t' := ⟨fun pins s σ H D I q => h.run pins s σ H D I (k _ _ _ q)⟩
/-! ### names and constants -/
def mv (i : Nat) : ME := fun s => match s.env[i]? with
  | some (some m) => .ok m s
  | _ => .stuck
def mc (m : M) : ME := fun s => .ok m s
section
variable {C : MC} {x : Str} {pos : Pos}
theorem em_v (i : Nat) (hN : C.X.N[i]? = some x := by rfl) (hv : Vis C.X.env.scope x := by first | exact Or.inl rfl | exact Or.inr (Or.inl rfl) | exact Or.inr (Or.inr rfl)) (hd : (x == ("__debug__" : Str)) = false := by decide)
    (hcd : (x == ("__classdict__" : Str)) = false := by decide) : PMe C (.Name x pos) (mv i) := by
  refine wkE (pe_var (i := i) hN hv hd hcd) fun σ H Q ⟨g, s, r, q⟩ => ?_
  unfold mv at q
  split at q
  · rename_i m hm
    obtain ⟨v, e, rv⟩ := r.get hm
    exact ⟨v, e, q.ret r rv⟩
  · exact q.elim
theorem em_c {e : Expr} {v : V} {m : M} (h : PE C.X e (tC v)) (hv : ∀ g H, RV C.T g H m v) : PMe C e (mc m) :=
  wkE h fun _ _ _ ⟨_, _, r, q⟩ => q.ret r (hv _ _)
theorem em_int {i j} : PMe C (.Constant (.int i) j pos) (mc (.int i)) := em_c pe_int fun _ _ => .int i
theorem em_bl {i j} : PMe C (.Constant (.bool i) j pos) (mc (.bl i)) := em_c pe_bl fun _ _ => .bl i
theorem em_non {j} : PMe C (.Constant .none j pos) (mc .non) := em_c pe_non fun _ _ => .non
theorem em_str {i j} : PMe C (.Constant (.str i) j pos) (mc (.str i)) := em_c pe_str fun _ _ => .str i
end
/-! ### two expressions and an operator -/
def Op2Ok (C : MC) (f : Value → Value → Sem Value) (o : M → M → MS → Res M) : Prop :=
  ∀ (pins : List (Addr × Obj)) (s : Shared) (σ : L2.St) (H : Hp) (g : Gh) (ms : MS) (m1 m2 : M) (x y : V) (v u : Value) (Q : VK), Inv C.X pins σ H s → C.rel g ms σ H → RV C.T g H m1 x → RV C.T g H m2 y → RelV x v → RelV y u →
    Go C C.V1 σ (o m1 m2 ms) g H Q → wpAny (model C.X.prog C.X.w) C.X.A (f v u) (EP C.X pins σ Q) C.X.xe s
theorem Op2Ok.of {C : MC} {f : Value → Value → Sem Value} {r : R2} {o : M → M → MS → Res M} (h : OpR C.X f r)
    (k : ∀ (σ : L2.St) (H : Hp) (g : Gh) (ms : MS) (m1 m2 : M) (x y : V) (Q : VK), C.rel g ms σ H → RV C.T g H m1 x → RV C.T g H m2 y → Go C C.V1 σ (o m1 m2 ms) g H Q → r x y H Q) : Op2Ok C f o :=
  fun pins s σ H g ms m1 m2 x y v u Q I r r1 r2 l1 l2 q => h pins s σ H x y v u Q I l1 l2 (k σ H g ms m1 m2 x y Q r r1 r2 q)
def m2 (o : M → M → MS → Res M) (a b : ME) : ME := fun s => (a s).bind fun x s1 => (b s1).bind fun y s2 => o x y s2
/-- evaluate both, then the operator's own ground -/
theorem both {C : MC} {ea eb : Expr} {a b : ME} (ha : PMe C ea a) (hb : PMe C eb b) {o : M → M → MS → Res M} {pins : List (Addr × Obj)} {s : Shared} {σ : L2.St} {H : Hp} {Q : VK} (I : Inv C.X pins σ H s) (h : rdE C (m2 o a b) σ H Q)
    {β : Type} {P : β → Shared → Prop} {f : Value → Value → Sem β}
    (hf : ∀ v u s2 x y H2 g2 ms m1 m2, Inv C.X pins σ H2 s2 → C.rel g2 ms σ H2 → RV C.T g2 H2 m1 x → RV C.T g2 H2 m2 y → RelV x v → RelV y u → Go C C.V1 σ (o m1 m2 ms) g2 H2 Q → wpAny (model C.X.prog C.X.w) C.X.A (f v u) P C.X.xe s2) :
    wpAny (model C.X.prog C.X.w) C.X.A (eval ea C.X.env) (fun v s₁ => wpAny (model C.X.prog C.X.w) C.X.A (eval eb C.X.env) (fun u s₂ => wpAny (model C.X.prog C.X.w) C.X.A (f v u) P C.X.xe s₂) C.X.xe s₁) C.X.xe s := by
  obtain ⟨g, ms, r, q⟩ := h
  refine thn (ha.run pins s σ H _ I ⟨g, ms, r, Go.bind q⟩) fun v s1 ⟨x, H1, I1, l1, m1, ms1, g1, mo1, r1, rv1, q1⟩ => ?_
  refine thn (hb.run pins s1 σ H1 _ I1 ⟨g1, ms1, r1, Go.bind q1⟩) fun u s2 ⟨y, H2, I2, l2, m2, ms2, g2, mo2, r2, rv2, q2⟩ => ?_
  exact hf v u s2 x y H2 g2 ms2 m1 m2 I2 r2 (rv1.mono mo2) rv2 l1 l2 q2
theorem em_bin {C : MC} {ea eb : Expr} {a b : ME} {op : Operator} {pos : Pos} {o : M → M → MS → Res M} (ho : Op2Ok C (binaryOp op) o) (ha : PMe C ea a) (hb : PMe C eb b) : PMe C (.BinOp ea op eb pos) (m2 o a b) := by
  refine ⟨fun pins s σ H Q I h => wpAny_BinOp ?_⟩
  exact both ha hb I h fun v u s2 x y H2 g2 ms m1 m2 I2 r2 rv1 rv2 l1 l2 q => ho pins s2 σ H2 g2 ms m1 m2 x y v u Q I2 r2 rv1 rv2 l1 l2 q
end Ma
/-! Ma4: comparisons, tests, and, or, not, conditional expressions; statements without loops, while. -/
namespace Ma
open L2 PySem
section
variable {C : MC} {ea eb ec : Expr} {a b c : ME} {pos : Pos}
theorem em_cmp {op : CmpOp} {o : M → M → MS → Res M} (ho : Op2Ok C (compareOp op) o) (ha : PMe C ea a) (hb : PMe C eb b) (hm : behindInMarks op eb = false) : PMe C (.Compare ea [op] [eb] pos) (m2 o a b) := by
  refine ⟨fun pins s σ H Q I h => wpAny_Compare1 ?_ hm⟩
  exact both ha hb I h fun v u s2 x y H2 g2 ms m1 m2 I2 r2 rv1 rv2 l1 l2 q => ho pins s2 σ H2 g2 ms m1 m2 x y v u Q I2 r2 rv1 rv2 l1 l2 q
/-- a value that is a bool -/
def isB (m : M) : MS → Res Bool := fun s => match m with
  | .bl k => .ok k s
  | _ => .stuck
def mB (a : ME) : MT := fun s => (a s).bind isB
theorem Go.isB {σ : L2.St} {g : Gh} {H : Hp} {m : M} {ms : MS} {x : V} {Q : Bool → Hp → Prop} (h : Go C REq σ (isB m ms) g H Q) (r : C.rel g ms σ H) (rv : RV C.T g H m x) : ∃ k, x = .bl k ∧ Q k H := by
  cases rv with
  | bl k => exact ⟨k, rfl, h g H k (Mono.refl _ _) r rfl⟩
  | _ => exact h.elim
theorem tB_of {t : TE} {σ : L2.St} {H : Hp} {Q : Bool → Hp → Prop} (he : ∀ σ H Q, rdE C a σ H Q → t σ H Q) (h : rdT C (mB a) σ H Q) : tB t σ H Q := by
  obtain ⟨g, s, r, q⟩ := h
  refine he _ _ _ ⟨g, s, r, (Go.bind (R := C.V1) q).imp ?_⟩
  rintro x H1 ⟨m, s1, g1, mo, r1, rv, q1⟩
  exact q1.isB r1 rv
/-- a bool's expression as a test -/
theorem tm_val (h : PMe C ea a) (he : ∀ whole, isTrue ea C.X.env whole = (do let v ← whole; standAt ea.pos; PySem.holding [v] (truthy v)) := by intro _; rfl) : PMt C ea (mB a) :=
  wkT (pt_val h he) fun σ H Q q => tB_of (fun _ _ _ z => z) q
/-- a comparison as a test -/
theorem tm_cmp {op : CmpOp} {o : M → M → MS → Res M} (ho : Op2Ok C (compareOp op) o) (ha : PMe C ea a) (hb : PMe C eb b) (hm : behindInMarks op eb = false) : PMt C (.Compare ea [op] [eb] pos) (mB (m2 o a b)) := by
  refine ⟨fun pins s σ H Q I h => wpAny_isTrue_Compare1 ?_ hm⟩
  have h2 : rdE C (m2 o a b) σ H fun x H1 => ∃ k, x = .bl k ∧ Q k H1 := by
    obtain ⟨g, s, r, q⟩ := h
    refine ⟨g, s, r, (Go.bind (R := C.V1) q).imp ?_⟩
    rintro x H1 ⟨m, s1, g1, mo, r1, rv, q1⟩
    exact q1.isB r1 rv
  exact both ha hb I h2 fun v u s2 x y H2 g2 ms m1 m2 I2 r2 rv1 rv2 l1 l2 q =>
    thn (ho pins s2 σ H2 g2 ms m1 m2 x y v u _ I2 r2 rv1 rv2 l1 l2 q) fun c s3 ⟨z, H3, I3, r3, k, e, q3⟩ => by
      subst e
      cases r3
      exact wpAny_truthy_bool ⟨H3, I3, q3⟩
def mNot (t : MT) : MT := fun s => (t s).bind fun k s1 => .ok (!k) s1
def mAnd (t u : MT) : MT := fun s => (t s).bind fun k s1 => if k = true then u s1 else .ok false s1
def mOr (t u : MT) : MT := fun s => (t s).bind fun k s1 => if k = true then .ok true s1 else u s1
variable {t u : MT} {rest : List Expr}
theorem rdT_bind {γ δ : Type} {S : Gh → Hp → γ → δ → Prop} {σ : L2.St} {H : Hp} {f : Bool → MS → Res γ} {Q : δ → Hp → Prop} (h : ∃ g s, C.rel g s σ H ∧ Go C S σ ((t s).bind f) g H Q) :
    rdT C t σ H fun k H1 => ∃ s1 g1, C.rel g1 s1 σ H1 ∧ Go C S σ (f k s1) g1 H1 Q := by
  obtain ⟨g, s, r, q⟩ := h
  refine ⟨g, s, r, (Go.bind (R := REq) q).imp ?_⟩
  rintro k H1 ⟨k', s1, g1, mo, r1, rv, q1⟩
  cases rv
  exact ⟨s1, g1, r1, q1⟩
theorem tm_not (ha : PMt C ea t) : PMt C (.UnaryOp .Not ea pos) (mNot t) :=
  wkT (pt_not ha) fun σ H Q h => by
    obtain ⟨g, s, r, q⟩ := rdT_bind h
    refine ⟨g, s, r, q.imp ?_⟩
    rintro k H1 ⟨s1, g1, r1, q1⟩
    exact q1.ret r1 rfl
theorem wm_and1 (ha : PMt C ea t) : PMw C (.BoolOp .And [ea] pos) t := pw_and1 ha
theorem wm_or1 (ha : PMt C ea t) : PMw C (.BoolOp .Or [ea] pos) t := pw_or1 ha
theorem wm_and (ha : PMt C ea t) (hb : PMw C (.BoolOp .And (eb :: rest) pos) u) : PMw C (.BoolOp .And (ea :: eb :: rest) pos) (mAnd t u) :=
  wkW (pw_and ha hb) fun σ H Q h => by
    obtain ⟨g, s, r, q⟩ := rdT_bind h
    refine ⟨g, s, r, q.imp ?_⟩
    rintro k H1 ⟨s1, g1, r1, q1⟩
    cases k with
    | true => exact ⟨g1, s1, r1, q1⟩
    | false => exact q1.ret r1 rfl
theorem wm_or (ha : PMt C ea t) (hb : PMw C (.BoolOp .Or (eb :: rest) pos) u) : PMw C (.BoolOp .Or (ea :: eb :: rest) pos) (mOr t u) :=
  wkW (pw_or ha hb) fun σ H Q h => by
    obtain ⟨g, s, r, q⟩ := rdT_bind h
    refine ⟨g, s, r, q.imp ?_⟩
    rintro k H1 ⟨s1, g1, r1, q1⟩
    cases k with
    | true => exact q1.ret r1 rfl
    | false => exact ⟨g1, s1, r1, q1⟩
theorem tm_w (h : PMw C ea t) : PMt C ea t := h.pt
/-- and, or, not as values: of bools -/
def mAndV (a b : ME) : ME := fun s => (a s).bind fun x s1 => match x with
  | .bl k => if k = true then b s1 else .ok (.bl false) s1
  | _ => .stuck
def mOrV (a b : ME) : ME := fun s => (a s).bind fun x s1 => match x with
  | .bl k => if k = true then .ok (.bl true) s1 else b s1
  | _ => .stuck
def mNotV (a : ME) : ME := fun s => (a s).bind fun x s1 => match x with
  | .bl k => .ok (.bl (!k)) s1
  | _ => .stuck
theorem rdE_bind {γ δ : Type} {S : Gh → Hp → γ → δ → Prop} {σ : L2.St} {H : Hp} {f : M → MS → Res γ} {Q : δ → Hp → Prop} (h : ∃ g s, C.rel g s σ H ∧ Go C S σ ((a s).bind f) g H Q) :
    rdE C a σ H fun x H1 => ∃ m s1 g1, C.rel g1 s1 σ H1 ∧ RV C.T g1 H1 m x ∧ Go C S σ (f m s1) g1 H1 Q := by
  obtain ⟨g, s, r, q⟩ := h
  refine ⟨g, s, r, (Go.bind (R := C.V1) q).imp ?_⟩
  rintro x H1 ⟨m, s1, g1, mo, r1, rv, q1⟩
  exact ⟨m, s1, g1, r1, rv, q1⟩
theorem em_one {op} (h : PMe C ea a) : PMe C (.BoolOp op [ea] pos) a := pe_one h
theorem em_and (ha : PMe C ea a) (hb : PMe C (.BoolOp .And (eb :: rest) pos) b) : PMe C (.BoolOp .And (ea :: eb :: rest) pos) (mAndV a b) :=
  wkE (pe_and ha hb) fun σ H Q h => by
    obtain ⟨g, s, r, q⟩ := rdE_bind h
    refine ⟨g, s, r, q.imp ?_⟩
    rintro k H1 ⟨m, s1, g1, r1, rv, q1⟩
    cases rv with
    | bl k =>
      refine ⟨k, rfl, ?_⟩
      cases k with
      | true => exact ⟨g1, s1, r1, q1⟩
      | false => exact q1.ret r1 (.bl _)
    | _ => exact q1.elim
theorem em_or (ha : PMe C ea a) (hb : PMe C (.BoolOp .Or (eb :: rest) pos) b) : PMe C (.BoolOp .Or (ea :: eb :: rest) pos) (mOrV a b) :=
  wkE (pe_or ha hb) fun σ H Q h => by
    obtain ⟨g, s, r, q⟩ := rdE_bind h
    refine ⟨g, s, r, q.imp ?_⟩
    rintro k H1 ⟨m, s1, g1, r1, rv, q1⟩
    cases rv with
    | bl k =>
      refine ⟨k, rfl, ?_⟩
      cases k with
      | true => exact q1.ret r1 (.bl _)
      | false => exact ⟨g1, s1, r1, q1⟩
    | _ => exact q1.elim
theorem em_not (ha : PMe C ea a) : PMe C (.UnaryOp .Not ea pos) (mNotV a) :=
  wkE (pe_not ha) fun σ H Q h => by
    obtain ⟨g, s, r, q⟩ := rdE_bind h
    refine ⟨g, s, r, q.imp ?_⟩
    rintro k H1 ⟨m, s1, g1, r1, rv, q1⟩
    cases rv with
    | bl k => exact ⟨k, rfl, q1.ret r1 (.bl _)⟩
    | _ => exact q1.elim
def mIf (t : MT) (a b : ME) : ME := fun s => (t s).bind fun k s1 => if k = true then a s1 else b s1
theorem em_if (hc : PMt C ec t) (ha : PMe C ea a) (hb : PMe C eb b) : PMe C (.IfExp ec ea eb pos) (mIf t a b) :=
  wkE (pe_ifExp hc ha hb) fun σ H Q h => by
    obtain ⟨g, s, r, q⟩ := rdT_bind h
    refine ⟨g, s, r, q.imp ?_⟩
    rintro k H1 ⟨s1, g1, r1, q1⟩
    cases k with
    | true => exact ⟨g1, s1, r1, q1⟩
    | false => exact ⟨g1, s1, r1, q1⟩
/-! ### argument lists -/
def mNil : MA := fun s => .ok [] s
def mCons (a : ME) (b : MA) : MA := fun s => (a s).bind fun x s1 => (b s1).bind fun xs s2 => .ok (x :: xs) s2
theorem am_nil : PMa C [] mNil := wkA pa_nil fun σ H Q ⟨g, s, r, q⟩ => q.ret r .nil
theorem am_cons {es : List Expr} {m : MA} (ha : PMe C ea a) (hb : PMa C es m) (he : starEach (ea :: es) C.X.env = (false, eval ea C.X.env) :: starEach es C.X.env := by rfl) : PMa C (ea :: es) (mCons a m) :=
  wkA (pa_cons ha hb he) fun σ H Q h => by
    obtain ⟨g, s, r, q⟩ := rdE_bind h
    refine ⟨g, s, r, q.imp ?_⟩
    rintro x H1 ⟨m, s1, g1, r1, rv, q1⟩
    refine ⟨g1, s1, r1, (Go.bind (R := C.Vn) q1).imp ?_⟩
    rintro xs H2 ⟨ms, s2, g2, mo2, r2, rvs, q2⟩
    exact q2.ret r2 (.cons (rv.mono mo2) rvs)
end
end Ma
/-! Ma5: statements: blocks, assignments, if, while, for. -/
namespace Ma
open L2 PySem
section
variable {C : MC} {g g1 : Gh} {H H1 : Hp} {D D' : Ends}
theorem GoS.later {r : Res Fl} (m : Mono g H g1 H1) (h : GoS C r g H D) : GoS C r g1 H1 D := by
  cases r with
  | ok f s => cases f with
    | nx => exact fun g' H' σ q => h g' H' σ (m.trans q)
    | bk => exact fun g' H' σ q => h g' H' σ (m.trans q)
    | ct => exact fun g' H' σ q => h g' H' σ (m.trans q)
    | rt v => exact fun g' H' σ v q => h g' H' σ v (m.trans q)
  | err x s => exact fun g' H' σ cls d q => h g' H' σ cls d (m.trans q)
  | stuck => exact h
/-- an expression, then a statement's rest -/
theorem Go.bindS {α β : Type} {R : Gh → Hp → α → β → Prop} {σ : L2.St} {r : Res α} {f : α → MS → Res Fl} (h : GoS C (r.bind f) g H D) :
    Go C R σ r g H fun x H1 => ∃ m s1 g1, Mono g H g1 H1 ∧ C.rel g1 s1 σ H1 ∧ R g1 H1 m x ∧ GoS C (f m s1) g1 H1 D := by
  cases r with
  | ok a s => exact fun g' H' v q r x => ⟨a, s, g', q, r, x, h.later q⟩
  | err x s => exact fun g' H' cls d q r x => h g' H' σ cls d q r x
  | stuck => exact h
theorem GoS.nx {s : MS} {σ : L2.St} (h : GoS C (.ok .nx s) g H D) (r : C.rel g s σ H) : D.nx σ H := h g H σ (Mono.refl _ _) r
def sNx : MStm := fun s => .ok .nx s
def sSeq (a b : MStm) : MStm := fun s => (a s).bind fun f s1 => match f with
  | .nx => b s1
  | f => .ok f s1
theorem rdS_seq {a b : MStm} {σ : L2.St} (h : rdS C (sSeq a b) D σ H) : rdS C a { D with nx := rdS C b D } σ H := by
  obtain ⟨g, s, r, q⟩ := h
  refine ⟨g, s, r, ?_⟩
  unfold sSeq at q
  cases ha : a s with
  | ok f s1 =>
    rw [ha] at q
    cases f with
    | nx => exact fun g' H' σ m r => ⟨g', s1, r, GoS.later m q⟩
    | bk => exact q
    | ct => exact q
    | rt v => exact q
  | err x s1 => rw [ha] at q; exact q
  | stuck => rw [ha] at q; exact q
variable {st : Stmt} {rest : List Stmt} {a b : MStm} {pos : Pos} {ex : Expr} {m : ME} {i : Nat} {x : Str}
theorem bm_nil : PMb C [] sNx := wkB pss_nil fun D σ H ⟨g, s, r, q⟩ => q.nx r
theorem bm_cons (h1 : PMs C st a) (h2 : PMb C rest b) : PMb C (st :: rest) (sSeq a b) := wkB (pss_cons h1 h2) fun D σ H h => rdS_seq h
theorem bm_one (h1 : PMs C st a) : PMb C [st] a := pss_one h1
def sExpr (m : ME) : MStm := fun s => (m s).bind fun _ s1 => .ok .nx s1
def sRet (m : ME) : MStm := fun s => (m s).bind fun v s1 => .ok (.rt v) s1
def sSet (i : Nat) (m : ME) : MStm := fun s => (m s).bind fun v s1 => .ok .nx ⟨s1.env.set i (some v), s1.hp⟩
theorem rdE_bindS {f : M → MS → Res Fl} {σ : L2.St} (h : ∃ g s, C.rel g s σ H ∧ GoS C ((m s).bind f) g H D) :
    rdE C m σ H fun x H1 => ∃ v s1 g1, C.rel g1 s1 σ H1 ∧ RV C.T g1 H1 v x ∧ GoS C (f v s1) g1 H1 D := by
  obtain ⟨g, s, r, q⟩ := h
  refine ⟨g, s, r, (Go.bindS (R := C.V1) (σ := σ) q).imp ?_⟩
  rintro x H1 ⟨m, s1, g1, mo, r1, rv, q1⟩
  exact ⟨m, s1, g1, r1, rv, q1⟩
theorem rdT_bindS {t : MT} {f : Bool → MS → Res Fl} {σ : L2.St} (h : ∃ g s, C.rel g s σ H ∧ GoS C ((t s).bind f) g H D) :
    rdT C t σ H fun k H1 => ∃ s1 g1, C.rel g1 s1 σ H1 ∧ GoS C (f k s1) g1 H1 D := by
  obtain ⟨g, s, r, q⟩ := h
  refine ⟨g, s, r, (Go.bindS (R := REq) (σ := σ) q).imp ?_⟩
  rintro x H1 ⟨m, s1, g1, mo, r1, rv, q1⟩
  cases rv
  exact ⟨s1, g1, r1, q1⟩
theorem rdA_bindS {t : MA} {f : List M → MS → Res Fl} {σ : L2.St} (h : ∃ g s, C.rel g s σ H ∧ GoS C ((t s).bind f) g H D) :
    rdA C t σ H fun xs H1 => ∃ v s1 g1, C.rel g1 s1 σ H1 ∧ RVs C.T g1 H1 v xs ∧ GoS C (f v s1) g1 H1 D := by
  obtain ⟨g, s, r, q⟩ := h
  refine ⟨g, s, r, (Go.bindS (R := C.Vn) (σ := σ) q).imp ?_⟩
  rintro x H1 ⟨m, s1, g1, mo, r1, rv, q1⟩
  exact ⟨m, s1, g1, r1, rv, q1⟩
theorem sm_expr (he : PMe C ex m) (hs : swapsWith ex none pos.line C.X.env = pure false := by rfl) : PMs C (.Expr ex pos) (sExpr m) :=
  wkS (ps_expr he hs) fun D σ H h => by
    obtain ⟨g, s, r, q⟩ := rdE_bindS h
    exact ⟨g, s, r, q.imp fun x H1 ⟨v, s1, g1, r1, rv, q1⟩ => q1.nx r1⟩
theorem sm_ret (he : PMe C ex m) : PMs C (.Return (some ex) pos) (sRet m) :=
  wkS (ps_ret he) fun D σ H h => by
    obtain ⟨g, s, r, q⟩ := rdE_bindS h
    exact ⟨g, s, r, q.imp fun x H1 ⟨v, s1, g1, r1, rv, q1⟩ => q1 g1 H1 σ x (Mono.refl _ _) r1 rv⟩
theorem sm_set (i : Nat) {pos' : Pos} (hN : C.X.N.Nodup) (hi : C.X.N[i]? = some x) (hx : Loc C.X.env.scope x) (he : PMe C ex m) (hs : swapsWith ex (some (.Name x pos')) pos.line C.X.env = pure false := by rfl)
    (hf : C.X.fn x = true ∨ C.X.env.scope.names.lookup x = some .local := by first | exact .inl rfl | exact .inr rfl | assumption) : PMs C (.Assign [.Name x pos'] ex pos) (sSet i m) :=
  wkS (ps_set hN hi hx he hs hf) fun D σ H h => by
    obtain ⟨g, s, r, q⟩ := rdE_bindS h
    exact ⟨g, s, r, q.imp fun x H1 ⟨v, s1, g1, r1, rv, q1⟩ => q1.nx (r1.put rv)⟩
def sPar2 (i j : Nat) (m : MA) : MStm := fun s => (m s).bind fun vs s1 => match vs with
  | [v, w] => .ok .nx ⟨(s1.env.set i (some v)).set j (some w), s1.hp⟩
  | _ => .stuck
theorem sm_par2 (i j : Nat) {x y : Str} {ea eb : Expr} {ma : MA} {px py pt : Pos} {kt k2 pt2} (hc : C.X.calm = true) (hN : C.X.N.Nodup) (ha : PMa C [ea, eb] ma) (hi : C.X.N[i]? = some x := by rfl) (hj : C.X.N[j]? = some y := by rfl) (hij : i ≠ j := by decide)
    (hx : C.X.env.scope.names.lookup x = some .local := by rfl) (hy : C.X.env.scope.names.lookup y = some .local := by rfl)
    (hw : swappedStores [.Tuple [.Name x px, .Name y py] kt pt] (.Tuple [ea, eb] k2 pt2) C.X.env = pure (some [x, y]) := by rfl)
    (hs : swapsWithSole [.Tuple [.Name x px, .Name y py] kt pt] (.Tuple [ea, eb] k2 pt2) pos.line C.X.env = pure false := by rfl) :
    PMs C (.Assign [.Tuple [.Name x px, .Name y py] kt pt] (.Tuple [ea, eb] k2 pt2) pos) (sPar2 i j ma) :=
  wkS (ps_par hc hN hi hj hij hx hy ha hw hs) fun D σ H h => by
    obtain ⟨g, s, r, q⟩ := rdA_bindS h
    refine ⟨g, s, r, q.imp ?_⟩
    rintro xs H1 ⟨vs, s1, g1, r1, rv, q1⟩
    cases rv with
    | nil => exact q1.elim
    | cons rv1 rv => cases rv with
      | nil => exact q1.elim
      | cons rv2 rv => cases rv with
        | cons _ _ => exact q1.elim
        | nil => exact ⟨_, _, rfl, q1.nx ((r1.put rv1).put rv2)⟩
def sIf (t : MT) (a b : MStm) : MStm := fun s => (t s).bind fun k s1 => if k = true then a s1 else b s1
theorem sm_if {t : MT} {ss us : List Stmt} (hc : PMt C ex t) (ha : PMb C ss a) (hb : PMb C us b) : PMs C (.If ex ss us pos) (sIf t a b) :=
  wkS (ps_if hc ha hb) fun D σ H h => by
    obtain ⟨g, s, r, q⟩ := rdT_bindS h
    refine ⟨g, s, r, q.imp ?_⟩
    rintro k H1 ⟨s1, g1, r1, q1⟩
    cases k with
    | true => exact ⟨g1, s1, r1, q1⟩
    | false => exact ⟨g1, s1, r1, q1⟩
/-! ### while -/
/-- a loop's turn: the body, then on, or out -/
theorem turn_of {b : MStm} {k : MStm} {s : MS} {σ : L2.St} (r : C.rel g s σ H) (q : GoS C ((b s).bind fun f s2 => (match f with
      | .nx => k s2
      | .ct => k s2
      | .bk => .ok .nx s2
      | .rt v => .ok (.rt v) s2)) g H D) :
    rdS C b { D with nx := fun σ' H' => ∃ g' s', Mono g H g' H' ∧ C.rel g' s' σ' H' ∧ GoS C (k s') g' H' D, ct := fun σ' H' => ∃ g' s', Mono g H g' H' ∧ C.rel g' s' σ' H' ∧ GoS C (k s') g' H' D, bk := D.nx } σ H := by
  refine ⟨g, s, r, ?_⟩
  cases hb : b s with
  | ok f s2 =>
    rw [hb] at q
    cases f with
    | nx => exact fun g' H' σ m r => ⟨g', s2, m, r, GoS.later m q⟩
    | ct => exact fun g' H' σ m r => ⟨g', s2, m, r, GoS.later m q⟩
    | bk => exact q
    | rt v => exact q
  | err x s2 => rw [hb] at q; exact q
  | stuck => rw [hb] at q; exact q
end
end Ma
/-! Ma6: what a loop walks, its targets, for. -/
namespace Ma
open L2 PySem
section
variable {C : MC} {g g1 : Gh} {H H1 : Hp} {D : Ends}
/-- a new object at an untracked place -/
theorem RelH.laid {T : Tab} {e : En} {hp : List Cell} {p : Addr} {o : HO} (r : RelH T e g hp H) (hn : H p = none) (ho : NoTbl o := by first | exact Plain.tbl (by assumption) | assumption | exact fun _ z => by cases z | exact fun _ z => by unfold XO at z; cases z) : RelH T e g hp (upd H p o) := by
  have ne : ∀ {a u}, H a = some u → a ≠ p := fun h => ne_of_none h hn
  have mo : Mono g H g (upd H p o) := ⟨⟨List.prefix_refl _, fun _ h => h, fun a h => by obtain ⟨u, q⟩ := r.fzt a h; rw [upd_ne (ne q)], fun a vs h => by rw [upd_ne (ne h)]; exact h⟩, fun a o u h => by rw [upd_ne (ne h)]; exact h⟩
  refine ⟨r.len, r.nd, fun n c a h1 h2 => ?_, r.thaw, fun a h => ?_, fun a h => ?_, fun a u h1 h2 => ?_, r.nfz, r.nro, r.m0.trans mo, r.tb.upd (fun u z => by rw [hn] at z; cases z) ho (fun hp => by obtain ⟨u, q⟩ := r.rot p hp; rw [hn] at q; cases q), r.tbe⟩
  · obtain ⟨u, q⟩ := r.rot a (List.mem_of_getElem? h2)
    exact (r.cell n c a h1 h2).mono mo (by rw [upd_ne (ne q)])
  · obtain ⟨u, q⟩ := r.fzt a h
    exact ⟨u, by rw [upd_ne (ne q)]; exact q⟩
  · obtain ⟨u, q⟩ := r.rot a h
    exact ⟨u, by rw [upd_ne (ne q)]; exact q⟩
  · have q := r.frm a u h1 h2
    rw [upd_ne (ne q)]
    exact q
theorem mono_laid {T : Tab} {e : En} {hp : List Cell} {p : Addr} {o : HO} (r : RelH T e g hp H) (hn : H p = none) : Mono g H g (upd H p o) := by
  have ne : ∀ {a u}, H a = some u → a ≠ p := fun h => ne_of_none h hn
  exact ⟨⟨List.prefix_refl _, fun _ h => h, fun a h => by obtain ⟨u, q⟩ := r.fzt a h; rw [upd_ne (ne q)], fun a vs h => by rw [upd_ne (ne h)]; exact h⟩, fun a o u h => by rw [upd_ne (ne h)]; exact h⟩
theorem Rel.laid {s : MS} {σ : L2.St} {p : Addr} {o : HO} (r : C.rel g s σ H) (hn : H p = none) (ho : NoTbl o := by first | exact Plain.tbl (by assumption) | assumption | exact fun _ z => by cases z | exact fun _ z => by unfold XO at z; cases z) : C.rel g s σ (upd H p o) :=
  r.env (mono_laid r.h hn) (r.h.laid hn ho)
/-- items to be walked -/
def Wk (C : MC) (g : Gh) (H : Hp) (items : List M) (J : It) : Prop := ∃ (G : Hp → Prop) (Y : Nat → Hp → V → Hp → Prop), Walk J items.length G Y ∧ (∀ g1 H1, Mono g H g1 H1 → G H1) ∧
  ∀ i g1 H1 s σ x H2, i < items.length → Mono g H g1 H1 → C.rel g1 s σ H1 → Y i H1 x H2 → ∃ m, items[i]? = some m ∧ Mono g1 H1 g1 H2 ∧ C.rel g1 s σ H2 ∧ RV C.T g1 H2 m x ∧ Same H1 H2
/-- a walk's source -/
abbrev MI := MS → Res (List M)
def GoI (C : MC) (σ : L2.St) (r : Res (List M)) (g : Gh) (H : Hp) (R : It → Hp → Prop) : Prop := match r with
  | .ok items s1 => ∀ (g' : Gh) (H' : Hp) (J : It), Mono g H g' H' → C.rel g' s1 σ H' → Wk C g' H' items J → R J H'
  | .err x s1 => ∀ (g' : Gh) (H' : Hp) (cls : Value) (d : Option Addr), Mono g H g' H' → C.rel g' s1 σ H' → XR C.T g' H' x cls d → C.W cls d σ H'
  | .stuck => False
def rdI (C : MC) (m : MI) : TI := fun σ H R => ∃ g s, C.rel g s σ H ∧ GoI C σ (m s) g H R
theorem GoI.later {σ : L2.St} {r : Res (List M)} {R : It → Hp → Prop} (m : Mono g H g1 H1) (h : GoI C σ r g H R) : GoI C σ r g1 H1 R := by
  cases r with
  | ok a s => exact fun g' H' J q => h g' H' J (m.trans q)
  | err x s => exact fun g' H' cls d q => h g' H' cls d (m.trans q)
  | stuck => exact h
theorem Go.bindI {α β : Type} {Rl : Gh → Hp → α → β → Prop} {σ : L2.St} {r : Res α} {f : α → MS → Res (List M)} {R : It → Hp → Prop} (h : GoI C σ (r.bind f) g H R) :
    Go C Rl σ r g H fun x H1 => ∃ m s1 g1, Mono g H g1 H1 ∧ C.rel g1 s1 σ H1 ∧ Rl g1 H1 m x ∧ GoI C σ (f m s1) g1 H1 R := by
  cases r with
  | ok a s => exact fun g' H' v q r x => ⟨a, s, g', q, r, x, h.later q⟩
  | err x s => exact h
  | stuck => exact h
theorem rdA_bindI {t : MA} {f : List M → MS → Res (List M)} {σ : L2.St} {R : It → Hp → Prop} (h : rdI C (fun s => (t s).bind f) σ H R) :
    rdA C t σ H fun xs H1 => ∃ v s1 g1, C.rel g1 s1 σ H1 ∧ RVs C.T g1 H1 v xs ∧ GoI C σ (f v s1) g1 H1 R := by
  obtain ⟨g, s, r, q⟩ := h
  refine ⟨g, s, r, (Go.bindI (Rl := C.Vn) q).imp ?_⟩
  rintro x H1 ⟨m, s1, g1, mo, r1, rv, q1⟩
  exact ⟨m, s1, g1, r1, rv, q1⟩
theorem rdE_bindI {t : ME} {f : M → MS → Res (List M)} {σ : L2.St} {R : It → Hp → Prop} (h : rdI C (fun s => (t s).bind f) σ H R) :
    rdE C t σ H fun x H1 => ∃ v s1 g1, C.rel g1 s1 σ H1 ∧ RV C.T g1 H1 v x ∧ GoI C σ (f v s1) g1 H1 R := by
  obtain ⟨g, s, r, q⟩ := h
  refine ⟨g, s, r, (Go.bindI (Rl := C.V1) q).imp ?_⟩
  rintro x H1 ⟨m, s1, g1, mo, r1, rv, q1⟩
  exact ⟨m, s1, g1, r1, rv, q1⟩
abbrev PMi (C : MC) (tg it : Expr) (m : MI) : Prop := PI C.X tg it (rdI C m)
/-- a target -/
abbrev MG := M → MS → Res Unit
def rdG (C : MC) (m : MG) : TG := fun v σ H Q => ∃ g s w, C.rel g s σ H ∧ RV C.T g H w v ∧ match m w s with
  | .ok _ s1 => ∀ (g' : Gh) (H' : Hp) (σ' : L2.St), Mono g H g' H' → C.rel g' s1 σ' H' → Q σ' H'
  | .err x s1 => ∀ (g' : Gh) (H' : Hp) (cls : Value) (d : Option Addr), Mono g H g' H' → C.rel g' s1 σ H' → XR C.T g' H' x cls d → C.W cls d σ H'
  | .stuck => False
abbrev PMg (C : MC) (tg : Expr) (m : MG) : Prop := PG C.X tg (rdG C m)
def gSet (i : Nat) : MG := fun w s => .ok () ⟨s.env.set i (some w), s.hp⟩
theorem wkG {X : Cx} {tg : Expr} {t t' : TG} (h : PG X tg t) (k : ∀ v σ H Q, t' v σ H Q → t v σ H Q) : PG X tg t' := ⟨fun pins s σ H v u Q I r q => h.run pins s σ H v u Q I r (k _ _ _ _ q)⟩
theorem gm_name (i : Nat) {x : Str} {pos : Pos} (hN : C.X.N.Nodup) (hi : C.X.N[i]? = some x) (hx : Loc C.X.env.scope x) (hf : C.X.fn x = true ∨ C.X.env.scope.names.lookup x = some .local := by first | exact .inl rfl | exact .inr rfl | assumption) : PMg C (.Name x pos) (gSet i) :=
  wkG (pg_name hN hi hx hf) fun v σ H Q ⟨g, s, w, r, rv, q⟩ => q g H _ (Mono.refl _ _) (r.put rv)
def sFor (tg : MG) (b : MStm) : List M → MStm
  | [] => fun s => .ok .nx s
  | x :: xs => fun s => (tg x s).bind fun _ s1 => (b s1).bind fun f s2 => (match f with
      | .nx => sFor tg b xs s2
      | .ct => sFor tg b xs s2
      | .bk => .ok .nx s2
      | .rt v => .ok (.rt v) s2)
def sForI (it : MI) (tg : MG) (b : MStm) : MStm := fun s => (it s).bind fun xs s1 => sFor tg b xs s1
theorem drop_of {α : Type} {xs : List α} {i : Nat} {m : α} (h : xs[i]? = some m) : xs.drop i = m :: xs.drop (i + 1) := by
  obtain ⟨hi, e⟩ := List.getElem?_eq_some_iff.mp h
  rw [← e]
  exact List.drop_eq_getElem_cons hi
theorem sm_for {tg it : Expr} {body : List Stmt} {mi : MI} {mg : MG} {b : MStm} {pos : Pos} (hp : PassesOwn (model C.X.prog C.X.w) C.X.A C.X.env C.X.xe) (hc : C.X.calm = true) (hi : PMi C tg it mi) (hg : PMg C tg mg) (hb : PMb C body b)
    (hs : ∀ x, foldedSetIterable it C.X.env x = pure x := by intro _; rfl) : PMs C (.For tg it body [] pos) (sForI mi mg b) :=
  wkS (ps_for hp hc hi hg hb hs) fun D σ H h => by
    obtain ⟨g, s, r, q⟩ := h
    refine ⟨g, s, r, ?_⟩
    unfold sForI at q
    unfold GoI
    cases hm : mi s with
    | stuck => rw [hm] at q; exact q.elim
    | err x s1 => rw [hm] at q; exact fun g' H' cls d mo r1 xr => q g' H' σ cls d mo r1 xr
    | ok items s1 =>
      rw [hm] at q
      intro g0 H0 J mo0 r0 wk
      obtain ⟨G, Y, w, hG, hY⟩ := wk
      have q0 : GoS C (sFor mg b items s1) g0 H0 D := GoS.later mo0 q
      refine for_it w (fun i σ H => ∃ g s, Mono g0 H0 g H ∧ C.rel g s σ H ∧ GoS C (sFor mg b (items.drop i) s) g H D) ⟨g0, s1, Mono.refl _ _, r0, q0⟩ (fun i σ H _ ⟨g, s, mo, _, _⟩ => hG g H mo) ?_ ?_
      · rintro i x σ1 H1 H2 hi ⟨g1, s1, mo1, r1, q1⟩ y
        obtain ⟨m, hm, mo2, r2, rv, _⟩ := hY i g1 H1 s1 σ1 x H2 hi mo1 r1 y
        rw [drop_of hm] at q1
        have q1 := GoS.later mo2 q1
        refine ⟨g1, s1, m, r2, rv, ?_⟩
        unfold sFor at q1
        cases ht : mg m s1 with
        | stuck => rw [ht] at q1; exact q1.elim
        | err x s3 => rw [ht] at q1; exact fun g' H' cls d mo r1 xr => q1 g' H' σ1 cls d mo r1 xr
        | ok u s3 =>
          rw [ht] at q1
          intro g3 H3 σ3 mo3 r3
          have q3 := GoS.later mo3 q1
          have tn := turn_of (C := C) (b := b) (k := sFor mg b (items.drop (i + 1))) r3 q3
          obtain ⟨g4, s4, r4, q4⟩ := tn
          refine ⟨g4, s4, r4, ?_⟩
          have lift : ∀ σ' H', (∃ g' s', Mono g3 H3 g' H' ∧ C.rel g' s' σ' H' ∧ GoS C (sFor mg b (items.drop (i + 1)) s') g' H' D) → ∃ g s, Mono g0 H0 g H' ∧ C.rel g s σ' H' ∧ GoS C (sFor mg b (items.drop (i + 1)) s) g H' D :=
            fun σ' H' ⟨g', s', mo', r', q'⟩ => ⟨g', s', ((mo1.trans mo2).trans mo3).trans mo', r', q'⟩
          cases hb4 : b s4 with
          | stuck => rw [hb4] at q4; exact q4.elim
          | err x s5 => rw [hb4] at q4; exact q4
          | ok f s5 =>
            rw [hb4] at q4
            cases f with
            | nx => exact fun g' H' σ' mo r' => lift σ' H' (q4 g' H' σ' mo r')
            | ct => exact fun g' H' σ' mo r' => lift σ' H' (q4 g' H' σ' mo r')
            | bk => exact q4
            | rt v => exact q4
      · rintro σ1 H1 ⟨g1, s1, mo1, r1, q1⟩
        rw [List.drop_length] at q1
        exact q1.nx r1
end
end Ma
/-! Ma7: walks over lists, tuples, the script, ranges, enumerate, the keys of a dict; targets in parentheses. -/
namespace Ma
open L2 PySem
section
variable {C : MC} {g g1 : Gh} {H H1 : Hp} {tg ex : Expr} {a : ME} {pos p : Pos}
def itemsOf : M → Option (List M)
  | .lst ms => some ms
  | .tup ms => some ms
  | .scr ns => some (ns.map M.int)
  | .dct ks _ => some (ks.map fun | .inl i => M.int i | .inr x => M.str x)
  | _ => none
def iSeq (a : ME) : MI := fun s => (a s).bind fun m s1 => match itemsOf m with
  | some ms => .ok ms s1
  | none => .stuck
theorem wk_of {items : List M} {vs : List V} {J : It} {G : Hp → Prop} (w : Walk J items.length G (YAt vs)) (hG : ∀ g1 H1, Mono g H g1 H1 → G H1) (r : RVs C.T g H items vs) : Wk C g H items J := by
  refine ⟨G, YAt vs, w, hG, fun i g1 H1 s σ x H2 hlt mo rel y => ?_⟩
  obtain ⟨rfl, hx⟩ := y
  have hl : i < items.length := by rw [r.length]; exact (List.getElem?_eq_some_iff.mp hx).1
  obtain ⟨v, hv, rv⟩ := r.get (List.getElem?_eq_getElem hl)
  rw [hx] at hv
  cases hv
  exact ⟨_, List.getElem?_eq_getElem hl, Mono.refl _ _, rel, rv.mono mo, Same.refl _⟩
theorem rv_keys {T : Tab} : ∀ ks : List Key, RVs T g H (ks.map fun | .inl i => M.int i | .inr x => M.str x) (ks.map kV)
  | [] => .nil
  | .inl i :: ks => .cons (.int i) (rv_keys ks)
  | .inr x :: ks => .cons (.str x) (rv_keys ks)
theorem zip_get {ks : List Key} {vs : List V} (hl : ks.length = vs.length) {i : Nat} {k : Key} {v : V} (h : (ks.zip vs)[i]? = some (k, v)) : ks[i]? = some k := by
  rw [List.getElem?_zip_eq_some] at h
  exact h.1
theorem im_seq (ha : PMe C ex a) : PMi C tg ex (iSeq a) := by
  refine ⟨fun pins s σ H R I h => ?_⟩
  refine thn (ha.run pins s σ H _ I (rdE_bindI h)) fun u s1 ⟨x, H1, I1, rx, m, ms1, g1, r1, rv, q⟩ => ?_
  obtain ⟨items, hm, k⟩ : ∃ items, itemsOf m = some items ∧ ∀ (J : It), Wk C g1 H1 items J → R J H1 := by
    cases hm : itemsOf m with
    | none => rw [hm] at q; exact q.elim
    | some items => rw [hm] at q; exact ⟨items, rfl, fun J wk => q g1 H1 J (Mono.refl _ _) r1 wk⟩
  have fp1 : ∀ b ∈ [s1.heap.objs.size], FpOk C.X pins H1 b := fun b hb => by
    have e : b = s1.heap.objs.size := by simpa using hb
    subst e
    exact I1.fpOk (Nat.le_refl _) (I1.hok.fresh (Nat.le_refl _))
  cases rv with
  | @lst a _ vs f e rs =>
    cases hm
    cases rx
    have hq : SqL C.X.K H1 a vs := .inl (.inl e)
    obtain ⟨its, rv, pl, hz⟩ := I1.list hq
    refine wpAny_pyIter_list pl.isList ?_
    exact ⟨s1.heap.objs.size, [s1.heap.objs.size], _, _, H1, rfl, I1.kept (t' := s1.toks) fun b o e => Heap.get?_push_of_some _ e, turn_list a _, ⟨_, Heap.get?_push_size _ rfl, rfl, rfl⟩, fp1,
      k _ (wk_of (rs.length ▸ walk_list (K := C.X.K) (a := a) (xs := vs)) (fun g2 H2 mo2 => .inl (.inl ((mo2.fh _ f).trans e))) rs)⟩
  | @tup a _ vs e rs =>
    cases hm
    cases rx
    have hq : SqT C.X.K H1 a vs := .inl (.inl e)
    obtain ⟨its, rv, pl, hz⟩ := I1.tuple hq
    refine wpAny_pyIter_tuple (show s1.heap.IsTuple a its.toArray from pl) ?_
    exact ⟨s1.heap.objs.size, [s1.heap.objs.size], _, _, H1, rfl, I1.kept (t' := s1.toks) fun b o e => Heap.get?_push_of_some _ e, turn_tuple a _, ⟨_, Heap.get?_push_size _ rfl, rfl, rfl⟩, fp1,
      k _ (wk_of (rs.length ▸ walk_tup (K := C.X.K) (a := a) (xs := vs)) (fun g2 H2 mo2 => .inl (.inl (mo2.tup _ _ e))) rs)⟩
  | @scr a o ns f e =>
    cases hm
    cases rx
    have hq : SqL C.X.K H1 a (ns.map V.int) := .inl (.inr ⟨_, e⟩)
    obtain ⟨its, rv, pl, hz⟩ := I1.list hq
    refine wpAny_pyIter_list pl.isList ?_
    exact ⟨s1.heap.objs.size, [s1.heap.objs.size], _, _, H1, rfl, I1.kept (t' := s1.toks) fun b o e => Heap.get?_push_of_some _ e, turn_list a _, ⟨_, Heap.get?_push_size _ rfl, rfl, rfl⟩, fp1,
      k _ (wk_of ((RVs.ints (T := C.T) (g := g1) (H := H1) ns).length ▸ walk_list (K := C.X.K) (a := a) (xs := ns.map V.int)) (fun g2 H2 mo2 => .inl (.inr ⟨_, (mo2.fh _ f).trans e⟩)) (RVs.ints ns))⟩
  | @scrK a ns e =>
    cases hm
    cases rx
    have hq : ∀ H, SqL C.X.K H a (ns.map V.int) := fun H => by rw [C.hK]; exact e H
    obtain ⟨its, rv, pl, hz⟩ := I1.list (hq H1)
    refine wpAny_pyIter_list pl.isList ?_
    exact ⟨s1.heap.objs.size, [s1.heap.objs.size], _, _, H1, rfl, I1.kept (t' := s1.toks) fun b o e => Heap.get?_push_of_some _ e, turn_list a _, ⟨_, Heap.get?_push_size _ rfl, rfl, rfl⟩, fp1,
      k _ (wk_of ((RVs.ints (T := C.T) (g := g1) (H := H1) ns).length ▸ walk_list (K := C.X.K) (a := a) (xs := ns.map V.int)) (fun g2 H2 mo2 => hq H2) (RVs.ints ns))⟩
  | @dct a o ks ms vs f l e rs =>
    cases hm
    obtain rfl : u = Value.ref a := rx
    obtain ⟨hs, hgd, hx, es, ep, vs', hdt, hsz, kv, hm⟩ := I1.frzK e
    have hl : (ks.map fun | .inl i => M.int i | .inr x => M.str x : List M).length = (ks.zip vs).length := by simp [l]
    refine iter_keys hs hgd hx hdt (pi_one (tk := s1.toks) I1 _ (turn_keys (d := a) (kvs := ks.zip vs) _ hdt) ⟨_, Heap.get?_push_size _ rfl, rfl, ?_⟩ (k _ ?_))
    · rw [hsz] <;> rfl
    · refine wk_of (vs := ks.map kV) (G := fun H => H a = some (.frz o (.dK (ks.zip vs)))) ?_ (fun g2 H2 mo2 => (mo2.fh _ f).trans e) (rv_keys ks)
      rw [hl]
      refine walk_keys.mono (fun _ h => h) fun i H x H' hi hg ⟨e1, k, v, e2, e3⟩ => ⟨e1, ?_⟩
      rw [List.getElem?_map, zip_get l e2, e3]
      rfl
  | _ => cases hm
/-- range(n) -/
def upTo (lo : Int) (n : Nat) : List M := (List.range n).map fun i => M.int (lo + (i : Nat))
def iRange1 (a : MA) : MI := fun s => (a s).bind fun ms s1 => match ms with
  | [.int j] => if -(2 ^ 62) ≤ j ∧ j < 2 ^ 62 then .ok (upTo 0 j.toNat) s1 else .stuck
  | _ => .stuck
theorem upTo_get {lo : Int} {n i : Nat} (h : i < n) : (upTo lo n)[i]? = some (M.int (lo + (i : Nat))) := by
  unfold upTo
  rw [List.getElem?_map, List.getElem?_range h]
  rfl
theorem wk_range {lo : Int} {n : Nat} : Wk C g H (upTo lo n) (Itr lo n) := by
  have hl : (upTo lo n).length = n := by simp [upTo]
  refine ⟨fun _ => True, YFn fun i => .int (lo + i), by rw [hl]; exact walk_range, fun _ _ _ => trivial, fun i g1 H1 s σ x H2 hlt mo rel y => ?_⟩
  obtain ⟨rfl, rfl⟩ := y
  exact ⟨_, upTo_get (hl ▸ hlt), Mono.refl _ _, rel, .int _, Same.refl _⟩
theorem wkI {X : Cx} {tg e : Expr} {t t' : TI} (h : PI X tg e t) (k : ∀ σ H Q, t' σ H Q → t σ H Q) : PI X tg e t' := ⟨fun pins s σ H Q I q => h.run pins s σ H Q I (k _ _ _ q)⟩
theorem im_range1 {ma : MA} (ha : PMa C [ex] ma) (hm : C.X.mg "range" = none) (hg : Gl C.X "range" := by rfl) (hs : starEach [ex] C.X.env = [(false, eval ex C.X.env)] := by rfl) : PMi C tg (.Call (.Name "range" p) [ex] [] pos) (iRange1 ma) :=
  wkI (pi_range1 hg hm ha hs) fun σ H R h => by
    obtain ⟨g, s, r, q⟩ := rdA_bindI h
    refine ⟨g, s, r, q.imp ?_⟩
    rintro xs H1 ⟨vs, s1, g1, r1, rv, q2⟩
    cases rv with
    | nil => exact q2.elim
    | cons rv1 rv => cases rv with
      | cons _ _ => cases rv1 <;> exact q2.elim
      | nil => cases rv1 with
        | int j =>
          have q2 : GoI C σ (if -(2 ^ 62) ≤ j ∧ j < 2 ^ 62 then .ok (upTo 0 j.toNat) s1 else .stuck) g1 H1 R := q2
          by_cases hj : -(2 ^ 62) ≤ j ∧ j < 2 ^ 62
          · rw [if_pos hj] at q2
            exact ⟨j, rfl, hj.1, hj.2, q2 g1 H1 _ (Mono.refl _ _) r1 wk_range⟩
          · rw [if_neg hj] at q2
            exact q2.elim
        | _ => exact q2.elim
end
end Ma
/-! Ma8: operators: numbers, texts, lists, tuples; == over data. -/
namespace Ma
open L2 PySem
abbrev big : Nat := 16777216
theorem big_le {n : Nat} (h : n ≤ big) : n ≤ sizeLine := by rw [sizeLine_eq]; exact h
def lstOf (hp : List Cell) : M → Option (List M)
  | .lst ms => some ms
  | .box n => match hp[n]? with
    | some (.lst ms) => some ms
    | _ => none
  | _ => none
/-- a list that can be read as one -/
def seqL (hp : List Cell) : M → Option (List M)
  | .scr ns => some (ns.map M.int)
  | m => lstOf hp m
section
variable {C : MC} {g g1 : Gh} {H H1 : Hp} {s : MS} {σ : L2.St}
theorem Rel.cellAt (r : C.rel g s σ H) {n : Nat} {c : Cell} {x : V} (h : s.hp[n]? = some c) (rv : RV C.T g H (.box n) x) : ∃ a, x = .ref a ∧ g.ro[n]? = some a ∧ CellR C.T g H c a := by
  cases rv with
  | box e => exact ⟨_, rfl, e, r.h.cell n c _ h e⟩
theorem lstOf_at (r : C.rel g s σ H) {m : M} {ms : List M} {x : V} (h : lstOf s.hp m = some ms) (rv : RV C.T g H m x) : ∃ a vs, x = .ref a ∧ H a = some (.lst vs) ∧ RVs C.T g H ms vs := by
  cases rv with
  | lst f e rs => cases h; exact ⟨_, _, rfl, e, rs⟩
  | @box n a e =>
    unfold lstOf at h
    dsimp only at h
    cases hc : s.hp[n]? with
    | none => rw [hc] at h; cases h
    | some c =>
      rw [hc] at h
      cases c with
      | lst ms' =>
        cases h
        obtain ⟨vs, h1, h2⟩ := r.h.cell n _ a hc e
        exact ⟨a, vs, rfl, h1, h2⟩
      | _ => cases h
  | _ => cases h
theorem seqL_at (r : C.rel g s σ H) {m : M} {ms : List M} {x : V} (h : seqL s.hp m = some ms) (rv : RV C.T g H m x) : ∃ a vs, x = .ref a ∧ SqL C.X.K H a vs ∧ RVs C.T g H ms vs := by
  by_cases hs : ∃ ns, m = .scr ns
  · obtain ⟨ns, rfl⟩ := hs
    cases h
    cases rv with
    | scr f e => exact ⟨_, _, rfl, .inl (.inr ⟨_, e⟩), RVs.ints ns⟩
    | scrK e => exact ⟨_, _, rfl, by rw [C.hK]; exact e H, RVs.ints ns⟩
  · have h' : lstOf s.hp m = some ms := by
      cases m <;> first | exact h | exact absurd ⟨_, rfl⟩ hs
    obtain ⟨a, vs, e, h1, h2⟩ := lstOf_at r h' rv
    exact ⟨a, vs, e, .inl (.inl h1), h2⟩
/-- a new list, frozen -/
def Gh.add (g : Gh) (p : Addr) : Gh := ⟨g.ro, fun a => g.fz a ∨ a = p⟩
def Gh.box (g : Gh) (p : Addr) : Gh := ⟨g.ro ++ [p], g.fz⟩
theorem Rel.frz (r : C.rel g s σ H) {p : Addr} {o : HO} (hn : H p = none) (ho : NoTbl o := by first | exact Plain.tbl (by assumption) | assumption | exact fun _ z => by cases z | exact fun _ z => by unfold XO at z; cases z) : C.rel (g.add p) s σ (upd H p o) ∧ Mono g H (g.add p) (upd H p o) := by
  have hm := mono_laid (o := o) r.h hn
  have r1 := r.laid (o := o) hn ho
  have mo : Mono g (upd H p o) (g.add p) (upd H p o) := ⟨⟨List.prefix_refl _, fun _ h => .inl h, fun _ _ => rfl, fun _ _ h => h⟩, fun _ _ _ h => h⟩
  refine ⟨r1.env mo ⟨r1.h.len, r1.h.nd, fun n c a h1 h2 => (r1.h.cell n c a h1 h2).mono mo rfl, fun n c a h1 h2 lv f => ?_, fun a f => ?_, r1.h.rot, r1.h.frm, fun a f => ?_, r1.h.nro, r1.h.m0.trans mo, r1.h.tb.more (fun a f => f.imp id fun z => ⟨o, by rw [z]; exact upd_same, ho⟩), r1.h.tbe⟩, hm.trans mo⟩
  · rcases f with f | rfl
    · exact r1.h.thaw n c a h1 h2 lv f
    · obtain ⟨u, q⟩ := r.h.rot a (List.mem_of_getElem? h2)
      rw [hn] at q; cases q
  · rcases f with f | rfl
    · exact r1.h.fzt a f
    · exact ⟨_, upd_same⟩
  · rcases f with f | rfl
    · exact r1.h.nfz a f
    · right
      cases q : C.e.H a with
      | none => exact .inl rfl
      | some u =>
        by_cases hr : a ∈ C.e.g.ro
        · exact .inr hr
        · have := r.h.frm a u q hr
          rw [hn] at this; cases this
theorem Go.newL {ms : List M} {vs : List V} {Q : VK} {p : Addr} (h : Go C C.V1 σ (.ok (.lst ms) s) g H Q) (r : C.rel g s σ H) (rs : RVs C.T g H ms vs) (hn : H p = none) : Q (.ref p) (upd H p (.lst vs)) := by
  obtain ⟨r2, mo⟩ := r.frz (o := .lst vs) hn
  exact h (g.add p) _ _ mo r2 (.lst (.inr rfl) upd_same (rs.mono mo))
theorem Go.newT {ms : List M} {vs : List V} {Q : VK} {p : Addr} (h : Go C C.V1 σ (.ok (.tup ms) s) g H Q) (r : C.rel g s σ H) (rs : RVs C.T g H ms vs) (hn : H p = none) : Q (.ref p) (upd H p (.tup vs)) := by
  have mo := mono_laid (o := .tup vs) r.h hn
  exact h g _ _ mo (r.laid hn) (.tup upd_same (rs.mono mo))
theorem Go.same {m : M} {Q : VK} {x : V} (h : Go C C.V1 σ (.ok m s) g H Q) (r : C.rel g s σ H) (rv : RV C.T g H m x) : Q x H := h.ret r rv
def oAdd (x y : M) (s : MS) : Res M := match x, y with
  | .int i, .int j => .ok (.int (i + j)) s
  | .str a, .str b => if a.length + b.length ≤ big then .ok (.str (a ++ b)) s else .stuck
  | .tup a, .tup b => if a.length + b.length ≤ big then .ok (.tup (a ++ b)) s else .stuck
  | x, y => match lstOf s.hp x, lstOf s.hp y with
    | some a, some b => if a.length + b.length ≤ big then .ok (.lst (a ++ b)) s else .stuck
    | _, _ => .stuck
theorem OpR.alt {X : Cx} {f : Value → Value → Sem Value} {r r' : R2} (h : OpR X f r) (h' : OpR X f r') : OpR X f (fun x y H Q => r x y H Q ∨ r' x y H Q) := by
  intro pins s σ H x y v u Q I rx ry q
  rcases q with q | q
  · exact h pins s σ H x y v u Q I rx ry q
  · exact h' pins s σ H x y v u Q I rx ry q
theorem oAdd_lst {x y : M} {Q : VK} {vx vy : V} (h : Go C C.V1 σ (match lstOf s.hp x, lstOf s.hp y with
    | some a, some b => if a.length + b.length ≤ big then .ok (.lst (a ++ b)) s else .stuck
    | _, _ => .stuck) g H Q) (r : C.rel g s σ H) (r1 : RV C.T g H x vx) (r2 : RV C.T g H y vy) : rCat vx vy H Q := by
  cases hx : lstOf s.hp x with
  | none => rw [hx] at h; exact h.elim
  | some a =>
    cases hy : lstOf s.hp y with
    | none => rw [hx, hy] at h; exact h.elim
    | some b =>
      rw [hx, hy] at h
      dsimp only at h
      by_cases hb : a.length + b.length ≤ big
      · rw [if_pos hb] at h
        obtain ⟨l, vs, rfl, e1, q1⟩ := lstOf_at r hx r1
        obtain ⟨l2, ws, rfl, e2, q2⟩ := lstOf_at r hy r2
        exact ⟨l, l2, vs, ws, rfl, rfl, e1, e2, by rw [← q1.length, ← q2.length]; exact big_le hb, fun p hp => h.newL r (q1.app q2) hp⟩
      · rw [if_neg hb] at h; exact h.elim
theorem ok_add : Op2Ok C (binaryOp .Add) oAdd := by
  refine Op2Ok.of (OpR.alt op_add (OpR.alt op_add_str (OpR.alt op_catA op_cat))) fun σ H g s m1 m2 x y Q r r1 r2 h => ?_
  unfold oAdd at h
  split at h
  · cases r1; cases r2
    exact .inl ⟨_, _, rfl, rfl, h.same r (.int _)⟩
  · rename_i a b
    cases r1; cases r2
    by_cases hb : a.length + b.length ≤ big
    · rw [if_pos hb] at h
      exact .inr (.inl ⟨_, _, rfl, rfl, big_le hb, h.same r (.str _)⟩)
    · rw [if_neg hb] at h; exact h.elim
  · rename_i a b
    by_cases hb : a.length + b.length ≤ big
    · rw [if_pos hb] at h
      cases r1 with
      | @tup pa _ vs e1 q1 => cases r2 with
        | @tup pb _ ws e2 q2 =>
          refine .inr (.inr (.inl ⟨pa, pb, vs, ws, rfl, rfl, .inl (.inl e1), .inl (.inl e2), by rw [← q1.length, ← q2.length]; exact big_le hb, fun z => ?_, fun _ z => ?_, fun _ _ p hp => h.newT r (q1.app q2) hp⟩))
          · subst z; cases q1
            exact h.same r (.tup e2 q2)
          · subst z; cases q2
            rw [List.append_nil] at h
            exact h.same r (.tup e1 q1)
    · rw [if_neg hb] at h; exact h.elim
  · exact .inr (.inr (.inr (oAdd_lst h r r1 r2)))
/-- int, int -/
def oInt (ok : Int → Int → Bool) (f : Int → Int → M) (x y : M) (s : MS) : Res M := match x, y with
  | .int i, .int j => if ok i j = true then .ok (f i j) s else .stuck
  | _, _ => .stuck
theorem oInt_at {ok : Int → Int → Bool} {f : Int → Int → M} {m1 m2 : M} {x y : V} {Q : VK} (h : Go C C.V1 σ (oInt ok f m1 m2 s) g H Q) (r1 : RV C.T g H m1 x) (r2 : RV C.T g H m2 y) :
    ∃ i j, x = .int i ∧ y = .int j ∧ ok i j = true ∧ Go C C.V1 σ (.ok (f i j) s) g H Q := by
  unfold oInt at h
  split at h
  · rename_i i j
    cases r1; cases r2
    by_cases hk : ok i j = true
    · rw [if_pos hk] at h; exact ⟨i, j, rfl, rfl, hk, h⟩
    · rw [if_neg hk] at h; exact h.elim
  · exact h.elim
abbrev yes : Int → Int → Bool := fun _ _ => true
def oSub := oInt yes fun i j => .int (i - j)
theorem ok_sub : Op2Ok C (binaryOp .Sub) oSub := Op2Ok.of op_sub fun σ H g s m1 m2 x y Q r r1 r2 h => by
  obtain ⟨i, j, rfl, rfl, _, q⟩ := oInt_at h r1 r2
  exact ⟨i, j, rfl, rfl, q.same r (.int _)⟩
def mulOk (i j : Int) : Bool := decide ((-(2 ^ 64) < i ∧ i < 2 ^ 64) ∨ (-(2 ^ 64) < j ∧ j < 2 ^ 64))
def repL (k : Int) (ms : List M) : List M := (List.replicate k.toNat ms).flatten
def oMul (x y : M) (s : MS) : Res M := oInt mulOk (fun i j => .int (i * j)) x y s
theorem ok_mul : Op2Ok C (binaryOp .Mult) oMul := Op2Ok.of op_mul fun σ H g s m1 m2 x y Q r r1 r2 h => by
  obtain ⟨i, j, rfl, rfl, k, q⟩ := oInt_at h r1 r2
  exact ⟨i, j, rfl, rfl, (by simpa [mulOk, CMul, CDiv, CPow] using k), q.same r (.int _)⟩
def oMod := oInt (fun _ j => decide (0 < j)) fun i j => .int (i % j)
theorem ok_mod : Op2Ok C (binaryOp .Mod) oMod := Op2Ok.of op_mod fun σ H g s m1 m2 x y Q r r1 r2 h => by
  obtain ⟨i, j, rfl, rfl, k, q⟩ := oInt_at h r1 r2
  exact ⟨i, j, rfl, rfl, (by simpa [mulOk, CMul, CDiv, CPow] using k), q.same r (.int _)⟩
def oPow := oInt (fun i j => decide (0 ≤ j ∧ j ≤ 1000000 ∧ i.natAbs < 2 ^ 64)) fun i j => .int (i ^ j.toNat)
theorem ok_pow : Op2Ok C (binaryOp .Pow) oPow := Op2Ok.of op_pow fun σ H g s m1 m2 x y Q r r1 r2 h => by
  obtain ⟨i, j, rfl, rfl, k, q⟩ := oInt_at h r1 r2
  exact ⟨i, j, rfl, rfl, (by simpa [mulOk, CMul, CDiv, CPow] using k), q.same r (.int _)⟩
def oLt := oInt yes fun i j => .bl (decide (i < j))
theorem ok_lt : Op2Ok C (compareOp .Lt) oLt := Op2Ok.of op_lt fun σ H g s m1 m2 x y Q r r1 r2 h => by
  obtain ⟨i, j, rfl, rfl, k, q⟩ := oInt_at h r1 r2
  exact ⟨i, j, rfl, rfl, q.same r (.bl _)⟩
def oLe := oInt yes fun i j => .bl (decide (i ≤ j))
theorem ok_le : Op2Ok C (compareOp .LtE) oLe := Op2Ok.of op_le fun σ H g s m1 m2 x y Q r r1 r2 h => by
  obtain ⟨i, j, rfl, rfl, k, q⟩ := oInt_at h r1 r2
  exact ⟨i, j, rfl, rfl, q.same r (.bl _)⟩
def oGt := oInt yes fun i j => .bl (decide (j < i))
theorem ok_gt : Op2Ok C (compareOp .Gt) oGt := Op2Ok.of op_gt fun σ H g s m1 m2 x y Q r r1 r2 h => by
  obtain ⟨i, j, rfl, rfl, k, q⟩ := oInt_at h r1 r2
  exact ⟨i, j, rfl, rfl, q.same r (.bl _)⟩
def oGe := oInt yes fun i j => .bl (decide (j ≤ i))
theorem ok_ge : Op2Ok C (compareOp .GtE) oGe := Op2Ok.of op_ge fun σ H g s m1 m2 x y Q r r1 r2 h => by
  obtain ⟨i, j, rfl, rfl, k, q⟩ := oInt_at h r1 r2
  exact ⟨i, j, rfl, rfl, q.same r (.bl _)⟩
/-! ### data -/
mutual
def dat : M → Option PyData
  | .non => some .none
  | .bl b => some (.bool b)
  | .int i => some (.int i)
  | .str x => some (.str x)
  | .tup ms => (datL ms).map .tuple
  | .lst ms => (datL ms).map .list
  | .scr ns => some (.list (ns.map .int))
  | _ => none
def datL : List M → Option (List PyData)
  | [] => some []
  | m :: ms => match dat m, datL ms with
    | some d, some ds => some (d :: ds)
    | _, _ => none
end
theorem dp_ints {K : PySem.W.Frag} : ∀ ns : List Int, DpAll K H (ns.map V.int) (ns.map PyData.int)
  | [] => .nil
  | n :: ns => .cons (.int n) (dp_ints ns)
mutual
theorem dat_dp {T : Tab} : ∀ {m : M} {x : V} {d : PyData}, RV T g H m x → dat m = some d → Dp T.K H x d
  | _, _, _, .non, h => by cases h; exact .non
  | _, _, _, .bl b, h => by cases h; exact .bl b
  | _, _, _, .int i, h => by cases h; exact .int i
  | _, _, _, .str z, h => by cases h; exact .str z
  | _, _, _, .byt b, h => by cases h
  | _, _, _, @RV.tup _ _ _ a ms vs e rs, h => by
    unfold dat at h
    cases hd : datL ms with
    | none => rw [hd] at h; cases h
    | some ds => rw [hd] at h; cases h; exact .tup (.inl (.inl e)) (datL_dp rs hd)
  | _, _, _, @RV.lst _ _ _ a ms vs f e rs, h => by
    unfold dat at h
    cases hd : datL ms with
    | none => rw [hd] at h; cases h
    | some ds => rw [hd] at h; cases h; exact .lst (.inl (.inl e)) (datL_dp rs hd)
  | _, _, _, .dct _ _ _ _, h => by cases h
  | _, _, _, @RV.scr _ _ _ a o ns f e, h => by cases h; exact .lst (.inl (.inr ⟨_, e⟩)) (dp_ints ns)
  | _, _, _, @RV.scrK _ _ _ a ns e, h => by cases h; exact .lst (e H) (dp_ints ns)
  | _, _, _, .box _, h => by cases h
  | _, _, _, .exn _ _ _, h => by cases h
  | _, _, _, .cls _, h => by cases h
  | _, _, _, .ty _, h => by cases h
theorem datL_dp {T : Tab} : ∀ {ms : List M} {xs : List V} {ds : List PyData}, RVs T g H ms xs → datL ms = some ds → DpAll T.K H xs ds
  | _, _, _, .nil, h => by cases h; exact .nil
  | _, _, _, @RVs.cons _ _ _ m v ms vs r rs, h => by
    unfold datL at h
    cases hd : dat m with
    | none => rw [hd] at h; cases h
    | some d =>
      cases hds : datL ms with
      | none => rw [hd, hds] at h; cases h
      | some ds => rw [hd, hds] at h; cases h; exact .cons (dat_dp r hd) (datL_dp rs hds)
end
/-- data, a list in a box too -/
def datT (hp : List Cell) (m : M) : Option PyData := match m with
  | .box _ => match lstOf hp m with
    | some ms => (datL ms).map .list
    | none => none
  | m => dat m
theorem datT_dp (r : C.rel g s σ H) {m : M} {x : V} {d : PyData} (rv : RV C.T g H m x) (h : datT s.hp m = some d) : Dp C.X.K H x d := by
  rw [C.hK]
  cases m with
  | box n =>
    unfold datT at h
    dsimp only at h
    cases hl : lstOf s.hp (.box n) with
    | none => rw [hl] at h; cases h
    | some ms =>
      rw [hl] at h
      dsimp only at h
      obtain ⟨a, vs, rfl, e, rs⟩ := lstOf_at r hl rv
      cases hd : datL ms with
      | none => rw [hd] at h; cases h
      | some ds => rw [hd] at h; cases h; exact .lst (.inl (.inl e)) (datL_dp rs hd)
  | _ => exact dat_dp rv h
def oEqD (neg : Bool) (x y : M) (s : MS) : Res M := match datT s.hp x, datT s.hp y with
  | some d, some e => if (SeqAt.shaped d && SeqAt.shaped e) = true then .ok (.bl (if neg then !PyData.eqv d e else PyData.eqv d e)) s else .stuck
  | _, _ => .stuck
theorem oEqD_at {neg : Bool} {m1 m2 : M} {x y : V} {Q : VK} (h : Go C C.V1 σ (oEqD neg m1 m2 s) g H Q) (r : C.rel g s σ H) (r1 : RV C.T g H m1 x) (r2 : RV C.T g H m2 y) :
    ∃ d e, Dp C.X.K H x d ∧ Dp C.X.K H y e ∧ SeqAt.shaped d = true ∧ SeqAt.shaped e = true ∧ Q (.bl (if neg then !PyData.eqv d e else PyData.eqv d e)) H := by
  unfold oEqD at h
  split at h
  · rename_i d e h1 h2
    by_cases hs : (SeqAt.shaped d && SeqAt.shaped e) = true
    · rw [if_pos hs] at h
      obtain ⟨s1, s2⟩ := Bool.and_eq_true_iff.mp hs
      exact ⟨d, e, datT_dp r r1 h1, datT_dp r r2 h2, s1, s2, h.same r (.bl _)⟩
    · rw [if_neg hs] at h; exact h.elim
  · exact h.elim
theorem ok_eqD (hu : C.X.A.units + 64 < cLine) : Op2Ok C (compareOp .Eq) (oEqD false) := Op2Ok.of (op_eqD hu) fun σ H g s m1 m2 x y Q r r1 r2 h => oEqD_at h r r1 r2
theorem ok_neD (hu : C.X.A.units + 64 < cLine) : Op2Ok C (compareOp .NotEq) (oEqD true) := Op2Ok.of (op_neD hu) fun σ H g s m1 m2 x y Q r r1 r2 h => oEqD_at h r r1 r2
end
end Ma
/-! Ma9: displays, subscripts, slices, built-in functions, methods of lists, stores. -/
namespace Ma
open L2 PySem
section
variable {C : MC} {g g1 : Gh} {H H1 : Hp} {s : MS} {σ : L2.St} {ex : Expr} {es : List Expr} {a b : ME} {ma : MA} {pos p p2 : Pos} {x : Str}
theorem rdA_bind {γ δ : Type} {S : Gh → Hp → γ → δ → Prop} {σ : L2.St} {H : Hp} {f : List M → MS → Res γ} {Q : δ → Hp → Prop} (h : ∃ g s, C.rel g s σ H ∧ Go C S σ ((ma s).bind f) g H Q) :
    rdA C ma σ H fun xs H1 => ∃ m s1 g1, C.rel g1 s1 σ H1 ∧ RVs C.T g1 H1 m xs ∧ Go C S σ (f m s1) g1 H1 Q := by
  obtain ⟨g, s, r, q⟩ := h
  refine ⟨g, s, r, (Go.bind (R := C.Vn) q).imp ?_⟩
  rintro x H1 ⟨m, s1, g1, mo, r1, rv, q1⟩
  exact ⟨m, s1, g1, r1, rv, q1⟩
/-! ### displays -/
def mLst (a : MA) : ME := fun s => (a s).bind fun ms s1 => if ms.length ≤ big then .ok (.lst ms) s1 else .stuck
def mTup (a : MA) : ME := fun s => (a s).bind fun ms s1 => if ms.length ≤ big then .ok (.tup ms) s1 else .stuck
theorem em_lst (h : PMa C es ma) : PMe C (.List es pos) (mLst ma) := wkE (pe_lst h) fun σ H Q q => by
  obtain ⟨g, s, r, q⟩ := rdA_bind q
  refine ⟨g, s, r, q.imp ?_⟩
  rintro xs H1 ⟨ms, s1, g1, r1, rs, q1⟩
  by_cases hb : ms.length ≤ big
  · rw [if_pos hb] at q1
    exact ⟨by rw [← rs.length]; exact big_le hb, fun p hp => q1.newL r1 rs hp⟩
  · rw [if_neg hb] at q1; exact q1.elim
theorem em_tup {x1} (h : PMa C es ma) : PMe C (.Tuple es x1 pos) (mTup ma) := wkE (pe_tup h) fun σ H Q q => by
  obtain ⟨g, s, r, q⟩ := rdA_bind q
  refine ⟨g, s, r, q.imp ?_⟩
  rintro xs H1 ⟨ms, s1, g1, r1, rs, q1⟩
  by_cases hb : ms.length ≤ big
  · rw [if_pos hb] at q1
    exact ⟨by rw [← rs.length]; exact big_le hb, fun p hp => q1.newT r1 rs hp⟩
  · rw [if_neg hb] at q1; exact q1.elim
/-- a new box -/
theorem Rel.box (r : C.rel g s σ H) {p : Addr} {o : HO} {c : Cell} (hn : H p = none) (hc : ∀ g', Mono g H g' (upd H p o) → CellR C.T g' (upd H p o) c p) (ho : Plain o := by exact ⟨⟨fun _ _ z => (by unfold LamX.CodeO at z; cases z), fun _ z => (by cases z)⟩, fun _ z => (by cases z)⟩) : C.rel (g.box p) ⟨s.env, s.hp ++ [c]⟩ σ (upd H p o) ∧ Mono g H (g.box p) (upd H p o) := by
  have hm := mono_laid (o := o) r.h hn
  have r1 := r.laid (o := o) hn ho.tbl
  have mo : Mono g (upd H p o) (g.box p) (upd H p o) := ⟨⟨List.prefix_append _ _, fun _ h => h, fun _ _ => rfl, fun _ _ h => h⟩, fun _ _ _ h => h⟩
  have pn : p ∉ g.ro := fun hp => by obtain ⟨u, q⟩ := r.h.rot p hp; rw [hn] at q; cases q
  refine ⟨r1.env mo ⟨by simp [Gh.box, r.h.len], ?_, fun n c' a h1 h2 => ?_, fun n c' a h1 h2 lv f => ?_, r1.h.fzt, fun a h => ?_, r1.h.frm, r1.h.nfz, fun a h => ?_, r1.h.m0.trans mo, r1.h.tb.box (fun u z => by rw [upd_same] at z; cases z; exact ho), r1.h.tbe⟩, hm.trans mo⟩
  · show (g.ro ++ [p]).Nodup
    rw [List.nodup_append]
    refine ⟨r.h.nd, by simp, fun x hx y hy => ?_⟩
    simp at hy
    subst hy
    rintro rfl
    exact pn hx
  · have h2 : (g.ro ++ [p])[n]? = some a := h2
    by_cases hl : n < s.hp.length
    · rw [List.getElem?_append_left hl] at h1
      rw [List.getElem?_append_left (by rw [r.h.len]; exact hl)] at h2
      exact (r1.h.cell n c' a h1 h2).mono mo rfl
    · rw [List.getElem?_append_right (Nat.le_of_not_lt hl)] at h1
      rw [List.getElem?_append_right (by rw [r.h.len]; exact Nat.le_of_not_lt hl), r.h.len] at h2
      cases hk : n - s.hp.length with
      | zero => rw [hk] at h1 h2; cases h1; cases h2; exact hc _ (hm.trans mo)
      | succ k => rw [hk] at h1; cases h1
  · have h2 : (g.ro ++ [p])[n]? = some a := h2
    by_cases hl : n < s.hp.length
    · rw [List.getElem?_append_left hl] at h1
      rw [List.getElem?_append_left (by rw [r.h.len]; exact hl)] at h2
      exact r.h.thaw n c' a h1 h2 lv f
    · rw [List.getElem?_append_right (by rw [r.h.len]; exact Nat.le_of_not_lt hl), r.h.len] at h2
      cases hk : n - s.hp.length with
      | zero =>
        rw [hk] at h2
        cases h2
        obtain ⟨u, q⟩ := r.h.fzt p f
        rw [hn] at q; cases q
      | succ k => rw [hk] at h2; cases h2
  · have h : a ∈ g.ro ++ [p] := h
    rcases List.mem_append.mp h with h | h
    · exact r1.h.rot a h
    · simp at h; subst h; exact ⟨_, upd_same⟩
  · have h : a ∈ g.ro ++ [p] := h
    rcases List.mem_append.mp h with h | h
    · exact r.h.nro a h
    · simp at h
      subst h
      cases q : C.e.H a with
      | none => exact .inr rfl
      | some u =>
        by_cases hr : a ∈ C.e.g.ro
        · exact .inl hr
        · have := r.h.frm a u q hr
          rw [hn] at this; cases this
theorem Rel.boxL (r : C.rel g s σ H) {ms : List M} {vs : List V} {Q : VK} {p : Addr} (h : Go C C.V1 σ (.ok (.box s.hp.length) ⟨s.env, s.hp ++ [.lst ms]⟩) g H Q) (rs : RVs C.T g H ms vs) (hn : H p = none) : Q (.ref p) (upd H p (.lst vs)) := by
  obtain ⟨r2, mo⟩ := r.box (o := .lst vs) (c := .lst ms) hn fun g' mo => ⟨vs, upd_same, rs.mono mo⟩
  exact h (g.box p) _ _ mo r2 (.box (by show (g.ro ++ [p])[s.hp.length]? = some p; rw [← r.h.len, List.getElem?_concat_length]))
def mLstB (a : MA) : ME := fun s => (a s).bind fun ms s1 => if ms.length ≤ big then .ok (.box s1.hp.length) ⟨s1.env, s1.hp ++ [.lst ms]⟩ else .stuck
theorem em_lstB (h : PMa C es ma) : PMe C (.List es pos) (mLstB ma) := wkE (pe_lst h) fun σ H Q q => by
  obtain ⟨g, s, r, q⟩ := rdA_bind q
  refine ⟨g, s, r, q.imp ?_⟩
  rintro xs H1 ⟨ms, s1, g1, r1, rs, q1⟩
  by_cases hb : ms.length ≤ big
  · rw [if_pos hb] at q1
    exact ⟨by rw [← rs.length]; exact big_le hb, fun p hp => Rel.boxL r1 q1 rs hp⟩
  · rw [if_neg hb] at q1; exact q1.elim
/-! ### subscripts, slices -/
def oIx (x y : M) (s : MS) : Res M := match y with
  | .int i => match x with
    | .tup ms => match atI ms i with
      | some m => .ok m s
      | none => .stuck
    | .str z => match atI z.cps.toList i with
      | some c => if z.length ≤ big then .ok (.str ⟨#[c]⟩) s else .stuck
      | none => .stuck
    | x => match seqL s.hp x with
      | some ms => match atI ms i with
        | some m => .ok m s
        | none => .stuck
      | none => .stuck
  | _ => .stuck
theorem atI_rv {ms : List M} {vs : List V} {i : Int} {m : M} {T : Tab} (rs : RVs T g H ms vs) (h : atI ms i = some m) : ∃ v, atI vs i = some v ∧ RV T g H m v := by
  unfold atI at h ⊢
  rw [← rs.length]
  cases hj : ixN ms.length i with
  | none => rw [hj] at h; cases h
  | some j => rw [hj] at h; exact rs.get h
theorem oIx_at {m1 m2 : M} {x y : V} {Q : VK} (h : Go C C.V1 σ (oIx m1 m2 s) g H Q) (r : C.rel g s σ H) (r1 : RV C.T g H m1 x) (r2 : RV C.T g H m2 y) : rIx C.X.K x y H Q := by
  unfold oIx at h
  split at h
  · rename_i i
    cases r2
    split at h
    · rename_i ms
      split at h
      · rename_i m hm
        cases r1 with
        | tup e rs =>
          obtain ⟨v, hv, rv⟩ := atI_rv rs hm
          exact .inr (.inl ⟨_, _, i, v, rfl, rfl, .inl (.inl e), hv, h.same r rv⟩)
      · exact h.elim
    · rename_i z
      split at h
      · rename_i c hc
        by_cases hb : z.length ≤ big
        · rw [if_pos hb] at h
          cases r1
          exact .inr (.inr ⟨z, i, c, rfl, rfl, big_le hb, hc, h.same r (.str _)⟩)
        · rw [if_neg hb] at h; exact h.elim
      · exact h.elim
    · split at h
      · rename_i ms hms
        split at h
        · rename_i m hm
          obtain ⟨q, vs, rfl, hq, rs⟩ := seqL_at r hms r1
          obtain ⟨v, hv, rv⟩ := atI_rv rs hm
          exact .inl ⟨q, vs, i, v, rfl, rfl, hq, hv, h.same r rv⟩
        · exact h.elim
      · exact h.elim
  · exact h.elim
/-- a part of a slice -/
abbrev MO := MS → Res (Option Int)
def rdO (C : MC) (m : MO) : TO := fun σ H Q => ∃ g s, C.rel g s σ H ∧ Go C REq σ (m s) g H Q
def oSome (a : ME) : MO := fun s => (a s).bind fun m s1 => match m with
  | .int i => .ok (some i) s1
  | _ => .stuck
abbrev PMo (C : MC) (e : Option Expr) (m : MO) : Prop := PO C.X e (rdO C m)
theorem wkO {X : Cx} {e : Option Expr} {t t' : TO} (h : PO X e t) (k : ∀ σ H Q, t' σ H Q → t σ H Q) : PO X e t' := ⟨fun pins s σ H Q I q => h.run pins s σ H Q I (k _ _ _ q)⟩
theorem om_some (h : PMe C ex a) : PMo C (some ex) (oSome a) := wkO (po_some h) fun σ H Q q => by
  obtain ⟨g, s, r, q⟩ := rdE_bind q
  refine ⟨g, s, r, q.imp ?_⟩
  rintro x H1 ⟨m, s1, g1, r1, rv, q1⟩
  cases rv with
  | int i => exact ⟨i, rfl, q1.ret r1 rfl⟩
  | _ => exact q1.elim
def cutM (xs : List M) (lo hi : Option Int) : List M := (xs.drop (HT.sIx xs.length 0 lo)).take (HT.sIx xs.length xs.length hi - HT.sIx xs.length 0 lo)
def mSl (a : ME) (l u : MO) : ME := fun s => (a s).bind fun x s1 => (l s1).bind fun lo s2 => (u s2).bind fun hi s3 => match x with
  | .tup ms => .ok (.tup (cutM ms lo hi)) s3
  | x => match seqL s3.hp x with
    | some ms => .ok (.lst (cutM ms lo hi)) s3
    | none => .stuck
theorem cut_rv {ms : List M} {vs : List V} {T : Tab} (lo hi : Option Int) (rs : RVs T g H ms vs) : RVs T g H (cutM ms lo hi) (cutV vs lo hi) := by
  unfold cutM cutV
  rw [← rs.length]
  exact (rs.drop _).take _
theorem cut_all {ms : List M} {lo hi : Option Int} (h : HT.sIx ms.length 0 lo = 0 ∧ HT.sIx ms.length ms.length hi = ms.length) : cutM ms lo hi = ms := by
  unfold cutM
  rw [h.1, h.2]
  simp
theorem em_sl {el eu : Option Expr} {l u : MO} (ha : PMe C ex a) (hl : PMo C el l) (hu : PMo C eu u) : PMe C (.Subscript ex (.Slice el eu none p2) pos) (mSl a l u) :=
  wkE (pe_slice (sl_list.or sl_tupA) ha hl hu) fun σ H Q h => by
    obtain ⟨g, s, r, q⟩ := rdE_bind h
    refine ⟨g, s, r, q.imp ?_⟩
    rintro x H1 ⟨m, s1, g1, r1, rv, q1⟩
    refine ⟨g1, s1, r1, (Go.bind (R := REq) q1).imp ?_⟩
    rintro lo H2 ⟨lo', s2, g2, mo2, r2, e2, q2⟩
    refine ⟨g2, s2, r2, (Go.bind (R := REq) q2).imp ?_⟩
    rintro hi H3 ⟨hi', s3, g3, mo3, r3, e3, q3⟩
    cases e2; cases e3
    have rv := rv.mono (mo2.trans mo3)
    split at q3
    · rename_i ms
      cases rv with
      | @tup pa _ vs e rs =>
        refine .inr ⟨pa, vs, rfl, .inl (.inl e), fun hw => ?_, fun _ p hp => q3.newT r3 (cut_rv lo hi rs) hp⟩
        rw [← rs.length] at hw
        rw [cut_all hw] at q3
        exact q3.same r3 (.tup e rs)
    · split at q3
      · rename_i ms hms
        obtain ⟨q, vs, rfl, hq, rs⟩ := seqL_at r3 hms rv
        exact .inl ⟨q, vs, rfl, hq, fun p hp => q3.newL r3 (cut_rv lo hi rs) hp⟩
      · exact q3.elim
/-! ### built-in functions -/
abbrev RC := List V → Hp → VK → Prop
def CallOk (C : MC) (r : RC) (o : List M → MS → Res M) : Prop :=
  ∀ (σ : L2.St) (H : Hp) (g : Gh) (s : MS) (ms : List M) (xs : List V) (Q : VK), C.rel g s σ H → RVs C.T g H ms xs → Go C C.V1 σ (o ms s) g H Q → r xs H Q
theorem CallR.alt {X : Cx} {f : Value} {r r' : RC} (h : CallR X f r) (h' : CallR X f r') : CallR X f (fun xs H Q => r xs H Q ∨ r' xs H Q) := by
  intro pins s σ H xs us Q I rx q
  rcases q with q | q
  · exact h pins s σ H xs us Q I rx q
  · exact h' pins s σ H xs us Q I rx q
def mCall (a : MA) (o : List M → MS → Res M) : ME := fun s => (a s).bind o
theorem tCB_of {r : RC} {o : List M → MS → Res M} {t : TA} (ho : CallOk C r o) (ht : ∀ σ H Q, rdA C ma σ H Q → t σ H Q) {Q : VK} (h : rdE C (mCall ma o) σ H Q) : tCB r t σ H Q := by
  obtain ⟨g, s, r, q⟩ := rdA_bind h
  refine ht _ _ _ ⟨g, s, r, q.imp ?_⟩
  rintro xs H1 ⟨ms, s1, g1, r1, rs, q1⟩
  exact ho σ H1 g1 s1 ms xs Q r1 rs q1
theorem em_callB {id : String} {r : RC} {o : List M → MS → Res M} (hc : CallR C.X (.builtin id) r) (ho : CallOk C r o) (hm : C.X.mg x = none) (ha : PMa C (ex :: es) ma) (hv : bootBuiltins x = some (.builtin id) := by first | rfl | decide +kernel) (hg : Gl C.X x := by rfl) (hn : x ≠ "__name__" := by decide)
    (hdb : (x == ("__debug__" : Str)) = false := by decide) (he : starEach (ex :: es) C.X.env = (false, eval ex C.X.env) :: starEach es C.X.env := by rfl) (hpl : (backTo pos (starEach es C.X.env)).any (·.1) = false := by rfl) :
    PMe C (.Call (.Name x p) (ex :: es) [] pos) (mCall ma o) := wkE (pe_callB hc hg hm hv ha hn hdb he hpl) fun σ H Q h => tCB_of ho (fun _ _ _ z => z) h
theorem em_callT {T : String} {r : RC} {o : List M → MS → Res M} (hc : CallR C.X (.type T) r) (ho : CallOk C r o) (hm : C.X.mg x = none) (ha : PMa C (ex :: es) ma) (hv : bootBuiltins x = some (.type T) := by first | rfl | decide +kernel) (hg : Gl C.X x := by rfl) (hn : x ≠ "__name__" := by decide)
    (hdb : (x == ("__debug__" : Str)) = false := by decide) (he : starEach (ex :: es) C.X.env = (false, eval ex C.X.env) :: starEach es C.X.env := by rfl) (hpl : (backTo pos (starEach es C.X.env)).any (·.1) = false := by rfl) :
    PMe C (.Call (.Name x p) (ex :: es) [] pos) (mCall ma o) := wkE (pe_callTy hc hg hm hv ha hn hdb he hpl) fun σ H Q h => tCB_of ho (fun _ _ _ z => z) h
def cLen (ms : List M) (s : MS) : Res M := match ms with
  | [.str z] => if z.length ≤ big then .ok (.int z.length) s else .stuck
  | [.tup xs] => .ok (.int xs.length) s
  | [x] => match seqL s.hp x with
    | some xs => .ok (.int xs.length) s
    | none => .stuck
  | _ => .stuck
theorem ok_len : CallOk C (fun xs H Q => ∃ x n, xs = [x] ∧ LenV C.X.K x H n ∧ Q (.int n) H) cLen := fun σ H g s ms xs Q r rs h => by
  unfold cLen at h
  split at h
  · rename_i z
    cases rs with
    | cons r1 r2 =>
      cases r2; cases r1
      by_cases hb : z.length ≤ big
      · rw [if_pos hb] at h
        exact ⟨_, z.length, rfl, ⟨big_le hb, rfl⟩, h.same r (.int _)⟩
      · rw [if_neg hb] at h; exact h.elim
  · rename_i ys
    cases rs with
    | cons r1 r2 =>
      cases r2
      cases r1 with
      | tup e rs => exact ⟨_, ys.length, rfl, .inr ⟨_, .inl (.inl e), rs.length⟩, h.same r (.int _)⟩
  · split at h
    · rename_i ys hys
      cases rs with
      | cons r1 r2 =>
        cases r2
        obtain ⟨q, vs, rfl, hq, rs⟩ := seqL_at r hys r1
        exact ⟨_, ys.length, rfl, .inl ⟨_, hq, rs.length⟩, h.same r (.int _)⟩
    · exact h.elim
  · exact h.elim
def cInt (ms : List M) (s : MS) : Res M := match ms with
  | [.int i] => .ok (.int i) s
  | [.bl k] => .ok (.int (if k = true then 1 else 0)) s
  | _ => .stuck
theorem ok_int : CallOk C (fun xs H Q => (∃ i, xs = [.int i] ∧ Q (.int i) H) ∨ ∃ k, xs = [.bl k] ∧ Q (.int (if k then 1 else 0)) H) cInt := fun σ H g s ms xs Q r rs h => by
  unfold cInt at h
  split at h
  · cases rs with
    | cons r1 r2 => cases r2; cases r1; exact .inl ⟨_, rfl, h.same r (.int _)⟩
  · cases rs with
    | cons r1 r2 => cases r2; cases r1; exact .inr ⟨_, rfl, h.same r (.int _)⟩
  · exact h.elim
def cMax (ms : List M) (s : MS) : Res M := match ms with
  | [.int i, .int j] => .ok (.int (if j > i then j else i)) s
  | _ => .stuck
theorem ok_max2 : CallOk C (fun xs H Q => ∃ i j, xs = [.int i, .int j] ∧ Q (.int (if j > i then j else i)) H) cMax := fun σ H g s ms xs Q r rs h => by
  unfold cMax at h
  split at h
  · cases rs with
    | cons r1 r2 => cases r2 with
      | cons r2 r3 => cases r3; cases r1; cases r2; exact ⟨_, _, rfl, h.same r (.int _)⟩
  · exact h.elim
def cTup (ms : List M) (s : MS) : Res M := match ms with
  | [.tup xs] => .ok (.tup xs) s
  | [x] => match seqL s.hp x with
    | some xs => .ok (.tup xs) s
    | none => .stuck
  | _ => .stuck
theorem ok_tuple : CallOk C (fun xs H Q => ∃ p ys, xs = [.ref p] ∧ ((SqL C.X.K H p ys ∧ ∀ l, H l = none → Q (.ref l) (upd H l (.tup ys))) ∨ (SqT C.X.K H p ys ∧ Q (.ref p) H))) cTup := fun σ H g s ms xs Q r rs h => by
  unfold cTup at h
  split at h
  · cases rs with
    | cons r1 r2 =>
      cases r2
      cases r1 with
      | tup e rs => exact ⟨_, _, rfl, .inr ⟨.inl (.inl e), h.same r (.tup e rs)⟩⟩
  · split at h
    · rename_i ys hys
      cases rs with
      | cons r1 r2 =>
        cases r2
        obtain ⟨q, vs, rfl, hq, rs⟩ := seqL_at r hys r1
        exact ⟨_, _, rfl, .inl ⟨hq, fun p hp => h.newT r rs hp⟩⟩
    · exact h.elim
  · exact h.elim
def seqA (s : MS) : List M → Option (List M)
  | [.tup xs] => some xs
  | [x] => seqL s.hp x
  | _ => none
theorem seqA_at {ms : List M} {xs : List V} {ys : List M} (r : C.rel g s σ H) (rs : RVs C.T g H ms xs) (h : seqA s ms = some ys) : ∃ p vs, xs = [.ref p] ∧ (SqL C.X.K H p vs ∨ SqT C.X.K H p vs) ∧ RVs C.T g H ys vs := by
  unfold seqA at h
  split at h
  · cases h
    cases rs with
    | cons r1 r2 =>
      cases r2
      cases r1 with
      | tup e rs => exact ⟨_, _, rfl, .inr (.inl (.inl e)), rs⟩
  · cases rs with
    | cons r1 r2 =>
      cases r2
      obtain ⟨q, vs, rfl, hq, rs⟩ := seqL_at r h r1
      exact ⟨_, _, rfl, .inl hq, rs⟩
  · cases h
/-- list(x), frozen, or in a box -/
def cList (ms : List M) (s : MS) : Res M := match seqA s ms with
  | some xs => .ok (.lst xs) s
  | none => .stuck
theorem ok_list : CallOk C (fun xs H Q => ∃ p ys, xs = [.ref p] ∧ (SqL C.X.K H p ys ∨ SqT C.X.K H p ys) ∧ ∀ l, H l = none → Q (.ref l) (upd H l (.lst ys))) cList := fun σ H g s ms xs Q r rs h => by
  unfold cList at h
  split at h
  · rename_i ys hys
    obtain ⟨p, vs, e, hq, rv⟩ := seqA_at r rs hys
    exact ⟨p, vs, e, hq, fun l hl => h.newL r rv hl⟩
  · exact h.elim
end
end Ma
/-! Ma10: lists in boxes: append, pop, a store; what a box turns into data. -/
namespace Ma
open L2 PySem
section
variable {C : MC} {g g1 : Gh} {H H1 : Hp} {s : MS} {σ : L2.St} {ex : Expr} {es : List Expr} {a b : ME} {ma : MA} {pos apos cpos p p2 : Pos} {x : Str}
theorem nd_ix {α : Type} : ∀ {l : List α} {i j : Nat} {x : α}, l.Nodup → l[i]? = some x → l[j]? = some x → i = j
  | [], _, _, _, _, h, _ => by simp at h
  | y :: l, 0, 0, _, _, _, _ => rfl
  | y :: l, 0, j + 1, x, nd, h1, h2 => by
    simp at h1 h2
    subst h1
    exact absurd (List.mem_of_getElem? h2) (List.nodup_cons.mp nd).1
  | y :: l, i + 1, 0, x, nd, h1, h2 => by
    simp at h1 h2
    subst h2
    exact absurd (List.mem_of_getElem? h1) (List.nodup_cons.mp nd).1
  | y :: l, i + 1, j + 1, x, nd, h1, h2 => by
    simp at h1 h2
    exact congrArg Nat.succ (nd_ix (List.nodup_cons.mp nd).2 h1 h2)
/-- a box's content changes -/
theorem Rel.poke (r : C.rel g s σ H) {n : Nat} {c c' : Cell} {p : Addr} {o : HO} (hc : s.hp[n]? = some c) (hp : g.ro[n]? = some p) (lv : Live c) (ht : ∀ vs, H p ≠ some (.tup vs)) (hq : ∀ g', Mono g H g' (upd H p o) → CellR C.T g' (upd H p o) c' p) (ho : Plain o := by exact ⟨⟨fun _ _ z => (by unfold LamX.CodeO at z; cases z), fun _ z => (by cases z)⟩, fun _ z => (by cases z)⟩) :
    C.rel g ⟨s.env, s.hp.set n c'⟩ σ (upd H p o) ∧ Mono g H g (upd H p o) := by
  have pf : ¬ g.fz p := r.h.thaw n c p hc hp lv.own
  have nl : ∀ o u, H p ≠ some (.frz o u) := fun o u z => by
    have y := r.h.cell n c p hc hp
    cases c with
    | lst ms => obtain ⟨vs, e, _⟩ := y; rw [e] at z; cases z
    | dK ms => obtain ⟨vs, e, _⟩ := y; rw [e] at z; cases z
    | ins c ms => obtain ⟨_, _, vs, _, e, _⟩ := y; rw [e] at z; cases z
    | dF ms => exact lv
    | dead => exact lv
  have mo : Mono g H g (upd H p o) := ⟨⟨List.prefix_refl _, fun _ h => h, fun a f => upd_ne (fun z => pf (z ▸ f)), fun a vs h => by
    have : a ≠ p := fun z => by subst z; exact ht vs h
    rw [upd_ne this]; exact h⟩, fun a o u h => by
    have : a ≠ p := fun z => by subst z; exact nl o u h
    rw [upd_ne this]; exact h⟩
  have inj : ∀ {m : Nat} {q : Addr}, g.ro[m]? = some q → q = p → m = n := fun {m q} h1 h2 => by
    subst h2
    exact nd_ix r.h.nd h1 hp
  refine ⟨r.env mo ⟨by simp [r.h.len], r.h.nd, fun m d q h1 h2 => ?_, fun m d q h1 h2 ld => ?_, fun q f => ?_, fun q hq => ?_, fun q u h1 h2 => ?_, r.h.nfz, r.h.nro, r.h.m0.trans mo, r.h.tb.upd (fun u z => (r.h.cell n c p hc hp).plain lv.own z) (ho.tbl) (fun _ => ho), r.h.tbe⟩, mo⟩
  · by_cases hmn : m = n
    · subst hmn
      have hlt := (List.getElem?_eq_some_iff.mp hc).1
      rw [List.getElem?_set_self hlt] at h1
      cases h1
      rw [hp] at h2
      cases h2
      exact hq g mo
    · rw [List.getElem?_set_ne (Ne.symm hmn)] at h1
      exact (r.h.cell m d q h1 h2).mono mo (upd_ne fun z => hmn (inj h2 z))
  · by_cases hmn : m = n
    · subst hmn
      rw [hp] at h2
      cases h2
      exact pf
    · rw [List.getElem?_set_ne (Ne.symm hmn)] at h1
      exact r.h.thaw m d q h1 h2 ld
  · obtain ⟨u, e⟩ := r.h.fzt q f
    by_cases h : q = p
    · subst h; exact ⟨_, upd_same⟩
    · exact ⟨u, by rw [upd_ne h]; exact e⟩
  · obtain ⟨u, e⟩ := r.h.rot q hq
    by_cases h : q = p
    · subst h; exact ⟨_, upd_same⟩
    · exact ⟨u, by rw [upd_ne h]; exact e⟩
  · have e := r.h.frm q u h1 h2
    by_cases h : q = p
    · subst h
      rcases r.h.nro q (List.mem_of_getElem? hp) with z | z
      · exact absurd z h2
      · rw [h1] at z; cases z
    · rw [upd_ne h]; exact e
theorem Go.pokeL {m : M} {n : Nat} {ms ms' : List M} {vs' : List V} {p : Addr} {Q : VK} {v : V} (h : Go C C.V1 σ (.ok m ⟨s.env, s.hp.set n (.lst ms')⟩) g H Q) (r : C.rel g s σ H) (hc : s.hp[n]? = some (.lst ms)) (hp : g.ro[n]? = some p)
    (rs : RVs C.T g H ms' vs') (rv : RV C.T g H m v) : Q v (upd H p (.lst vs')) := by
  obtain ⟨vs, e, _⟩ := r.h.cell n _ p hc hp
  obtain ⟨r1, mo⟩ := Rel.poke (c' := .lst ms') r hc hp trivial (fun ws z => by rw [e] at z; cases z) fun g' mo => ⟨vs', upd_same, rs.mono mo⟩
  exact h g _ v mo r1 (rv.mono mo)
def mMeth (a : ME) (ma : MA) (ok : M → MS → Bool) (o : M → List M → MS → Res M) : ME := fun s => (a s).bind fun x s1 => if ok x s1 = true then (ma s1).bind fun ms s2 => o x ms s2 else .stuck
def isBoxL (x : M) (s : MS) : Bool := match x with
  | .box n => match s.hp[n]? with
    | some (.lst _) => true
    | _ => false
  | _ => false
theorem isBoxL_at (r : C.rel g s σ H) {m : M} {v : V} (rv : RV C.T g H m v) (h : isBoxL m s = true) : ∃ n p ms vs, m = .box n ∧ v = .ref p ∧ s.hp[n]? = some (.lst ms) ∧ g.ro[n]? = some p ∧ H p = some (.lst vs) ∧ RVs C.T g H ms vs := by
  cases rv with
  | @box n p e =>
    unfold isBoxL at h
    dsimp only at h
    cases hc : s.hp[n]? with
    | none => rw [hc] at h; cases h
    | some c =>
      rw [hc] at h
      cases c with
      | lst ms =>
        obtain ⟨vs, h1, h2⟩ := r.h.cell n _ p hc e
        exact ⟨n, p, ms, vs, rfl, rfl, hc, e, h1, h2⟩
      | _ => cases h
  | _ => cases h
def MethOk (C : MC) (r : V → List V → Hp → VK → Prop) (o : M → List M → MS → Res M) : Prop :=
  ∀ (σ : L2.St) (H : Hp) (g : Gh) (s : MS) (m : M) (ms : List M) (x : V) (xs : List V) (Q : VK), C.rel g s σ H → RV C.T g H m x → RVs C.T g H ms xs → Go C C.V1 σ (o m ms s) g H Q → r x xs H Q
theorem em_bm {o : Expr} {name : Str} {T id : String} {r : V → List V → Hp → VK → Prop} {ok : M → MS → Bool} {f : M → List M → MS → Res M} (pa : PlainAttrs T) (slot : Slot T name id) (hty : typeOf (.builtin id) = pure (.type "method_descriptor")) (hm : MtR C.X id r)
    (hty2 : ∀ (σ : L2.St) (H : Hp) (g : Gh) (s : MS) (m : M) (x : V), C.rel g s σ H → RV C.T g H m x → ok m s = true → tyV C.X.K T x H) (hf : MethOk C r f) (ho : PMe C o a) (ha : PMa C (ex :: es) ma)
    (hbase : attributeBase o name C.X.env (eval o C.X.env) = eval o C.X.env := by rfl)
    (hfew : ((backTo cpos (starEach (ex :: es) C.X.env)).all (fun x => !x.1) && (backToKw cpos (keywordEach [] C.X.env)).all (fun x => x.1.isSome)
      && decide ((ex :: es).length + ([] : List Keyword).length + (if ([] : List Keyword).isEmpty then 0 else 1) < 30)) = true := by rfl)
    (hline : (apos.endLine == cpos.line) = true := by rfl) (hs : starEach (ex :: es) C.X.env = (false, eval ex C.X.env) :: starEach es C.X.env := by rfl) (hplain : (backTo cpos (starEach es C.X.env)).any (·.1) = false := by rfl) :
    PMe C (.Call (.Attribute o name apos) (ex :: es) [] cpos) (mMeth a ma ok f) :=
  wkE (pe_bm pa slot hty hm ho ha hbase hfew hline hs hplain) fun σ H Q h => by
    obtain ⟨g, s, r, q⟩ := rdE_bind h
    refine ⟨g, s, r, q.imp ?_⟩
    rintro x H1 ⟨m, s1, g1, r1, rv, q1⟩
    by_cases hk : ok m s1 = true
    · rw [if_pos hk] at q1
      refine ⟨hty2 σ H1 g1 s1 m x r1 rv hk, g1, s1, r1, (Go.bind (R := C.Vn) q1).imp ?_⟩
      rintro xs H2 ⟨ms, s2, g2, mo, r2, rs, q2⟩
      exact hf σ H2 g2 s2 m ms x xs Q r2 (rv.mono mo) rs q2
    · rw [if_neg hk] at q1; exact q1.elim
theorem tyL {K : PySem.W.Frag} : ∀ (σ : L2.St) (H : Hp) (g : Gh) (s : MS) (m : M) (x : V), C.rel g s σ H → RV C.T g H m x → isBoxL m s = true → tyV K "list" x H := fun σ H g s m x r rv h => by
  obtain ⟨n, p, ms, vs, rfl, rfl, hc, hp, e, rs⟩ := isBoxL_at r rv h
  exact .inl ⟨rfl, _, .inl (.inl e)⟩
def fAppend (x : M) (ms : List M) (s : MS) : Res M := match x, ms with
  | .box n, [y] => match s.hp[n]? with
    | some (.lst xs) => if xs.length < big then .ok .non ⟨s.env, s.hp.set n (.lst (xs ++ [y]))⟩ else .stuck
    | _ => .stuck
  | _, _ => .stuck
theorem ok_append : MethOk C rAppend fAppend := fun σ H g s m ms x xs Q r rv rs h => by
  unfold fAppend at h
  split at h
  · rename_i n y
    split at h
    · rename_i ys hc
      by_cases hb : ys.length < big
      · rw [if_pos hb] at h
        obtain ⟨p, rfl, hp, vs, e, rvs⟩ := r.cellAt hc rv
        cases rs with
        | cons r1 r2 =>
          cases r2
          exact ⟨p, vs, _, rfl, rfl, e, by rw [← rvs.length, sizeLine_eq]; exact hb, h.pokeL r hc hp (rvs.app (.cons r1 .nil)) .non⟩
      · rw [if_neg hb] at h; exact h.elim
    · exact h.elim
  · exact h.elim
def mAppend (a b : ME) : ME := mMeth a (mCons b mNil) isBoxL fAppend
theorem em_append {o : Expr} (ho : PMe C o a) (ha : PMe C ex b) (hbase : attributeBase o "append" C.X.env (eval o C.X.env) = eval o C.X.env := by rfl)
    (hfew : ((backTo cpos (starEach [ex] C.X.env)).all (fun x => !x.1) && (backToKw cpos (keywordEach [] C.X.env)).all (fun x => x.1.isSome)
      && decide ([ex].length + ([] : List Keyword).length + (if ([] : List Keyword).isEmpty then 0 else 1) < 30)) = true := by rfl)
    (hline : (apos.endLine == cpos.line) = true := by rfl) (hs : starEach [ex] C.X.env = (false, eval ex C.X.env) :: starEach [] C.X.env := by rfl) :
    PMe C (.Call (.Attribute o "append" apos) [ex] [] cpos) (mAppend a b) :=
  em_bm PySem.F.plainAttrs_list PySem.F.slot_list_append PySem.F.type_list_append mt_append tyL ok_append ho (am_cons ha am_nil hs) hbase hfew hline hs rfl
/-! ### a store at a place -/
abbrev FSet := M → M → M → MS → Res Unit
def SetOk (C : MC) (t : TSet) (f : FSet) : Prop :=
  ∀ (σ : L2.St) (H : Hp) (g : Gh) (s : MS) (m k w : M) (x y z : V) (Q : Hp → Prop), C.rel g s σ H → RV C.T g H m x → RV C.T g H k y → RV C.T g H w z →
    (match f m k w s with
      | .ok _ s1 => ∀ (g' : Gh) (H' : Hp), Mono g H g' H' → C.rel g' s1 σ H' → Q H'
      | _ => False) → t x y z H Q
def fSetL (x k w : M) (s : MS) : Res Unit := match x, k with
  | .box n, .int i => match s.hp[n]? with
    | some (.lst xs) => match ixN xs.length i with
      | some j => .ok () ⟨s.env, s.hp.set n (.lst (xs.set j w))⟩
      | none => .stuck
    | _ => .stuck
  | _, _ => .stuck
theorem ok_setL : SetOk C rSetL fSetL := fun σ H g s m k w x y z Q r rm rk rw' h => by
  unfold fSetL at h
  split at h
  · rename_i u s1 heq
    split at heq
    · rename_i n i
      split at heq
      · rename_i xs hc
        split at heq
        · rename_i j hj
          cases heq
          obtain ⟨p, rfl, hp, vs, e, rvs⟩ := r.cellAt hc rm
          cases rk
          obtain ⟨r1, mo⟩ := Rel.poke (c' := .lst (xs.set j w)) r hc hp trivial (fun ws z => by rw [e] at z; cases z) fun g' mo => ⟨_, upd_same, (rvs.set j rw').mono mo⟩
          exact ⟨p, vs, i, j, rfl, rfl, e, by rw [← rvs.length]; exact hj, h g _ mo r1⟩
        · cases heq
      · cases heq
    · cases heq
  · exact h.elim
/-- o[i] = w -/
def gSub (a b : ME) (f : FSet) : MG := fun w s => (a s).bind fun x s1 => (b s1).bind fun k s2 => f x k w s2
theorem fSetL_ne : ∀ x k w s e s1, fSetL x k w s ≠ .err e s1 := fun x k w s e s1 h => by
  unfold fSetL at h
  split at h
  · split at h
    · split at h <;> cases h
    · cases h
  · cases h
/-- target = e -/
def sAsg (m : ME) (t : MG) : MStm := fun s => (m s).bind fun w s1 => (t w s1).bind fun _ s2 => .ok .nx s2
theorem sm_asg {tg : Expr} {m : ME} {t : MG} (he : PMe C ex m) (hg : PMg C tg t) (hs : swapsWithSole [tg] ex pos.line C.X.env = pure false := by rfl) (hw : swappedStores [tg] ex C.X.env = pure none := by rfl) (h1 : (assignEach [tg] C.X.env).map (·.2) = [assign tg C.X.env] := by rfl) : PMs C (.Assign [tg] ex pos) (sAsg m t) :=
  wkS (ps_asg he hg hs hw h1) fun D σ H h => by
    obtain ⟨g, s, r, q⟩ := rdE_bindS h
    refine ⟨g, s, r, q.imp ?_⟩
    rintro x H1 ⟨w, s1, g1, r1, rv, q1⟩
    refine ⟨g1, s1, w, r1, rv, ?_⟩
    cases h1 : t w s1 with
    | stuck => rw [h1] at q1; exact q1.elim
    | err e s2 => rw [h1] at q1; exact fun g' H' cls d mo r xr => q1 g' H' σ cls d mo r xr
    | ok u s2 => rw [h1] at q1; exact fun g' H' σ' mo r => q1 g' H' σ' mo r
end
end Ma
/-! Ma11: a def and its mirror. -/
namespace Ma
open L2 PySem.Spec PySem PyProof.Rows
structure RoomG (k : Nat) (A : Around) : Prop extends Room k A where
  gs : A.guards = some []
theorem RoomG.less {j k : Nat} {A : Around} (r : RoomG k A) (h : j ≤ k) : RoomG j A := ⟨r.toRoom.mono h, r.gs⟩
theorem RoomG.down {k : Nat} {A : Around} (r : RoomG (k + 1) A) (env : Env) : RoomG k (A.deeper env) := ⟨r.toRoom.deeper env, r.gs⟩
/-- what a def's end has to give -/
def GoF (T : Tab) (g : Gh) (H : Hp) (r : ResF) (Q : VK) (E : XK) : Prop :=
  match r with
  | .ok m hp => ∀ (g' : Gh) (H' : Hp) (v : V), RelH T ⟨g, H⟩ g' hp H' → RV T g' H' m v → Q v H'
  | .err x hp => ∀ (g' : Gh) (H' : Hp) (cls : Value) (d : Option Addr), RelH T ⟨g, H⟩ g' hp H' → XR T g' H' x cls d → E cls d H'
  | .stuck => False
def spM (T : Tab) (n : Nat) (F : Fn) : Sp := fun vs H Q E => vs.length = n ∧ ∃ g hp args, RelH T ⟨g, H⟩ g hp H ∧ RVs T g H args vs ∧ GoF T g H (F args hp) Q E
/-- the def at f keeps its mirror -/
structure FnG (P : Program) (w : World) (mg : Str → Option Value) (base : Heap) (T : Tab) (k : Nat) (f : Addr) (fd : FuncData) (ps : List Str) (F : Fn) : Prop where
  run : ∀ (A : Around) (outer : List Env) (s : Shared) (H : Hp) (args : Args) (us : List Value) (vs : List V) (Q : VK) (E : XK), RoomG k A → Env0 P w T.K mg base A outer s H → BindsTo s fd args (ps.zip us) → Vals vs us → spM T ps.length F vs H Q E →
    codeAny (model P w) A (.call (.ref f) args) (CR (L2.CX P w) outer P w H s Q E) s
/-- a body's mirror as a def's -/
def bodyF (n len : Nat) (b : MStm) : Fn := fun args hp => match b ⟨args.map some ++ List.replicate (len - n) none, hp⟩ with
  | .ok (.rt v) s => .ok v s.hp
  | .ok .nx s => .ok .non s.hp
  | .ok _ _ => .stuck
  | .err x s => .err x s.hp
  | .stuck => .stuck
section
variable {P : Program} {w : World} {mg : Str → Option Value} {base : Heap} {T : Tab}
/-- where a def's body stands -/
abbrev cAt (P : Program) (w : World) (mg : Str → Option Value) (base : Heap) (T : Tab) (N : List Str) (qual : Str) (scope : Scope) (f : Addr) (cd : Value) (A : Around) (outer : List Env) (s : Shared) (H : Hp) (E : XK) (g : Gh) : MC :=
  ⟨cxOf (L2.CX P w) P w T.K mg base N qual scope f cd A outer s H E, T, ⟨g, H⟩, fun cls d _ H' => E cls d H', rfl⟩
theorem cAt_takes {N : List Str} {qual : Str} {scope : Scope} {f : Addr} {cd : Value} {A : Around} {outer : List Env} {s : Shared} {H : Hp} {E : XK} {g : Gh} :
    Takes (cAt P w mg base T N qual scope f cd A outer s H E g).X (cAt P w mg base T N qual scope f cd A outer s H E g).W := takes_of rfl rfl rfl rfl
theorem fnG_of {x qual : Str} {st : Stmt} {f : Addr} {fd : FuncData} {N ps : List Str} {k : Nat} {b : MStm} (F : Fun T.K x qual st f fd) (S : FnScope N ps (defScope st))
    (hb : ∀ (cdv : Value) (A : Around) (outer : List Env) (s : Shared) (H : Hp) (E : XK) (g : Gh), RoomG k (A.deeper (envOfC qual (defScope st) s.heap.objs.size f cdv)) → PMb (cAt P w mg base T N qual (defScope st) f cdv A outer s H E g) (defBody st) b) :
    FnG P w mg base T (k + 1) f fd ps (bodyF ps.length N.length b) := by
  refine ⟨fun A outer s H args us vs Q E hr e0 hbd r hsp => ?_⟩
  obtain ⟨oc, od, kV, doc, pm, an, cdv, ct, osl, rfl, lk, hcd⟩ := F.ex
  obtain ⟨hl, g, hp, as, rh, rs, go⟩ := hsp
  have inK : T.K.In s.heap := e0.mod.kin.keeps (fun b o q => (e0.bs b o q).1)
  have nl : s.heap.NoLimit := e0.mod.nolimit.keeps (fun b o q => (e0.bs b o q).1)
  have kinds : ∀ y ∈ ps.zip us, (defScope st).names.lookup y.1 = some .local ∨ ((defScope st).names.lookup y.1 = some .cell ∧ ((cellsFrom (s.heap.objs.size + 1) (defScope st).names []).lookup y.1).isSome = true) := by
    rintro ⟨n, v⟩ hy
    exact (S.par n (List.of_mem_zip hy).1).imp id fun q => ⟨q, PySem.W.cellsFrom_some _ _ _ (.inl q)⟩
  refine codeAny_call_function hr.depth (inK _ _ lk) rfl S.co S.gen rfl (PySem.W.codeRec_of inK hcd) (hbd _ _ _ _ (wpAny_newFunctionEnv_cells S.kind kinds fun env he s1 ic => ?_))
  subst he
  refine ⟨nl.keeps ic.toInCall.keep, codeAny_func ?_⟩
  have J : Inv (cAt P w mg base T N qual (defScope st) f cdv A outer s H E g).X [] (L2.start N vs) H s1 := inv_start S hr.hd e0 hl r ic
  have hbody := hb cdv A outer s H E g (hr.down _)
  have hnl : ps.length ≤ N.length := by
    have := congrArg List.length S.pre
    rw [List.length_take] at this
    omega
  have fin : ∀ {σ' : L2.St} {H' : Hp} {v : V} {u : Value} {s' : Shared}, Inv (cAt P w mg base T N qual (defScope st) f cdv A outer s H E g).X [] σ' H' s' → RelV v u → Q v H' → CE outer P w H s Q u s' :=
    fun J rv q => ⟨_, _, J.os, J.bare, J.base, J.hok, rv, q⟩
  let D : Ends := { nx := fun _ H' => Q .non H', rt := Q }
  have start_rel : Rel T ⟨g, H⟩ g ⟨as.map some ++ List.replicate (N.length - ps.length) none, hp⟩ (L2.start N vs) H := by
    refine ⟨rh, ?_, fun i m v h1 h2 => ?_⟩
    · unfold L2.start
      simp [rs.length, hl]
    · have h1 : (as.map some ++ List.replicate (N.length - ps.length) none)[i]? = some (some m) := h1
      unfold L2.start at h2
      by_cases hi : i < as.length
      · rw [List.getElem?_append_left (by simpa using hi), List.getElem?_map] at h1
        rw [List.getElem?_append_left (by simpa [← rs.length] using hi), List.getElem?_map] at h2
        cases ha : as[i]? with
        | none => rw [ha] at h1; cases h1
        | some m' =>
          rw [ha] at h1
          cases h1
          obtain ⟨x, hx, rx⟩ := rs.get ha
          rw [hx] at h2
          cases h2
          exact ⟨x, rfl, rx⟩
      · rw [List.getElem?_append_right (by simpa using Nat.le_of_not_lt hi), List.getElem?_replicate] at h1
        split at h1 <;> cases h1
  have goal : rdS (cAt P w mg base T N qual (defScope st) f cdv A outer s H E g) b D (L2.start N vs) H := by
    refine ⟨g, ⟨as.map some ++ List.replicate (N.length - ps.length) none, hp⟩, start_rel, ?_⟩
    unfold bodyF at go
    cases hm : b ⟨as.map some ++ List.replicate (N.length - ps.length) none, hp⟩ with
    | stuck => rw [hm] at go; exact go.elim
    | err x s1 => rw [hm] at go; exact fun g' H' σ' cls d mo rl xr => go g' H' cls d rl.h xr
    | ok fl s1 =>
      rw [hm] at go
      cases fl with
      | nx => exact fun g' H' σ' mo rl => go g' H' .non rl.h .non
      | rt m => exact fun g' H' σ' v mo rl rv => go g' H' v rl.h rv
      | bk => exact go.elim
      | ct => exact go.elim
  refine wpAny_mono (hbody.run [] s1 (L2.start N vs) H D J goal) (fun fl s' hs => ?_) fun e s' hs => hs
  cases fl with
  | ret u =>
    obtain ⟨v, σ', H', J', rv, q⟩ := hs
    exact fin J' rv q
  | next =>
    obtain ⟨σ', H', J', q⟩ := hs
    exact fin (v := V.non) (u := Value.none) J' rfl q
  | brk => exact hs.elim fun _ z => z.elim fun _ y => y.2.elim
  | cont => exact hs.elim fun _ z => z.elim fun _ y => y.2.elim
end
end Ma
/-! Ma12: calls of the text's own defs. -/
namespace Ma
open L2 PySem.Spec PySem PyProof.Rows
section
variable {T : Tab} {e : En} {g g' : Gh} {H H' : Hp} {hp hp' : List Cell}
theorem RelH.self (r : RelH T e g hp H) : RelH T ⟨g, H⟩ g hp H :=
  ⟨r.len, r.nd, r.cell, r.thaw, r.fzt, r.rot, fun _ _ h _ => h, fun _ h => .inl h, fun _ h => .inl h, Mono.refl _ _, r.tb, fun p hp => (r.tb.tab p hp).2.1⟩
theorem RelH.lost (r : RelH T e g hp H) {a : Addr} (h : H a = none) : e.H a = none ∨ a ∈ e.g.ro := by
  cases q : e.H a with
  | none => exact .inl rfl
  | some o =>
    by_cases hr : a ∈ e.g.ro
    · exact .inr hr
    · have := r.frm a o q hr
      rw [h] at this; cases this
theorem RelH.comp (r : RelH T e g hp H) (q : RelH T ⟨g, H⟩ g' hp' H') : RelH T e g' hp' H' := by
  refine ⟨q.len, q.nd, q.cell, q.thaw, q.fzt, q.rot, fun a o h1 h2 => ?_, fun a h => ?_, fun a h => ?_, r.m0.trans q.m0, q.tb, r.tbe⟩
  · refine q.frm a o (r.frm a o h1 h2) fun z => ?_
    rcases r.nro a z with y | y
    · exact h2 y
    · rw [h1] at y; cases y
  · rcases q.nfz a h with z | z | z
    · exact r.nfz a z
    · rcases r.lost z with y | y
      · exact .inr (.inl y)
      · exact .inr (.inr y)
    · rcases r.nro a z with y | y
      · exact .inr (.inr y)
      · exact .inr (.inl y)
  · rcases q.nro a h with z | z
    · exact r.nro a z
    · rcases r.lost z with y | y
      · exact .inr y
      · exact .inl y
end
/-- a def's end as an expression's -/
def upF (env : List (Option M)) : ResF → Res M
  | .ok m hp => .ok m ⟨env, hp⟩
  | .err x hp => .err x ⟨env, hp⟩
  | .stuck => .stuck
/-- called by position -/
def spP (T : Tab) (F : Fn) : Sp := fun vs H Q E => ∃ g hp args, RelH T ⟨g, H⟩ g hp H ∧ RVs T g H args vs ∧ GoF T g H (F args hp) Q E
structure FnP (P : Program) (w : World) (mg : Str → Option Value) (base : Heap) (T : Tab) (k : Nat) (f : Addr) (F : Fn) : Prop where
  run : ∀ (A : Around) (outer : List Env) (s : Shared) (H : Hp) (us : List Value) (vs : List V) (Q : VK) (E : XK), RoomG k A → Env0 P w T.K mg base A outer s H → Vals vs us → spP T F vs H Q E →
    codeAny (model P w) A (.call (.ref f) ⟨us, []⟩) (CR (L2.CX P w) outer P w H s Q E) s
/-- with the defaults of what is left out behind -/
def posF (n : Nat) (dms : List M) (F : Fn) : Fn := fun args hp => if args.length + dms.length = n then F (args ++ dms) hp else .stuck
theorem FnP.of {P : Program} {w : World} {mg : Str → Option Value} {base : Heap} {T : Tab} {k : Nat} {f : Addr} {fd : FuncData} {ps : List Str} {F : Fn} {ds : List Value} {dvs : List V} {dms : List M} (G : FnG P w mg base T k f fd ps F) (hb : L2.Binds T.K fd ps ds) (hd : Vals dvs ds)
    (hdm : ∀ g H, RVs T g H dms dvs) : FnP P w mg base T k f (posF ps.length dms F) := by
  refine ⟨fun A outer s H us vs Q E hr e0 rv ⟨g, hp, args, rh, rs, go⟩ => ?_⟩
  unfold posF at go
  by_cases hl : args.length + dms.length = ps.length
  · rw [if_pos hl] at go
    have rs2 := rs.app (hdm g H)
    have hvl : (vs ++ dvs).length = ps.length := by rw [← rs2.length, List.length_append]; exact hl
    have r2 : Vals (vs ++ dvs) (us ++ ds) := rv.append hd
    exact G.run A outer s H ⟨us, []⟩ (us ++ ds) (vs ++ dvs) Q E hr e0 (hb s us (e0.mod.kin.keeps fun b o q => (e0.bs b o q).1) (by rw [← r2.length]; exact hvl)) r2 ⟨hvl, g, hp, args ++ dms, rh, rs2, go⟩
  · rw [if_neg hl] at go; exact go.elim
section
variable {C : MC} {g : Gh} {H : Hp} {s : MS} {σ : L2.St} {k : Nat} {f : Addr} {F : Fn}
theorem sp_up {Q : VK} {args : List M} {vs : List V} (r : C.rel g s σ H) (rs : RVs C.T g H args vs) (h : Go C C.V1 σ (upF s.env (F args s.hp)) g H Q) : spP C.T F vs H Q fun cls d H' => C.W cls d σ H' := by
  refine ⟨g, s.hp, args, r.h.self, rs, ?_⟩
  cases hf : F args s.hp with
  | stuck => rw [hf] at h; exact h.elim
  | ok m hp => rw [hf] at h; exact fun g' H' v rl rv => h g' H' v rl.m0 (r.env rl.m0 (r.h.comp rl)) rv
  | err x hp => rw [hf] at h; exact fun g' H' cls d rl xr => h g' H' cls d rl.m0 (r.env rl.m0 (r.h.comp rl)) xr
/-- the callee runs -/
theorem run_p {pins : List (Addr × Obj)} {sh : Shared} {Q : VK} {us : List Value} {args : List M} {vs : List V} (G : FnP C.X.prog C.X.w C.X.mg C.X.base C.T k f F) (hr : RoomG k C.X.A) (tk : Takes C.X C.W)
    (I : Inv C.X pins σ H sh) (r : C.rel g s σ H) (rs : RVs C.T g H args vs) (rv : Vals vs us) (h : Go C C.V1 σ (upF s.env (F args s.hp)) g H Q) :
    wpAny (model C.X.prog C.X.w) C.X.A (call (.ref f) us) (EP C.X pins σ Q) C.X.xe sh := by
  have e0 : Env0 C.X.prog C.X.w C.T.K C.X.mg C.X.base C.X.A C.X.stack sh H := C.hK ▸ I.env0
  refine wpAny_call (codeAny_mono (G.run C.X.A C.X.stack sh H us vs Q _ hr e0 rv (sp_up r rs h)) fun res s' hq => ?_)
  cases res with
  | error x => exact tk x s' (XE.of_call I (fun _ _ _ z => z) hq)
  | ok fl =>
    cases fl with
    | ret u => exact I.after hq
    | next => exact hq.elim
    | brk => exact hq.elim
    | cont => exact hq.elim
/-- f(e, ..) -/
def mFn (ma : MA) (F : Fn) : ME := fun s => (ma s).bind fun ms s1 => upF s1.env (F ms s1.hp)
theorem em_fn {x : Str} {p pos : Pos} {ex : Expr} {es : List Expr} {ma : MA} (G : FnP C.X.prog C.X.w C.X.mg C.X.base C.T k f F) (hr : RoomG k C.X.A) (tk : Takes C.X C.W)
    (hm : C.X.mg x = some (.ref f)) (hk : PySem.W.keepIn C.T.K (.ref f) = true) (ha : PMa C (ex :: es) ma)
    (hg : Gl C.X x := by rfl) (hdb : (x == ("__debug__" : Str)) = false := by decide) (he : starEach (ex :: es) C.X.env = (false, eval ex C.X.env) :: starEach es C.X.env := by rfl) (hpl : (backTo pos (starEach es C.X.env)).any (·.1) = false := by rfl) :
    PMe C (.Call (.Name x p) (ex :: es) [] pos) (mFn ma F) := by
  refine ⟨fun pins sh σ H Q I h => wpAny_Call_Name_kw (ld_glob I hg hm ?_ hdb)⟩
  refine PySem.W.callWith_K (h₀ := C.X.base) I.ok.mod.kin (C.hK ▸ hk) (thn (ha.run pos pins sh σ H _ I (rdA_bind h)) fun us s1 hh => ?_) he hpl
  obtain ⟨vs, H1, I1, rv, ms, s2, g1, r1, rs, q1⟩ := hh
  exact ⟨I1.kIn, run_p G hr tk I1 r1 rs rv q1⟩
end
end Ma
/-! Ma13: a box becomes data; defs known by name; chains of comparisons. -/
namespace Ma
open L2 PySem.Spec PySem PyProof.Rows
section
variable {C : MC} {g g1 : Gh} {H H1 : Hp} {s : MS} {σ : L2.St} {ex ea eb ec : Expr} {es : List Expr} {a b c : ME} {ma : MA} {pos p : Pos} {x : Str}
def frz (x : M) (s : MS) : Res M := match x with
  | .box n => match s.hp[n]? with
    | some (.lst ms) => .ok (.lst ms) ⟨s.env, s.hp.set n .dead⟩
    | _ => .stuck
  | m => .ok m s
/-! ### defs by their names -/
/-- what the text's name x holds: a def that keeps its mirror -/
structure Kn (P : Program) (w : World) (mg : Str → Option Value) (base : Heap) (T : Tab) (x : Str) (k : Nat) (F : Fn) : Prop where
  ex : ∃ f : Addr, FnP P w mg base T k f F ∧ mg x = some (.ref f) ∧ PySem.W.keepIn T.K (.ref f) = true
theorem em_kn {k : Nat} {F : Fn} (G : Kn C.X.prog C.X.w C.X.mg C.X.base C.T x k F) (hr : RoomG k C.X.A) (tk : Takes C.X C.W) (ha : PMa C (ex :: es) ma)
    (hg : Gl C.X x := by rfl) (hdb : (x == ("__debug__" : Str)) = false := by decide) (he : starEach (ex :: es) C.X.env = (false, eval ex C.X.env) :: starEach es C.X.env := by rfl) (hpl : (backTo pos (starEach es C.X.env)).any (·.1) = false := by rfl) :
    PMe C (.Call (.Name x p) (ex :: es) [] pos) (mFn ma F) := by
  obtain ⟨f, h, hm, hk⟩ := G.ex
  exact em_fn h hr tk hm hk ha hg hdb he hpl
/-! ### a < b < c -/
def mChain (o o' : M → M → MS → Res M) (a b c : ME) : ME := fun s => (a s).bind fun x s1 => (b s1).bind fun y s2 => (o x y s2).bind fun z s3 => match z with
  | .bl k => if k = true then (c s3).bind fun w s4 => o' y w s4 else .ok (.bl false) s3
  | _ => .stuck
theorem em_chain {op op' : CmpOp} {o o' : M → M → MS → Res M} (ho : Op2Ok C (compareOp op) o) (ho' : Op2Ok C (compareOp op') o') (ha : PMe C ea a) (hb : PMe C eb b) (hc : PMe C ec c)
    (hm : lastMarks [op, op'] [eb, ec] = false := by with_unfolding_all rfl) : PMe C (.Compare ea [op, op'] [eb, ec] pos) (mChain o o' a b c) := by
  refine ⟨fun pins sh σ H Q I h => ?_⟩
  obtain ⟨g, s, r, q⟩ := h
  refine Compare_chain (thn (ha.run pins sh σ H _ I ⟨g, s, r, Go.bind (R := C.V1) q⟩) fun v s1 ⟨x, H1, I1, l1, m1, ms1, g1, mo1, r1, rv1, q1⟩ => chain_link ?_) hm
  refine thn (hb.run pins s1 σ H1 _ I1 ⟨g1, ms1, r1, Go.bind (R := C.V1) q1⟩) fun u s2 ⟨y, H2, I2, l2, m2, ms2, g2, mo2, r2, rv2, q2⟩ => ?_
  refine thn (ho pins s2 σ H2 g2 ms2 m1 m2 x y v u _ I2 r2 (rv1.mono mo2) rv2 l1 l2 (Go.bind (R := C.V1) q2)) fun d s3 ⟨z, H3, I3, l3, m3, ms3, g3, mo3, r3, rv3, q3⟩ => ?_
  cases rv3 with
  | bl k =>
    cases l3
    refine wpAny_truthy_bool ?_
    cases k with
    | false => exact ite_ff ⟨.bl false, H3, I3, rfl, q3.ret r3 (.bl _)⟩
    | true =>
      refine ite_tt (chain_last (thn (hc.run pins s3 σ H3 _ I3 ⟨g3, ms3, r3, Go.bind (R := C.V1) q3⟩) fun w' s4 ⟨z', H4, I4, l4, m4, ms4, g4, mo4, r4, rv4, q4⟩ => ?_))
      exact ho' pins s4 σ H4 g4 ms4 m2 m4 y z' u w' Q I4 r4 (rv2.mono (mo3.trans mo4)) rv4 l2 l4 q4
  | _ => exact q3.elim
/-- -e -/
def mNeg (a : ME) : ME := fun s => (a s).bind fun x s1 => match x with
  | .int i => .ok (.int (-i)) s1
  | _ => .stuck
theorem em_neg (ha : PMe C ea a) : PMe C (.UnaryOp .USub ea pos) (mNeg a) := wkE (pe_un un_neg ha) fun σ H Q h => by
  obtain ⟨g, s, r, q⟩ := rdE_bind h
  refine ⟨g, s, r, q.imp ?_⟩
  rintro k H1 ⟨m, s1, g1, r1, rv, q1⟩
  cases rv with
  | int i => exact ⟨i, rfl, q1.ret r1 (.int _)⟩
  | _ => exact q1.elim
end
end Ma
/-! Ma14: targets in parentheses; list comprehensions. -/
namespace Ma
open L2 PySem.Spec PySem PyProof.Rows
section
variable {C : MC} {g g1 : Gh} {H H1 : Hp} {s : MS} {σ : L2.St} {ex ea eb ec : Expr} {es : List Expr} {a b c : ME} {ma : MA} {pos p : Pos} {x : Str}
def gNs : List Nat → TGs
  | [] => gNil
  | i :: is => gCons (gName i) (gNs is)
def setM : List Nat → List M → List (Option M) → Option (List (Option M))
  | [], [], env => some env
  | i :: is, m :: ms, env => setM is ms (env.set i (some m))
  | _, _, _ => none
def gTupN (is : List Nat) : MG := fun w s => match w with
  | .tup ms => match setM is ms s.env with
    | some e => .ok () ⟨e, s.hp⟩
    | none => .stuck
  | _ => .stuck
theorem wipe_put {i : Nat} {v : V} : ∀ {vs : List Nat} {σ : L2.St}, i ∈ vs → wipe (σ.set i (some v)) vs = wipe σ vs
  | [], _, h => by simp at h
  | j :: vs, σ, h => by
    unfold wipe
    by_cases hm : i ∈ vs
    · rw [wipe_put hm]
    · have e : i = j := by simpa [hm] using h
      subst e
      have key : ∀ {us : List Nat} {τ : L2.St}, i ∉ us → wipe (τ.set i (some v)) us = (wipe τ us).set i (some v) := by
        intro us
        induction us with
        | nil => intro τ _; rfl
        | cons k us ih =>
          intro τ hk
          have h1 : i ≠ k := fun z => hk (by simp [z])
          have h2 : i ∉ us := fun z => hk (by simp [z])
          unfold wipe
          rw [ih h2, List.set_comm _ _ h1]
      rw [key hm, List.set_set]
theorem ns_of {Q : L2.St → Hp → Prop} : ∀ {is : List Nat} {ms : List M} {vs : List V} {env env' : List (Option M)} {hp : List Cell} {σ : L2.St}, C.rel g ⟨env, hp⟩ σ H → RVs C.T g H ms vs → setM is ms env = some env' →
    (∀ σ', C.rel g ⟨env', hp⟩ σ' H → (∀ ws : List Nat, (∀ i ∈ is, i ∈ ws) → wipe σ' ws = wipe σ ws) → Q σ' H) → gNs is vs σ H Q
  | [], [], _, env, env', hp, σ, r, .nil, h, k => by
    cases h
    exact ⟨rfl, k σ r fun _ _ => rfl⟩
  | i :: is, m :: ms, _, env, env', hp, σ, r, .cons rv rs, h, k => by
    refine ⟨_, _, rfl, ?_⟩
    refine ns_of (is := is) (r.put (i := i) rv) rs h fun σ' r' hw => k σ' r' fun ws hs => ?_
    rw [hw ws fun j hj => hs j (by simp [hj])]
    exact wipe_put (hs i (by simp))
  | [], _ :: _, _, _, _, _, _, _, _, h, _ => by cases h
  | _ :: _, [], _, _, _, _, _, _, _, h, _ => by cases h
theorem gm_tupN {es : List Expr} {k : Nat} {is : List Nat} {n : Nat} (hc : C.X.calm = true) (h : PGs C.X es (gNs is)) (hl : is.length = n := by rfl)
    (hn : (assignEach es C.X.env).length = n := by rfl) (hst : (assignEach es C.X.env).findIdx? (·.1) = none := by rfl) : PMg C (.Tuple es k pos) (gTupN is) :=
  wkG (pg_tup hc h hn hst) fun v σ H Q ⟨g, s, w, r, rv, q⟩ => by
    unfold gTupN at q
    cases rv with
    | @tup pa ms vs e rs =>
      dsimp only at q
      cases he : setM is ms s.env with
      | none => rw [he] at q; exact q.elim
      | some env' =>
        rw [he] at q
        have hlen : ∀ {is : List Nat} {ms : List M} {env env' : List (Option M)}, setM is ms env = some env' → ms.length = is.length := by
          intro is
          induction is with
          | nil => intro ms env env' z; cases ms with
            | nil => rfl
            | cons _ _ => cases z
          | cons i is ih => intro ms env env' z; cases ms with
            | nil => cases z
            | cons _ _ => exact congrArg Nat.succ (ih z)
        exact ⟨pa, vs, rfl, .inl (.inl e), by rw [← rs.length, hlen he, hl], ns_of (env := s.env) (hp := s.hp) r rs he fun σ' r' _ => q g H σ' (Mono.refl _ _) r'⟩
    | _ => exact q.elim
/-! ### the targets of a comprehension -/
def rdGc (C : MC) (ws : List Nat) (m : MG) : TG := fun v σ H Q => ∃ g s w, C.rel g s σ H ∧ RV C.T g H w v ∧ match m w s with
  | .ok _ s1 => ∀ (σ' : L2.St), C.rel g s1 σ' H → wipe σ' ws = wipe σ ws → Q σ' H
  | _ => False
abbrev PMc (C : MC) (ws : List Nat) (tg : Expr) (m : MG) : Prop := PG C.X tg (rdGc C ws m)
theorem gc_name (i : Nat) {ws : List Nat} (hN : C.X.N.Nodup) (hi : C.X.N[i]? = some x) (hx : Loc C.X.env.scope x) (hw : i ∈ ws) (hf : C.X.fn x = true ∨ C.X.env.scope.names.lookup x = some .local := by first | exact .inl rfl | exact .inr rfl | assumption) : PMc C ws (.Name x pos) (gSet i) :=
  wkG (pg_name hN hi hx hf) fun v σ H Q ⟨g, s, w, r, rv, q⟩ => q _ (r.put rv) (wipe_put hw)
theorem gc_tup {es : List Expr} {k : Nat} {is ws : List Nat} {n : Nat} (hc : C.X.calm = true) (h : PGs C.X es (gNs is)) (hw : ∀ i ∈ is, i ∈ ws) (hl : is.length = n := by rfl)
    (hn : (assignEach es C.X.env).length = n := by rfl) (hst : (assignEach es C.X.env).findIdx? (·.1) = none := by rfl) : PMc C ws (.Tuple es k pos) (gTupN is) :=
  wkG (pg_tup hc h hn hst) fun v σ H Q ⟨g, s, w, r, rv, q⟩ => by
    unfold gTupN at q
    cases rv with
    | @tup pa ms vs e rs =>
      dsimp only at q
      cases he : setM is ms s.env with
      | none => rw [he] at q; exact q.elim
      | some env' =>
        rw [he] at q
        have hlen : ∀ {is : List Nat} {ms : List M} {env env' : List (Option M)}, setM is ms env = some env' → ms.length = is.length := by
          intro is
          induction is with
          | nil => intro ms env env' z; cases ms with
            | nil => rfl
            | cons _ _ => cases z
          | cons i is ih => intro ms env env' z; cases ms with
            | nil => cases z
            | cons _ _ => exact congrArg Nat.succ (ih z)
        exact ⟨pa, vs, rfl, .inl (.inl e), by rw [← rs.length, hlen he, hl], ns_of (env := s.env) (hp := s.hp) r rs he fun σ' r' z => q σ' r' (z ws hw)⟩
    | _ => exact q.elim
/-! ### [elt for target in iter if ..] -/
def wipeM (env : List (Option M)) : List Nat → List (Option M)
  | [] => env
  | v :: vs => (wipeM env vs).set v none
theorem Rel.wipe {T : Tab} {e : En} : ∀ {vs : List Nat} {s : MS}, Rel T e g s σ H → Rel T e g ⟨wipeM s.env vs, s.hp⟩ (wipe σ vs) H
  | [], s, r => r
  | v :: vs, s, r => by
    have q := Rel.wipe (vs := vs) r
    refine ⟨q.h, by simp [wipeM, L2.wipe, q.len], fun i m x h1 h2 => ?_⟩
    have h1 : ((wipeM s.env vs).set v none)[i]? = some (some m) := h1
    have h2 : ((L2.wipe σ vs).set v none)[i]? = some x := h2
    rw [List.getElem?_set] at h1 h2
    by_cases hv : v = i
    · rw [if_pos hv] at h1
      split at h1 <;> cases h1
    · rw [if_neg hv] at h1 h2
      exact q.sl i m x h1 h2
def lcLoop (vs : List Nat) (tg : MG) (tt : MT) (el : ME) : List M → List M → MS → Res (List M)
  | [], acc, s => .ok acc s
  | x :: xs, acc, s => match tg x ⟨wipeM s.env vs, s.hp⟩ with
    | .ok _ s1 => match tt s1 with
      | .ok true s2 => match el s2 with
        | .ok y s3 => if acc.length < big then lcLoop vs tg tt el xs (acc ++ [y]) ⟨s.env, s3.hp⟩ else .stuck
        | _ => .stuck
      | .ok false s2 => lcLoop vs tg tt el xs acc ⟨s.env, s2.hp⟩
      | _ => .stuck
    | _ => .stuck
def mLc (vs : List Nat) (it : MI) (tg : MG) (tt : MT) (el : ME) : ME := fun s => (it s).bind fun xs s1 => (lcLoop vs tg tt el xs [] s1).bind fun ms s2 => .ok (.lst ms) s2
/-- the new list, beside all that the machine knows -/
structure Side (e : En) (g : Gh) (H : Hp) (D : Addr) (vs : List V) : Prop where
  at_ : H D = some (.lst vs)
  nf : ¬ g.fz D
  nr : D ∉ g.ro
  ne : e.H D = none
theorem RelH.side {T : Tab} {e : En} {hp : List Cell} {D : Addr} {vs ws : List V} (r : RelH T e g hp H) (d : Side e g H D vs) : RelH T e g hp (upd H D (.lst ws)) ∧ Mono g H g (upd H D (.lst ws)) ∧ Side e g (upd H D (.lst ws)) D ws := by
  have mo : Mono g H g (upd H D (.lst ws)) := ⟨⟨List.prefix_refl _, fun _ h => h, fun a f => upd_ne fun z => d.nf (z ▸ f), fun a us h => by
    have : a ≠ D := fun z => by subst z; rw [d.at_] at h; cases h
    rw [upd_ne this]; exact h⟩, fun a o u h => by
    have : a ≠ D := fun z => by subst z; rw [d.at_] at h; cases h
    rw [upd_ne this]; exact h⟩
  have nr : ∀ {n : Nat} {a : Addr}, g.ro[n]? = some a → a ≠ D := fun h z => d.nr (z ▸ List.mem_of_getElem? h)
  refine ⟨⟨r.len, r.nd, fun n c a h1 h2 => (r.cell n c a h1 h2).mono mo (upd_ne (nr h2)), r.thaw, fun a f => ?_, fun a h => ?_, fun a o h1 h2 => ?_, r.nfz, r.nro, r.m0.trans mo, r.tb.upd (fun u z => by rw [d.at_] at z; cases z; exact plain_lst) plain_lst.tbl (fun _ => plain_lst), r.tbe⟩, mo, ⟨upd_same, d.nf, d.nr, d.ne⟩⟩
  · obtain ⟨o, q⟩ := r.fzt a f
    exact ⟨o, by rw [upd_ne fun (z : a = D) => d.nf (z ▸ f)]; exact q⟩
  · obtain ⟨o, q⟩ := r.rot a h
    exact ⟨o, by rw [upd_ne fun (z : a = D) => d.nr (z ▸ h)]; exact q⟩
  · have q := r.frm a o h1 h2
    rw [upd_ne fun z => by subst z; rw [d.ne] at h1; cases h1]
    exact q
theorem Side.later {T : Tab} {e : En} {hp hp' : List Cell} {D : Addr} {vs : List V} (d : Side e g H D vs) (q : RelH T ⟨g, H⟩ g1 hp' H1) : Side e g1 H1 D vs := by
  refine ⟨q.frm D _ d.at_ d.nr, fun f => ?_, fun h => ?_, d.ne⟩
  · rcases q.nfz D f with z | z | z
    · exact d.nf z
    · have z : H D = none := z
      rw [d.at_] at z; cases z
    · exact d.nr z
  · rcases q.nro D h with z | z
    · exact d.nr z
    · have z : H D = none := z
      rw [d.at_] at z; cases z
/-- what the loop's end has to give -/
def GoL (C : MC) (σ : L2.St) (D : Addr) (r : Res (List M)) (g : Gh) (H : Hp) (Q : Hp → Prop) : Prop := match r with
  | .ok ms s => ∀ (g' : Gh) (H' : Hp) (vs : List V), Mono g H g' H' → C.rel g' s σ H' → Side C.e g' H' D vs → RVs C.T g' H' ms vs → Q H'
  | _ => False
theorem GoL.later {D : Addr} {r : Res (List M)} {Q : Hp → Prop} (m : Mono g H g1 H1) (h : GoL C σ D r g H Q) : GoL C σ D r g1 H1 Q := by
  cases r with
  | ok a s => exact fun g' H' v q => h g' H' v (m.trans q)
  | err x s => exact h
  | stuck => exact h
abbrev MC.inBlk (C : MC) (s : Shared) (H : Hp) (scope : Scope) (D : Addr) (cl : List (Str × Addr)) (fp : List Addr) (e : En) : MC := ⟨C.X.blk s H scope (compEnvC scope cl D C.X.env) fp, C.T, e, fun _ _ _ _ => False, C.hK⟩
theorem lc_rd {mi : MI} {mg : MG} {mt : MT} {me : ME} {vs : List Nat} {g' : TG} {tt : TT} {te : TE} (hg : ∀ e v σ H Q, rdGc ⟨C.X, C.T, e, fun _ _ _ _ => False, C.hK⟩ vs mg v σ H Q → g' v σ H Q)
    (ht : ∀ e σ H Q, rdT ⟨C.X, C.T, e, fun _ _ _ _ => False, C.hK⟩ mt σ H Q → tt σ H Q) (he : ∀ e σ H Q, rdE ⟨C.X, C.T, e, fun _ _ _ _ => False, C.hK⟩ me σ H Q → te σ H Q) {σ : L2.St} {H : Hp} {Q : VK}
    (h : rdE C (mLc vs mi mg mt me) σ H Q) : tLc (rdI C mi) g' tt te vs σ H Q := by
  obtain ⟨g, s, r, q⟩ := h
  refine ⟨g, s, r, ?_⟩
  unfold mLc at q
  unfold GoI
  cases hm : mi s with
  | stuck => rw [hm] at q; exact q.elim
  | err x s1 => rw [hm] at q; exact q
  | ok items s1 =>
    rw [hm] at q
    dsimp only [Res.bind] at q
    intro g0 H0 J mo0 r0 wk D hD
    have q := Go.later mo0 q
    -- the loop's end
    have fin0 : GoL C σ D (lcLoop vs mg mt me items [] s1) g0 H0 (fun H' => Q (.ref D) H') := by
      unfold GoL
      cases hl : lcLoop vs mg mt me items [] s1 with
      | stuck => rw [hl] at q; exact q.elim
      | err x s2 => exact absurd hl (by
          have : ∀ (xs acc : List M) (s : MS), lcLoop vs mg mt me xs acc s ≠ .err x s2 := by
            intro xs
            induction xs with
            | nil => intro acc s z; cases z
            | cons y ys ih =>
              intro acc s z
              unfold lcLoop at z
              split at z
              · split at z
                · split at z
                  · split at z
                    · exact ih _ _ z
                    · cases z
                  · cases z
                · exact ih _ _ z
                · cases z
              · cases z
          exact this _ _ _)
      | ok ms s2 =>
        rw [hl] at q
        intro g' H' ws mo r' d rs
        have mo2 : Mono g' H' (g'.add D) H' := ⟨⟨List.prefix_refl _, fun _ h => .inl h, fun _ _ => rfl, fun _ _ h => h⟩, fun _ _ _ h => h⟩
        have r2 : C.rel (g'.add D) s2 σ H' := r'.env mo2 ⟨r'.h.len, r'.h.nd, fun n c a h1 h2 => (r'.h.cell n c a h1 h2).mono mo2 rfl, fun n c a h1 h2 lv f => by
          rcases f with f | rfl
          · exact r'.h.thaw n c a h1 h2 lv f
          · exact d.nr (List.mem_of_getElem? h2), fun a f => by
          rcases f with f | rfl
          · exact r'.h.fzt a f
          · exact ⟨_, d.at_⟩, r'.h.rot, r'.h.frm, fun a f => by
          rcases f with f | rfl
          · exact r'.h.nfz a f
          · exact .inr (.inl d.ne), r'.h.nro, r'.h.m0.trans mo2, r'.h.tb.more (fun a f => f.imp id fun z => ⟨_, (congrArg H' z).trans d.at_, plain_lst.tbl⟩), r'.h.tbe⟩
        exact q (g'.add D) H' (.ref D) (mo.trans mo2) r2 (.lst (.inr rfl) d.at_ (rs.mono mo2))
    have hDr : D ∉ g0.ro := fun z => by obtain ⟨o, e⟩ := r0.h.rot D z; rw [hD] at e; cases e
    have hDf : ¬ g0.fz D := fun z => by obtain ⟨o, e⟩ := r0.h.fzt D z; rw [hD] at e; cases e
    have hDe : C.e.H D = none := by
      rcases r0.h.lost hD with z | z
      · exact z
      · exact absurd (r0.h.m0.ro.subset z) hDr
    have mo1 := mono_laid (o := .lst []) r0.h hD
    have r1 := r0.laid (o := .lst []) hD
    obtain ⟨G, Y, w, hG, hY⟩ := wk
    refine lc_it w (fun i H => ∃ g hp acc ws, Mono g0 H0 g H ∧ C.rel g ⟨s1.env, hp⟩ σ H ∧ Side C.e g H D ws ∧ RVs C.T g H acc ws ∧ GoL C σ D (lcLoop vs mg mt me (items.drop i) acc ⟨s1.env, hp⟩) g H (fun H' => Q (.ref D) H'))
      ⟨g0, s1.hp, [], [], mo1, r1, ⟨upd_same, hDf, hDr, hDe⟩, .nil, fin0.later mo1⟩ (fun i H _ ⟨g, _, _, _, mo, _⟩ => hG g H mo) ?_ ?_
    · rintro i x H1 H2 hi ⟨g1, hp1, acc, ws, mo1, r1, d1, rs1, q1⟩ y
      obtain ⟨m, hm, mo2, r2, rv, same⟩ := hY i g1 H1 ⟨s1.env, hp1⟩ σ x H2 hi mo1 r1 y
      have d2 : Side C.e g1 H2 D ws := ⟨same _ _ d1.at_, d1.nf, d1.nr, d1.ne⟩
      have q1 := q1.later mo2
      have rs2 := rs1.mono mo2
      rw [drop_of hm] at q1
      unfold lcLoop at q1
      -- the turn starts from here
      have rt : Rel C.T ⟨g1, H2⟩ g1 ⟨wipeM s1.env vs, hp1⟩ (wipe σ vs) H2 := by
        have := Rel.wipe (vs := vs) r2
        exact ⟨this.h.self, this.len, this.sl⟩
      refine hg ⟨g1, H2⟩ _ _ _ _ ⟨g1, ⟨wipeM s1.env vs, hp1⟩, m, rt, rv, ?_⟩
      dsimp only at q1
      cases ht1 : mg m ⟨wipeM s1.env vs, hp1⟩ with
      | stuck => rw [ht1] at q1; exact q1.elim
      | err e s2 => rw [ht1] at q1; exact q1.elim
      | ok u s2 =>
        rw [ht1] at q1
        intro σ2 r3 hw
        refine ⟨by rw [hw]; exact (by
          have : ∀ (us : List Nat) (τ : L2.St), wipe (wipe τ us) us = wipe τ us := by
            intro us τ
            apply List.ext_getElem?
            intro j
            have key : ∀ (us : List Nat) (τ : L2.St) (j : Nat), (wipe τ us)[j]? = if j ∈ us then (if j < τ.length then some none else none) else τ[j]? := by
              intro us
              induction us with
              | nil => intro τ j; simp [wipe]
              | cons k us ih =>
                intro τ j
                unfold wipe
                rw [List.getElem?_set, ih, wipe_length]
                by_cases hk : k = j
                · subst hk; simp
                · simp [hk, Ne.symm hk]
            rw [key, key, wipe_length]
            split <;> rfl
          exact this vs σ), ?_⟩
        refine ht ⟨g1, H2⟩ _ _ _ ⟨g1, s2, r3, ?_⟩
        dsimp only at q1
        cases ht2 : mt s2 with
        | stuck => rw [ht2] at q1; exact q1.elim
        | err e s3 => rw [ht2] at q1; exact q1.elim
        | ok k s3 =>
          rw [ht2] at q1
          intro g3 H3 b mo3 r3' eb
          cases eb
          cases k with
          | false =>
            rw [if_neg Bool.false_ne_true]
            have rc : RelH C.T C.e g3 s3.hp H3 := r2.h.comp r3'.h
            have mo3' := r3'.h.m0
            exact ⟨g3, s3.hp, acc, ws, (mo1.trans mo2).trans mo3', r2.env mo3' rc, d2.later (hp := hp1) r3'.h, rs2.mono mo3', q1.later mo3'⟩
          | true =>
            rw [if_pos rfl]
            refine he ⟨g1, H2⟩ _ _ _ ⟨g3, s3, r3', ?_⟩
            dsimp only at q1
            cases ht3 : me s3 with
            | stuck => rw [ht3] at q1; exact q1.elim
            | err e s4 => rw [ht3] at q1; exact q1.elim
            | ok y s4 =>
              rw [ht3] at q1
              intro g4 H4 yv mo4 r4 ry
              dsimp only at q1
              by_cases hb : acc.length < big
              · rw [if_pos hb] at q1
                have mo4' := r4.h.m0
                have rc : RelH C.T C.e g4 s4.hp H4 := r2.h.comp r4.h
                have d4 := d2.later (hp := hp1) r4.h
                have rs4 := rs2.mono mo4'
                obtain ⟨rh5, mo5, d5⟩ := rc.side (ws := ws ++ [yv]) d4
                exact ⟨ws, d4.at_, by rw [← rs4.length, sizeLine_eq]; exact hb, g4, s4.hp, acc ++ [y], ws ++ [yv], ((mo1.trans mo2).trans mo4').trans mo5, (r2.env mo4' rc).env mo5 rh5, d5, (rs4.mono mo5).app (.cons (ry.mono mo5) .nil), q1.later (mo4'.trans mo5)⟩
              · rw [if_neg hb] at q1; exact q1.elim
    · rintro H1 ⟨g1, hp1, acc, ws, mo1, r1, d1, rs1, q1⟩
      rw [List.drop_length] at q1
      exact q1 g1 H1 ws (Mono.refl _ _) r1 d1 rs1
end
end Ma
/-! Ma15: list comprehensions as expressions and as statements. -/
namespace Ma
open L2 PySem.Spec PySem PyProof.Rows
section
variable {C : MC} {tg iter elt : Expr} {ifs : List Expr} {scope : Scope} {own : List (Str × Nat)} {pos spos : Pos} {mi : MI} {mg : MG} {mt : MT} {me : ME}
def mYes : MT := fun s => .ok true s
abbrev PMts (C : MC) (ifs : List Expr) (mt : MT) : Prop := PTs C.X ifs (rdT C mt)
theorem tsm_nil : PMts C [] mYes := ⟨fun pins s σ H Q I ⟨g, ms, r, q⟩ => pts_nil.run pins s σ H Q I (q.ret r rfl)⟩
theorem tsm_one {c : Expr} (h : PMt C c mt) : PMts C [c] mt := pts_one h
theorem em_lc (hc : C.X.calm = true) (hN : C.X.N.Nodup) (hi : PMi C tg iter mi) (ok : BlkOk C.X.N C.X.env.scope scope own)
    (hg : ∀ (s : Shared) (H : Hp) (D : Addr) (cl : List (Str × Addr)) (fp : List Addr) (e : En), PMc (C.inBlk s H scope D cl fp e) (own.map (·.2)) tg mg)
    (ht : ∀ (s : Shared) (H : Hp) (D : Addr) (cl : List (Str × Addr)) (fp : List Addr) (e : En), PMts (C.inBlk s H scope D cl fp e) ifs mt)
    (he : ∀ (s : Shared) (H : Hp) (D : Addr) (cl : List (Str × Addr)) (fp : List Addr) (e : En), PMe (C.inBlk s H scope D cl fp e) elt me)
    (hs : ∀ x, foldedSetIterable iter C.X.env x = pure x := by intro _; rfl) : PMe C (.ListComp elt [⟨tg, iter, ifs, 0⟩] scope pos) (mLc (own.map (·.2)) mi mg mt me) :=
  wkE (pe_lc (g := fun v σ H Q => ∃ e, rdGc ⟨C.X, C.T, e, fun _ _ _ _ => False, C.hK⟩ (own.map fun (p : Str × Nat) => p.2) mg v σ H Q) (tt := fun σ H Q => ∃ e, rdT ⟨C.X, C.T, e, fun _ _ _ _ => False, C.hK⟩ mt σ H Q) (te := fun σ H Q => ∃ e, rdE ⟨C.X, C.T, e, fun _ _ _ _ => False, C.hK⟩ me σ H Q) hc hN hi ok
    (fun s H D cl fp => ⟨fun pins s1 σ H1 v u Q I r ⟨e, q⟩ => (hg s H D cl fp e).run pins s1 σ H1 v u Q I r q⟩)
    (fun s H D cl fp => ⟨fun pins s1 σ H1 Q I ⟨e, q⟩ => (ht s H D cl fp e).run pins s1 σ H1 Q I q⟩)
    (fun s H D cl fp => ⟨fun pins s1 σ H1 Q I ⟨e, q⟩ => (he s H D cl fp e).run pins s1 σ H1 Q I q⟩) hs)
    fun σ H Q h => lc_rd (fun e v σ H Q z => ⟨e, z⟩) (fun e σ H Q z => ⟨e, z⟩) (fun e σ H Q z => ⟨e, z⟩) h
theorem sm_setLc (i : Nat) {y : Str} {py : Pos} (hc : C.X.calm = true) (hN : C.X.N.Nodup) (hi : PMi C tg iter mi) (ok : BlkOk C.X.N C.X.env.scope scope own)
    (hg : ∀ (s : Shared) (H : Hp) (D : Addr) (cl : List (Str × Addr)) (fp : List Addr) (e : En), PMc (C.inBlk s H scope D cl fp e) (own.map (·.2)) tg mg)
    (ht : ∀ (s : Shared) (H : Hp) (D : Addr) (cl : List (Str × Addr)) (fp : List Addr) (e : En), PMts (C.inBlk s H scope D cl fp e) ifs mt)
    (he : ∀ (s : Shared) (H : Hp) (D : Addr) (cl : List (Str × Addr)) (fp : List Addr) (e : En), PMe (C.inBlk s H scope D cl fp e) elt me)
    (hy : C.X.N[i]? = some y := by rfl) (hyl : C.X.env.scope.names.lookup y = some .local := by rfl)
    (hsw : swapsWith (.ListComp elt [⟨tg, iter, ifs, 0⟩] scope pos) (some (.Name y py)) spos.line C.X.env = pure true := by exact sw_true rfl rfl rfl (by decide +kernel))
    (hs : ∀ x, foldedSetIterable iter C.X.env x = pure x := by intro _; rfl) : PMs C (.Assign [.Name y py] (.ListComp elt [⟨tg, iter, ifs, 0⟩] scope pos) spos) (sSet i (mLc (own.map (·.2)) mi mg mt me)) :=
  wkS (ps_setLc (g := fun v σ H Q => ∃ e, rdGc ⟨C.X, C.T, e, fun _ _ _ _ => False, C.hK⟩ (own.map fun (p : Str × Nat) => p.2) mg v σ H Q) (tt := fun σ H Q => ∃ e, rdT ⟨C.X, C.T, e, fun _ _ _ _ => False, C.hK⟩ mt σ H Q) (te := fun σ H Q => ∃ e, rdE ⟨C.X, C.T, e, fun _ _ _ _ => False, C.hK⟩ me σ H Q) hc hN hy hyl hsw hi ok
    (fun s H D cl fp => ⟨fun pins s1 σ H1 v u Q I r ⟨e, q⟩ => (hg s H D cl fp e).run pins s1 σ H1 v u Q I r q⟩)
    (fun s H D cl fp => ⟨fun pins s1 σ H1 Q I ⟨e, q⟩ => (ht s H D cl fp e).run pins s1 σ H1 Q I q⟩)
    (fun s H D cl fp => ⟨fun pins s1 σ H1 Q I ⟨e, q⟩ => (he s H D cl fp e).run pins s1 σ H1 Q I q⟩) hs)
    fun D σ H h => by
      obtain ⟨g, s, r, q⟩ := h
      refine lc_rd (C := C) (mi := mi) (fun e v σ H Q z => ⟨e, z⟩) (fun e σ H Q z => ⟨e, z⟩) (fun e σ H Q z => ⟨e, z⟩) ⟨g, s, r, (Go.bindS (R := C.V1) (σ := σ) q).imp ?_⟩
      rintro x H1 ⟨m, s1, g1, mo, r1, rv, q1⟩
      exact q1.nx (r1.put rv)
end
end Ma
/-! Ma16: a law's end: its mirror gives True. -/
namespace Ma
open L2 PySem.Spec PySem PyProof.Rows
/-- the law's def, called at the heap behind the top, with the script and the empty tables known as T tells -/
theorem lawG {P : Program} {w : World} {T : Tab} {mg mb : Str → Option Value} {k : Nat} {fa a : Addr} {F : Fn} {s₁ : Shared} {vs : List Value} {ns : List Int} {hp : List Cell} {cs : List (Addr × Addr)}
    (KX : T.K.In s₁.heap) (hns : s₁.heap.Ns mainGlobals mg) (hb : s₁.heap.Ns builtinsNs mb) (hbb : ∀ x : Str, x ≠ "__name__" → mb x = bootBuiltins x) (hlim : s₁.heap.NoLimit) (hg : s₁.gens = #[])
    (hT : ∀ p ∈ cs, s₁.heap.get? p.2 = some (PySem.W.tabObj #[])) (nT : ∀ p ∈ cs, T.K.lookup p.2 = none) (hC : ∀ p ∈ cs, PySem.W.CodeHd s₁.heap p.1 p.2) (eT : T.tb.map (·.1) = cs.map (·.2)) (dT : (cs.map (·.2)).Nodup)
    (hbm : ∃ (bm : Addr) (ob : Obj), mg "__builtins__" = some (.ref bm) ∧ bm ≠ builtinsNs ∧ s₁.heap.get? bm = some ob ∧ ob.cls = .type "module" ∧ ob.dict = some builtinsNs ∧ ob.data = .plain)
    (ha : s₁.heap.get? a = some { cls := .type "list", data := .seq vs.toArray }) (hi : IntsAre vs ns) (hl : ns.length ≤ sizeLine) (hr : Room k callerA)
    (G : ∀ base : Heap, T.K.In base → base.Ns mainGlobals mg → (∀ p ∈ cs, LamX.TabB base mg p.1 p.2) → FnP P w mg base T k fa F) (hF : F [.scr ns] (cs.map fun _ => Cell.dead) = .ok (.bl true) hp) :
    codeAny (model P w) callerA (.call (.ref fa) ⟨[.ref a], []⟩) (fun r s' => r = .ok (.ret (.bool true)) ∧ OldK s₁.heap s'.heap ∧ s'.os = s₁.os ∧ AllBare s'.gens) s₁ := by
  have vints := vals_ints hi
  let scrO : Obj := { cls := .type "list", data := .seq vs.toArray }
  have isT : ∀ b ∈ cs.map (·.2), s₁.heap.get? b = some (PySem.W.tabObj #[]) := fun b hb => by
    obtain ⟨p, hp, rfl⟩ := List.mem_map.mp hb
    exact hT p hp
  have aT : a ∉ cs.map (·.2) := fun z => by
    have q := isT a z
    rw [ha] at q
    have q2 : Data.seq vs.toArray _ = Data.fields #[] := congrArg Obj.data (Option.some.inj q)
    cases q2
  have tbM : ∀ p ∈ T.tb, p.1 ∈ cs.map (·.2) := fun p hp => eT ▸ List.mem_map.mpr ⟨p, hp, rfl⟩
  -- H tracks the script at most, and the tables; gh: its ghosts
  have main : ∀ (H : Hp) (gh : Gh), gh.ro = cs.map (·.2) → (∀ b, gh.fz b → b = a ∧ ∃ o, H b = some o) → (∀ b o, H b = some o → (b = a ∧ o = .frz scrO (.lst (ns.map V.int))) ∨ (b ∈ cs.map (·.2) ∧ o = .tbl #[])) →
      (∀ b ∈ cs.map (·.2), H b = some (.tbl #[])) → HOk P w H s₁.heap → (H a ≠ none → T.K.lookup a = none) → RV T gh H (.scr ns) (.ref a) →
      codeAny (model P w) callerA (.call (.ref fa) ⟨[.ref a], []⟩) (fun r s' => r = .ok (.ret (.bool true)) ∧ OldK s₁.heap s'.heap ∧ s'.os = s₁.os ∧ AllBare s'.gens) s₁ := by
    intro H gh gro gfz only tabs hok notK rv
    have free : ∀ {b : Addr} {o : Obj}, s₁.heap.get? b = some o → o ≠ scrO → o ≠ PySem.W.tabObj #[] → H b = none := fun {b o} e ne nt => by
      cases q : H b with
      | none => rfl
      | some u =>
        rcases only b u q with ⟨rfl, _⟩ | ⟨z, _⟩
        · rw [ha] at e
          exact absurd (Option.some.inj e).symm ne
        · rw [isT b z] at e
          exact absurd (Option.some.inj e).symm nt
    have keepD : ∀ {b : Addr} {o : Obj}, s₁.heap.get? b = some o → (∀ xs n, o.data ≠ .seq xs n) → (∀ xs, o.data = .fields xs → xs.size ≠ 0) → (hidT s₁.heap H).get? b = some o := fun {b o} e h1 h2 =>
      hidT_get e (free e (fun z => by subst z; exact h1 _ _ rfl) (fun z => by subst z; exact h2 _ rfl rfl))
    have nsb : ∀ {b : Addr} {m : Str → Option Value}, s₁.heap.Ns b m → (hidT s₁.heap H).Ns b m := fun {b m} ⟨o, es, ep, e, d, r⟩ =>
      ⟨o, es, ep, keepD e (fun xs n z => by rw [d] at z; cases z) (fun xs z => by rw [d] at z; cases z), d, r⟩
    have kb : T.K.In (hidT s₁.heap H) := fun b o e => hidT_get (KX b o e) (by
      cases q : H b with
      | none => rfl
      | some u =>
        rcases only b u q with ⟨rfl, _⟩ | ⟨z, _⟩
        · rw [notK (by rw [q]; simp)] at e; cases e
        · obtain ⟨p, hp, rfl⟩ := List.mem_map.mp z
          rw [nT p hp] at e; cases e)
    have md : Mod T.K mg (hidT s₁.heap H) := ⟨kb, nsb hns, ⟨mb, nsb hb, hbb⟩, hlim.elim fun mc h => ⟨mc, nsb h.1, h.2⟩⟩
    have e0 : Env0 P w T.K mg (hidT s₁.heap H) callerA [] s₁ H := ⟨rfl, md, fun _ _ e => of_hidT e, Nat.le_of_eq (hidT_size _ _), trivial, fun b hb => (by cases hb), hok, .of_eq hg⟩
    have TB : ∀ p ∈ cs, LamX.TabB (hidT s₁.heap H) mg p.1 p.2 := fun p hp => by
      have hTp := hT p hp
      refine ⟨?_, ?_, fun z => ?_⟩
      · obtain ⟨o, us, file, tf, flags, tg, inF, text, tt, e1, r1, r2, r3, rest⟩ := hC p hp
        refine ⟨o, us, file, tf, flags, tg, inF, text, tt, keepD e1 (fun xs n z => by rw [r2] at z; cases z) (fun xs z => ?_), r1, r2, r3, rest⟩
        rw [r2] at z
        cases z
        intro y
        have := (Array.getElem?_eq_some_iff.mp r3).1
        omega
      · obtain ⟨bm, ob, b1, b2, b3, b4, b5, b6⟩ := hbm
        refine ⟨bm, ob, b1, b2, fun q => ?_, fun q => ?_, keepD b3 (fun xs n z => by rw [b6] at z; cases z) (fun xs z => by rw [b6] at z; cases z), b4, b5, b6⟩
        · obtain ⟨o, es, ep, e, hd, _⟩ := hns
          rw [q, e] at b3
          cases b3
          rw [hd] at b6
          cases b6
        · rw [q, hTp] at b3
          cases b3
          cases b6
      · obtain ⟨o, es, ep, e, hd, _⟩ := hns
        rw [z, hTp] at e
        cases e
        cases hd
    have rh : RelH T ⟨gh, H⟩ gh (cs.map fun _ => Cell.dead) H := by
      refine ⟨by rw [gro]; simp, by rw [gro]; exact dT, fun n c q h1 h2 => ?_, fun n c q h1 h2 ow => ?_, fun b f => (gfz b f).2, fun q h => ⟨_, tabs q (gro ▸ h)⟩, fun _ _ h _ => h, fun _ h => .inl h, fun q h => .inl h, Mono.refl _ _, ⟨fun p hp => ⟨?_, ?_, fun f => ?_⟩, fun b ps z => ?_, fun q h u z => ?_⟩, fun p hp => ?_⟩
      · rw [List.getElem?_map] at h1
        cases e : cs[n]? with
        | none => rw [e] at h1; cases h1
        | some y => rw [e] at h1; cases h1; trivial
      · rw [List.getElem?_map] at h1
        cases e : cs[n]? with
        | none => rw [e] at h1; cases h1
        | some y => rw [e] at h1; cases h1; exact ow.elim
      · exact LamX.TabS.nil (tabs _ (tbM p hp))
      · rw [gro]; exact tbM p hp
      · exact aT ((gfz _ f).1 ▸ tbM p hp)
      · rcases only b _ z with ⟨_, y⟩ | ⟨y, _⟩
        · cases y
        · rw [← eT] at y
          obtain ⟨p, hp, e⟩ := List.mem_map.mp y
          exact ⟨p, hp, e⟩
      · rw [tabs q (gro ▸ h)] at z
        cases z
        exact ⟨fun _ _ z => (by unfold LamX.CodeO at z; cases z), fun _ z => (by cases z)⟩
      · show p.1 ∈ gh.ro
        rw [gro]; exact tbM p hp
    have sp : spP T F [.ref a] H (fun v _ => v = .bl true) (fun _ _ _ => False) := ⟨gh, cs.map fun _ => Cell.dead, [.scr ns], rh, .cons rv .nil, by
      rw [hF]
      intro g' H' v _ r
      cases r
      rfl⟩
    refine codeAny_mono ((G _ kb (nsb hns) TB).run callerA [] s₁ H [.ref a] [.ref a] _ _ ⟨hr, rfl⟩ e0 (.cons rfl .nil) sp) fun r s' h => ?_
    cases r with
    | error e =>
      obtain ⟨_, _, _, _, _, _, _, _, _, _, _, _, z⟩ := (h : L2.CX P w [] H s₁ (fun _ _ _ => False) e s')
      exact z.elim
    | ok fl =>
      cases fl with
      | ret u =>
        obtain ⟨v, H', os, bare, un, hok', r', q⟩ := h
        have q' : v = .bl true := q
        subst q'
        obtain rfl : u = Value.bool true := r'
        have grown : ∀ p ∈ cs, ∃ more : Array Value, s'.heap.get? p.2 = some { cls := .none, data := .fields more } := fun p hp => by
          obtain ⟨more, z⟩ := un.tbls p.2 #[] (tabs _ (List.mem_map.mpr ⟨p, hp, rfl⟩))
          exact ⟨_, hok' p.2 _ z⟩
        have key : ∀ b o, b ∉ cs.map (·.2) → s₁.heap.get? b = some o → s'.heap.get? b = some o := fun b o nb e => by
          cases q : H b with
          | none => exact un.keep b o e q (fun z => by cases z) (fun z => by cases z)
          | some u =>
            rcases only b u q with ⟨rfl, rfl⟩ | ⟨z, _⟩
            · rw [ha] at e
              cases e
              exact (hok' _ _ (un.frzs _ _ _ q)).1
            · exact absurd z nb
        refine ⟨rfl, ⟨fun b o e => ?_, fun b o e => ?_⟩, os, bare⟩
        · by_cases hb : b ∈ cs.map (·.2)
          · obtain ⟨p, hp, rfl⟩ := List.mem_map.mp hb
            obtain ⟨more, hm⟩ := grown p hp
            rw [hT p hp] at e
            cases e
            exact .inr (.inl ⟨((hC p hp).tab (hT p hp)).isCodeTable, rfl, #[], more, rfl, (by rw [Array.empty_append]; exact hm)⟩)
          · exact .inl (key b o hb e)
        · by_cases hb : b ∈ cs.map (·.2)
          · obtain ⟨p, hp, rfl⟩ := List.mem_map.mp hb
            obtain ⟨more, hm⟩ := grown p hp
            exact ⟨_, hm⟩
          · exact ⟨o, key b o hb e⟩
      | next => exact h.elim
      | brk => exact h.elim
      | cont => exact h.elim
  cases hk : T.K.lookup a with
  | some o =>
    have e := KX a o hk
    rw [ha] at e
    cases e
    refine main (fun b => if b ∈ cs.map (·.2) then some (.tbl #[]) else none) ⟨cs.map (·.2), fun _ => False⟩ rfl (fun b h => h.elim) (fun b o h => ?_) (fun b h => if_pos h) (fun b u h => ?_) (fun h => absurd (if_neg aT) h) (.scrK fun H => ?_)
    · by_cases hb : b ∈ cs.map (·.2)
      · exact .inr ⟨hb, (Option.some.inj ((if_pos hb).symm.trans h)).symm⟩
      · cases (if_neg hb).symm.trans h
    · by_cases hb : b ∈ cs.map (·.2)
      · cases (if_pos hb).symm.trans h
        exact isT b hb
      · cases (if_neg hb).symm.trans h
    exact .inr ⟨_, vs.toArray, _, hk, rfl, rfl, rfl, by rw [List.size_toArray, hi.length]; exact hl, by simpa using vints⟩
  | none =>
    have at_ : (fun b => if b = a then some (HO.frz scrO (.lst (ns.map V.int))) else if b ∈ cs.map (·.2) then some (.tbl #[]) else none : Hp) a = some (.frz scrO (.lst (ns.map V.int))) := if_pos rfl
    refine main (fun b => if b = a then some (.frz scrO (.lst (ns.map V.int))) else if b ∈ cs.map (·.2) then some (.tbl #[]) else none) ⟨cs.map (·.2), fun b => b = a⟩ rfl (fun b h => ⟨h, by rw [show b = a from h]; exact ⟨_, if_pos rfl⟩⟩) (fun b o h => ?_) (fun b h => ?_) (fun b u h => ?_) (fun _ => hk) (.scr rfl at_)
    · by_cases hb : b = a
      · exact .inl ⟨hb, (Option.some.inj ((if_pos hb).symm.trans h)).symm⟩
      · have h := (if_neg hb).symm.trans h
        by_cases hb2 : b ∈ cs.map (·.2)
        · exact .inr ⟨hb2, (Option.some.inj ((if_pos hb2).symm.trans h)).symm⟩
        · cases (if_neg hb2).symm.trans h
    · have hb : b ≠ a := fun z => aT (z ▸ h)
      exact (if_neg hb).trans (if_pos h)
    · by_cases hb : b = a
      · cases (if_pos hb).symm.trans h
        subst hb
        exact ⟨ha, by rw [List.length_map]; exact hl, vs, _, vints, ha⟩
      · have h := (if_neg hb).symm.trans h
        by_cases hb2 : b ∈ cs.map (·.2)
        · cases (if_pos hb2).symm.trans h
          exact isT b hb2
        · cases (if_neg hb2).symm.trans h
theorem walkT {l : PySem.W.OpenLaw} {n k : Nat} {q : Program} {loose : List Str} {XP : (Str → Option Value) → Heap → Prop} {YP : World → Heap → Prop} {d : DefRec}
    (hn : l.most = some n) (hn2 : n ≤ sizeLine) (hdf : d.params.defaults = []) (hr : Room k callerA)
    (F : ∀ (w : World) (mg : Str → Option Value) (fa : Addr) (h : Heap), YP w h → h.Ns mainGlobals mg → mg d.name = some (.ref fa) →
      ∃ (T : Tab) (cs : List (Addr × Addr)) (Fm : Fn), T.K.In h ∧ (∀ p ∈ cs, h.get? p.2 = some (PySem.W.tabObj #[])) ∧ (∀ p ∈ cs, T.K.lookup p.2 = none) ∧ (∀ p ∈ cs, PySem.W.CodeHd h p.1 p.2) ∧ T.tb.map (·.1) = cs.map (·.2) ∧ (cs.map (·.2)).Nodup ∧
        (∀ ns : List Int, ns.length ≤ n → ∃ hp, Fm [.scr ns] (cs.map fun _ => Cell.dead) = .ok (.bl true) hp) ∧
        ∀ base : Heap, T.K.In base → base.Ns mainGlobals mg → (∀ p ∈ cs, LamX.TabB base mg p.1 p.2) → FnP l.prog w mg base T k fa Fm) :
    PySem.W.WalkO q loose XP YP l.row.toRowW d [] (fun f vs => PySem.call f vs) := by
  refine Att.attach_callB hn hdf fun w s₀ s₁ mg mb fa o pm cd doc a vs ns Gr Y ho hd hcd hmg hobj hints hlen hbits hg => ?_
  obtain ⟨T, cs, Fm, KX, hT, nT, hC, eT, dT, hsp, hF⟩ := F w mg fa _ Y Gr.T.g hmg
  obtain ⟨hp, e⟩ := hsp ns hlen
  exact lawG KX Gr.T.g Gr.T.b Gr.T.builtins Gr.T.nolimit hg hT nT hC eT dT Gr.T.bmain hobj hints (Nat.le_trans hlen hn2) hr hF e
end Ma
/-! Ma17: defs with *args; instances: made, their fields, their methods. -/
namespace Ma
open L2 PySem.Spec PySem PyProof.Rows
section
variable {P : Program} {w : World} {mg : Str → Option Value} {base : Heap} {T : Tab}
/-- def f(a, .., *v): what is left over in a tuple -/
def starF (n : Nat) (F : Fn) : Fn := fun args hp => if n ≤ args.length ∧ args.length ≤ big then F (args.take n ++ [.tup (args.drop n)]) hp else .stuck
end
end Ma
/-! Ma18: exceptions as values. -/
namespace Ma
open L2 PySem.Spec PySem PyProof.Rows
/-- an own kind of ValueError that has no `__init__` -/
structure ExK (K : PySem.W.Frag) (C : Addr) : Prop where
  ini : PySem.W.findIn K (.ref C) "__init__" = some (some (.builtin "ValueError.__init__"))
  ex : PySem.W.excInitIn K C [.type "ValueError", .type "Exception", .type "BaseException", .type "object"] "ValueError.__new__" = true
  kp : PySem.W.keepIn K (.ref C) = true
end Ma
/-! Ma19: fields; isinstance. -/
namespace Ma
open L2 PySem.Spec PySem PyProof.Rows
section
variable {C : MC} {g g1 : Gh} {H H1 : Hp} {s : MS} {σ : L2.St} {ex ea eb ec : Expr} {es : List Expr} {a b c : ME} {ma : MA} {pos p : Pos} {x n f : Str} {A : Addr} {T : Tab}
theorem RFs.look {fs : List (Str × M)} {vs : List (Str × V)} {y : M} (r : RFs T g H fs vs) (h : fs.lookup f = some y) : ∃ v, vs.lookup f = some v ∧ RV T g H y v := by
  induction r with
  | nil => cases h
  | @cons k m v fs vs q t ih =>
    rw [List.lookup_cons] at h ⊢
    cases hk : f == k with
    | true =>
      rw [hk] at h
      cases h
      exact ⟨v, rfl, q⟩
    | false =>
      rw [hk] at h
      exact ih h
theorem RVs.zip : ∀ {ns : List Str} {ms : List M} {vs : List V}, RVs T g H ms vs → RFs T g H (ns.zip ms) (ns.zip vs)
  | [], _, _, _ => .nil
  | _ :: _, _, _, .nil => .nil
  | _ :: ns, _, _, .cons r t => .cons r (RVs.zip (ns := ns) t)
/-- fields read -/
def fldM (is xs : List Str) (f : Str) (hp : List Cell) : M → Option M
  | .exn c ns ms => if xs.contains c then (ns.zip ms).lookup f else none
  | .box n => match hp[n]? with
    | some (.ins c fms) => if is.contains c then fms.lookup f else none
    | _ => none
  | _ => none
def oFld (is xs : List Str) (f : Str) (m : M) (s : MS) : Res M := match fldM is xs f s.hp m with
  | some y => .ok y s
  | none => .stuck
def mFld (is xs : List Str) (f : Str) (a : ME) : ME := fun s => (a s).bind (oFld is xs f)
theorem fld_exn {K : PySem.W.Frag} {P : Program} {w : World} {hp : Heap} {a C : Addr} {d : Addr} {fs : List (Str × V)} {v : V} (kin : K.In hp) (hok : HOk P w H hp)
    (h1 : H a = some (XO (.ref C) (some d) a)) (h2 : H d = some (.xd fs)) (X : XfC K C) (hn : PySem.W.findIn K (.ref C) f = some none) (hl : fs.lookup f = some v) {M1 : Around} {E : Value → Shared → Prop} {Q : Value → Shared → Prop} {sh : Shared} (hsh : sh.heap = hp)
    (q : ∀ u, RelV v u → Q u { sh with toks := sh.toks + 1 }) : wpAny (model P w) M1 (getAttr (.ref a) f true) Q E sh := by
  have z := hok _ _ h1
  simp only [ObjOk, XO] at z
  obtain ⟨⟨oe, ws, e1, ⟨e2, e3⟩, e4⟩, -, -⟩ := z
  have z2 := hok _ _ h2
  simp only [ObjOk] at z2
  obtain ⟨mA, n1, rl⟩ := z2
  obtain ⟨od, e5, lk⟩ := lookIn_ns n1
  have rf := rl f
  rw [hl] at rf
  cases hm : mA f with
  | none => rw [hm] at rf; exact rf.elim
  | some u =>
    rw [hm] at rf
    subst hsh
    refine HandSPX.exc_get (C := C) (ox := oe) (od := some od) (gt := none) kin ⟨e1, e2, ?_, ?_⟩ X.ga X.gg X.exC (PySem.W.findObj_own X.hdC hn rfl ((lk f).trans (congrArg some hm))) (handed_of rf) (q u rf)
    · unfold PySem.W.notCls; rw [e4]
    · rw [e3]; exact e5
theorem em_fld {is xs : List Str} (hi : ∀ c ∈ is, ∀ A, C.T.ad c = some A → Cls C.T.K A ∧ NoAttr C.T.K A f) (hx : ∀ c ∈ xs, ∀ A, C.T.ad c = some A → XfC C.T.K A ∧ PySem.W.findIn C.T.K (.ref A) f = some none)
    (h : PMe C ex a) (hb : attributeBase ex f C.X.env (eval ex C.X.env) = eval ex C.X.env := by rfl) : PMe C (.Attribute ex f pos) (mFld is xs f a) := by
  refine ⟨fun pins sh σ H Q I q => attr_of hb (thn (h.run pins sh σ H _ I (rdE_bind q)) fun u s1 hh => ?_)⟩
  obtain ⟨x, H1, I1, rv, m, s2, g1, r1, rm, q1⟩ := hh
  unfold oFld at q1
  cases hf : fldM is xs f s2.hp m with
  | none => rw [hf] at q1; exact q1.elim
  | some y =>
    rw [hf] at q1
    have kin : C.T.K.In s1.heap := C.hK ▸ I1.kIn
    cases rm with
    | @exn a A c ns ms vs ad xa rs =>
      obtain rfl : u = .ref a := rv
      simp only [fldM] at hf
      split at hf
      case isFalse => cases hf
      case isTrue hc =>
        obtain ⟨X, hn⟩ := hx c (List.contains_iff_mem.mp hc) A ad
        obtain ⟨hl, -, d, hd, z⟩ := xa
        cases d with
        | none =>
          subst z
          cases hf
        | some dx =>
          obtain ⟨v, lv, rv2⟩ := (rs.zip (ns := ns)).look hf
          exact fld_exn kin I1.hok hd z.2 X hn lv rfl fun u ru => ⟨v, H1, I1.kept (h' := s1.heap) (t' := s1.toks + 1) (fun b o e => e), ru, q1.ret r1 rv2⟩
    | @box n a e =>
      obtain rfl : u = .ref a := rv
      simp only [fldM] at hf
      cases hc : s2.hp[n]? with
      | none => rw [hc] at hf; cases hf
      | some cl =>
        rw [hc] at hf
        cases cl with
        | lst ms => cases hf
        | dK ms => cases hf
        | dF ms => cases hf
        | dead => cases hf
        | ins c fms =>
          dsimp only at hf
          split at hf
          case isFalse => cases hf
          case isTrue hcc =>
            obtain ⟨A, dx, fvs, ad, ha, rf⟩ := r1.h.cell n _ a hc e
            obtain ⟨k1, k2⟩ := hi c (List.contains_iff_mem.mp hcc) A ad
            obtain ⟨v, lv, rv2⟩ := rf.look hf
            exact getattr_ok I1 ha (C.hK ▸ k1) (C.hK ▸ k2) lv fun u s' I2 ru => ⟨v, H1, I2, ru, q1.ret r1 rv2⟩
    | _ => cases hf
end
end Ma
/-! Ma20: isinstance. -/
namespace Ma
open L2 PySem.Spec PySem PyProof.Rows
/-- a class: an own one or a built-in one -/
inductive Tg
  | own (c : Str)
  | bi (n : String)
deriving DecidableEq
def Tg.At (T : Tab) : Tg → Value → Prop
  | .own c, v => ∃ A, T.ad c = some A ∧ v = .ref A
  | .bi n, v => v = .type n
def tgOf (is xs : List Str) (hp : List Cell) : M → Option Tg
  | .non => some (.bi "NoneType")
  | .bl _ => some (.bi "bool")
  | .int _ => some (.bi "int")
  | .str _ => some (.bi "str")
  | .byt _ => some (.bi "bytes")
  | .tup _ => some (.bi "tuple")
  | .lst _ => some (.bi "list")
  | .dct _ _ => some (.bi "dict")
  | .exn c _ _ => if xs.contains c then some (.own c) else none
  | .box n => match hp[n]? with
    | some (.lst _) => some (.bi "list")
    | some (.dK _) => some (.bi "dict")
    | some (.ins c _) => if is.contains c then some (.own c) else none
    | _ => none
  | _ => none
def clOf : M → Option Tg
  | .cls c => some (.own c)
  | .ty n => some (.bi n)
  | _ => none
def cIsi (is xs : List Str) (isi : Tg → Tg → Option Bool) (ms : List M) (s : MS) : Res M := match ms with
  | [x, c] => match tgOf is xs s.hp x, clOf c with
    | some t, some u => match isi t u with
      | some b => .ok (.bl b) s
      | none => .stuck
    | _, _ => .stuck
  | _ => .stuck
/-- what isinstance asks of an instance's class -/
structure InsK (K : PySem.W.Frag) (A : Addr) : Prop where
  c : Cls K A
  ha : PySem.W.findIn K (.ref A) "__class__" = some (some (.builtin "object.__class__"))
  hn : PySem.W.specialIn K (.builtin "object.__class__") "__get__" = some (some (.builtin "getset_descriptor.__get__"))
  ht : PySem.W.takesIn K (.builtin "object.__class__") = some true
  hm : PySem.W.mroIn K A (.type "object") = some true
def rIsX (K : PySem.W.Frag) : RC := fun xs H Q => ∃ (a A : Addr) (d : Option Addr) (c : V) (cv : Value) (b : Bool), xs = [.ref a, c] ∧ H a = some (XO (.ref A) d a) ∧ (match d with | none => True | some dx => ∃ fs, H dx = some (.xd fs)) ∧ L2.ExcC K A ∧ ClsV c cv ∧ PySem.W.kitOne K (.ref A) cv = some b ∧ Q (.bl b) H
theorem call_isX {X : Cx} : CallR X (.builtin "isinstance") (rIsX X.K) := by
  intro pins s σ H xs us Q I rv ⟨a, A, d, c, cv, b, hx, ha, hd, E, hc, hk, q⟩
  subst hx
  cases rv with
  | cons r1 r2 =>
    cases r2 with
    | cons r2 r3 =>
      cases r3
      rename_i u w
      obtain rfl : u = .ref a := r1
      obtain rfl := hc.eq r2
      have z := I.hok _ _ ha
      simp only [ObjOk, XO] at z
      obtain ⟨⟨oe, ws, e1, ⟨e2, e3⟩, e4⟩, -, -⟩ := z
      have hno : PySem.W.notCls oe = true := by unfold PySem.W.notCls; rw [e4]
      have hcl : (PySem.W.clsIn X.K A).isSome = true := by
        have h := E.hd
        unfold PySem.W.hasDictIn at h
        cases hc : PySem.W.clsIn X.K A with
        | none => rw [hc] at h; simp at h
        | some _ => rfl
      have fin : ∀ tk : Nat, EP X pins σ Q (.bool b) { heap := s.heap, gens := s.gens, drawn := s.drawn, toks := tk, os := s.os } := fun tk => ⟨.bl b, H, I.kept (h' := s.heap) (t' := tk) (fun _ _ e => e), rfl, q⟩
      have kit : ∀ od : Option Obj, PySem.W.InstAt s.heap a oe A od → wpAny (model X.prog X.w) X.A (call (.builtin "isinstance") [.ref a, w]) (EP X pins σ Q) X.xe s := fun od i =>
        PySem.W.kia_one (PySem.W.kitx_exc (ox := oe) (od := od) hcl E.hg E.hk E.hs E.ha E.hn E.ht E.hm) I.kIn i hk (by simp) fin
      cases d with
      | none => exact kit none ⟨e1, e2, hno, by rw [e3]; trivial⟩
      | some dx =>
        obtain ⟨fs, hf⟩ := hd
        have z2 := I.hok _ _ hf
        simp only [ObjOk] at z2
        obtain ⟨mA, n1, -⟩ := z2
        obtain ⟨od, e5, -⟩ := lookIn_ns n1
        exact kit (some od) ⟨e1, e2, hno, by rw [e3]; exact e5⟩
section
variable {C : MC} {g g1 : Gh} {H H1 : Hp} {s : MS} {σ : L2.St} {is xs : List Str} {isi : Tg → Tg → Option Bool}
theorem clOf_at {c : M} {v : V} {u : Tg} (h : clOf c = some u) (r : RV C.T g H c v) : ∃ cv, ClsV v cv ∧ u.At C.T cv := by
  cases r with
  | cls e => cases h; exact ⟨_, .own _, _, e, rfl⟩
  | ty n => cases h; exact ⟨_, .ty n, rfl⟩
  | _ => cases h
theorem ok_isi (hi : ∀ c ∈ is, ∀ A, C.T.ad c = some A → InsK C.X.K A) (hx : ∀ c ∈ xs, ∀ A, C.T.ad c = some A → L2.ExcC C.X.K A)
    (hk : ∀ t u b, isi t u = some b → ∀ tv uv, t.At C.T tv → u.At C.T uv → PySem.W.kitOne C.X.K tv uv = some b) :
    CallOk C (fun ys H Q => rIsi C.X.K ys H Q ∨ rIsX C.X.K ys H Q) (cIsi is xs isi) := fun σ H g s ms ys Q r rs h => by
  unfold cIsi at h
  split at h
  case h_2 => exact h.elim
  case h_1 x c =>
    split at h
    case h_2 => exact h.elim
    case h_1 t u ht hu =>
      split at h
      case h_2 => exact h.elim
      case h_1 b hb =>
        cases rs with
        | cons r1 r2 =>
          cases r2 with
          | cons r2 r3 =>
            cases r3
            obtain ⟨cv, hc, hu2⟩ := clOf_at hu r2
            have kk := fun tv h1 => hk t u b hb tv cv h1 hu2
            have done := h.same r (.bl b)
            have base : ∀ {n : String} {v : V}, t = .bi n → TyX C.X.K H v (.type n) → ∃ (x c : V) (t u : Value) (b : Bool), [v, _] = [x, c] ∧ ClsV c u ∧ TyX C.X.K H x t ∧ PySem.W.kitOne C.X.K t u = some b ∧ Q (.bl b) H := fun {n v} e ty => ⟨v, _, .type n, cv, b, rfl, hc, ty, kk _ (by subst e; rfl), done⟩
            cases r1 with
            | non => cases ht; exact .inl (base rfl (.base .non))
            | bl k => cases ht; exact .inl (base rfl (.base (.bl _)))
            | int k => cases ht; exact .inl (base rfl (.base (.int _)))
            | str k => cases ht; exact .inl (base rfl (.base (.str _)))
            | byt k => cases ht; exact .inl (base rfl (.byt _))
            | tup e q => cases ht; exact .inl (base rfl (.base (.tup e)))
            | lst f e q => cases ht; exact .inl (base rfl (.base (.lst e)))
            | dct f l e q => cases ht; exact .inl (base rfl (.fDict e))
            | scr f e => cases ht
            | scrK e => cases ht
            | @exn a A c ns ms vs ad xa rr =>
              simp only [tgOf] at ht
              split at ht
              case isFalse => cases ht
              case isTrue hcc =>
                cases ht
                obtain ⟨hl, hf, d, hd, z⟩ := xa
                refine .inr ⟨a, A, d, _, cv, b, rfl, hd, ?_, hx c (List.contains_iff_mem.mp hcc) A ad, hc, kk _ ⟨A, ad, rfl⟩, done⟩
                cases d with
                | none => trivial
                | some dx => exact ⟨_, z.2⟩
            | cls e => cases ht
            | ty n => cases ht
            | raw a => cases ht
            | set f e => cases ht
            | @box n a e =>
              simp only [tgOf] at ht
              cases hcl : s.hp[n]? with
              | none => rw [hcl] at ht; cases ht
              | some cl =>
                rw [hcl] at ht
                cases cl with
                | lst ms =>
                  cases ht
                  obtain ⟨vs, ha, rf⟩ := r.h.cell n _ a hcl e
                  exact .inl (base rfl (.base (.lst ha)))
                | dK ms =>
                  cases ht
                  obtain ⟨vs, ha, rf⟩ := r.h.cell n _ a hcl e
                  exact .inl (base rfl (.base (.dK ha)))
                | dead => cases ht
                | dF ms => cases ht
                | ins c fms =>
                  dsimp only at ht
                  split at ht
                  case isFalse => cases ht
                  case isTrue hcc =>
                    cases ht
                    obtain ⟨A, dx, fvs, ad, ha, rf⟩ := r.h.cell n _ a hcl e
                    have k := hi c (List.contains_iff_mem.mp hcc) A ad
                    exact .inl ⟨_, _, _, cv, b, rfl, hc, .base (.ins ha k.c k.ha k.hn k.ht k.hm), kk _ ⟨A, ad, rfl⟩, done⟩
end
end Ma
/-! Ma21: count, index, all, any of lists. -/
namespace Ma
open L2 PySem.Spec PySem PyProof.Rows
section
variable {C : MC} {g g1 : Gh} {H H1 : Hp} {s : MS} {σ : L2.St} {ex ea eb ec : Expr} {es : List Expr} {a b c : ME} {ma : MA} {pos p apos cpos : Pos} {x n f : Str} {A : Addr} {T : Tab}
/-- all and any of a list of bools -/
def blsOf : List M → Option (List Bool)
  | [] => some []
  | .bl b :: ms => (blsOf ms).map (b :: ·)
  | _ => none
theorem blsOf_at : ∀ {ms : List M} {vs : List V} {bs : List Bool}, RVs T g H ms vs → blsOf ms = some bs → vs = bs.map V.bl
  | _, _, _, .nil, h => by cases h; rfl
  | _, _, bs, @RVs.cons _ _ _ m v ms vs r rs, h => by
    cases r with
    | bl b =>
      simp only [blsOf] at h
      cases hb : blsOf ms with
      | none => rw [hb] at h; cases h
      | some cs =>
        rw [hb] at h
        cases h
        rw [blsOf_at rs hb]; rfl
    | _ => cases h
def cAll (any : Bool) (ms : List M) (s : MS) : Res M := match ms with
  | [x] => match (seqL s.hp x).bind blsOf with
    | some bs => .ok (.bl (if any then bs.any id else bs.all id)) s
    | none => .stuck
  | _ => .stuck
theorem cAll_at {any : Bool} {ms : List M} {xs : List V} {Q : VK} (r : C.rel g s σ H) (rs : RVs C.T g H ms xs) (h : Go C C.V1 σ (cAll any ms s) g H Q) : ∃ (a : Addr) (bs : List Bool), xs = [V.ref a] ∧ SqL C.X.K H a (bs.map V.bl) ∧ Q (.bl (if any then bs.any id else bs.all id)) H := by
  unfold cAll at h
  split at h
  case h_2 => exact h.elim
  case h_1 x =>
    split at h
    case h_2 => exact h.elim
    case h_1 bs hb =>
      cases hl : seqL s.hp x with
      | none => rw [hl] at hb; cases hb
      | some ys =>
        rw [hl] at hb
        cases rs with
        | cons r1 r2 =>
          cases r2
          obtain ⟨q, vs, rfl, hq, rr⟩ := seqL_at r hl r1
          exact ⟨q, bs, rfl, blsOf_at rr hb ▸ hq, h.same r (.bl _)⟩
theorem ok_all : CallOk C (rAll C.X.K) (cAll false) := fun σ H g s ms xs Q r rs h => cAll_at r rs h
end
end Ma
/-! Ma22: repr of data. -/
namespace Ma
open L2 PySem.Spec PySem PyProof.Rows
def rReprD (K : PySem.W.Frag) : RC := fun xs H Q => ∃ (a : Addr) (d : PyData), xs = [.ref a] ∧ Dp K H (.ref a) d ∧ d.showable = true ∧ d.hasDict = false ∧ d.depth ≤ 64 ∧ d.shown.length ≤ sizeLine ∧ Q (.str d.shown) H
theorem call_reprD {X : Cx} (hg : X.A.guards = some []) (hu : X.A.units + 65 < cLine) : CallR X (.builtin "repr") (rReprD X.K) := by
  intro pins s σ H xs us Q I rv ⟨a, d, hx, d1, h1, h2, h3, h4, q⟩
  subst hx
  cases rv with
  | cons r1 r2 =>
    cases r2
    rename_i u
    obtain rfl : u = .ref a := r1
    obtain ⟨as, k1⟩ := Dp.reads I _ _ _ d1 rfl
    refine repr_of_reads' k1 h1 (fun h => by rw [h2] at h; cases h) hg (by omega) (fun _ _ e => e) (fun h' u tk keep => ⟨.str _, H, I.kept (h' := h') (t' := tk) keep, ⟨_, rfl⟩, q⟩) h4
section
variable {C : MC} {g g1 : Gh} {H H1 : Hp} {s : MS} {σ : L2.St}
def isSeqD : PyData → Bool
  | .list _ => true
  | .tuple _ => true
  | _ => false
def cRepr (ms : List M) (s : MS) : Res M := match ms with
  | [.int i] => if i.natAbs.log2 < 1920 then .ok (.str (toString i)) s else .stuck
  | [x] => match datT s.hp x with
    | some d => if (isSeqD d && d.showable && !d.hasDict && decide (d.depth ≤ 64) && decide (d.shown.length ≤ sizeLine)) = true then .ok (.str d.shown) s else .stuck
    | none => .stuck
  | _ => .stuck
theorem Dp.seq {K : PySem.W.Frag} {x : V} {d : PyData} (h : Dp K H x d) (hd : isSeqD d = true) : ∃ a, x = .ref a := by
  cases h <;> first | exact ⟨_, rfl⟩ | cases hd
theorem ok_repr : CallOk C (fun xs H Q => (∃ i, xs = [.int i] ∧ i.natAbs.log2 < 1920 ∧ Q (.str (toString i)) H) ∨ rReprD C.X.K xs H Q) cRepr := fun σ H g s ms xs Q r rs h => by
  unfold cRepr at h
  split at h
  case h_1 i =>
    by_cases hb : i.natAbs.log2 < 1920
    · rw [if_pos hb] at h
      cases rs with
      | cons r1 r2 => cases r2; cases r1; exact .inl ⟨i, rfl, hb, h.same r (.str _)⟩
    · rw [if_neg hb] at h; exact h.elim
  case h_3 => exact h.elim
  case h_2 x _ =>
    split at h
    case h_2 => exact h.elim
    case h_1 d hd =>
      by_cases hb : (isSeqD d && d.showable && !d.hasDict && decide (d.depth ≤ 64) && decide (d.shown.length ≤ sizeLine)) = true
      · rw [if_pos hb] at h
        simp only [Bool.and_eq_true, decide_eq_true_eq, Bool.not_eq_true'] at hb
        obtain ⟨⟨⟨⟨h0, h1⟩, h2⟩, h3⟩, h4⟩ := hb
        cases rs with
        | cons r1 r2 =>
          cases r2
          have d1 := datT_dp r r1 hd
          obtain ⟨a, rfl⟩ := Dp.seq d1 h0
          exact .inr ⟨a, d, rfl, d1, h1, h2, h3, h4, h.same r (.str _)⟩
      · rw [if_neg hb] at h; exact h.elim
end
end Ma
/-! Ma23: names of the text: numbers, classes; built-in types. -/
namespace Ma
open L2 PySem.Spec PySem PyProof.Rows
section
variable {C : MC} {g g1 : Gh} {H H1 : Hp} {s : MS} {σ : L2.St} {pos : Pos} {x c : Str} {A : Addr}
theorem em_gi {i : Int} (h : ∃ t, C.X.mg x = some (.int i t)) (hg : Gl C.X x := by rfl) (hdb : (x == ("__debug__" : Str)) = false := by decide) : PMe C (.Name x pos) (mc (.int i)) := by
  obtain ⟨t, h⟩ := h
  exact wkE (pe_glob (v := .int i) hg h ⟨t, rfl⟩ hdb) fun σ H Q ⟨g, s, r, q⟩ => q.ret r (.int _)
theorem em_cls (ad : C.T.ad c = some A) (h : C.X.mg x = some (.ref A)) (hg : Gl C.X x := by rfl) (hdb : (x == ("__debug__" : Str)) = false := by decide) : PMe C (.Name x pos) (mc (.cls c)) :=
  wkE (pe_glob (v := .ref A) hg h rfl hdb) fun σ H Q ⟨g, s, r, q⟩ => q.ret r (.cls ad)
theorem em_ty {n : String} (h : C.X.mg x = none) (hv : bootBuiltins x = some (.type n) := by first | rfl | decide +kernel) (hg : Gl C.X x := by rfl) (hdb : (x == ("__debug__" : Str)) = false := by decide) (hn : x ≠ "__name__" := by decide) : PMe C (.Name x pos) (mc (.ty n)) :=
  wkE (pe_bltn (v := .ty n) hg h hv rfl hn hdb) fun σ H Q ⟨g, s, r, q⟩ => q.ret r (.ty n)
end
/-- what the text's name x holds: a class -/
structure KnC (mg : Str → Option Value) (T : Tab) (x : Str) : Prop where
  ex : ∃ A, T.ad x = some A ∧ mg x = some (.ref A)
theorem em_kc {C : MC} {pos : Pos} {x : Str} (h : KnC C.X.mg C.T x) (hg : Gl C.X x := by rfl) (hdb : (x == ("__debug__" : Str)) = false := by decide) : PMe C (.Name x pos) (mc (.cls x)) := by
  obtain ⟨A, h1, h2⟩ := h.ex
  exact em_cls h1 h2 hg hdb
/-- an own kind of ValueError that has no `__init__`, by its name -/
structure KnE (mg : Str → Option Value) (T : Tab) (x : Str) : Prop where
  ex : ∃ A, T.ad x = some A ∧ mg x = some (.ref A) ∧ ExK T.K A
/-- what isinstance and fields ask of the classes -/
structure Cx0 (T : Tab) (is xs : List Str) (isi : Tg → Tg → Option Bool) : Prop where
  i : ∀ c ∈ is, ∀ A, T.ad c = some A → InsK T.K A
  x : ∀ c ∈ xs, ∀ A, T.ad c = some A → L2.ExcC T.K A
  k : ∀ t u b, isi t u = some b → ∀ tv uv, t.At T tv → u.At T uv → PySem.W.kitOne T.K tv uv = some b
theorem ok_isK {C : MC} {is xs : List Str} {isi : Tg → Tg → Option Bool} (h : Cx0 C.T is xs isi) : CallOk C (fun ys H Q => rIsi C.X.K ys H Q ∨ rIsX C.X.K ys H Q) (cIsi is xs isi) :=
  ok_isi (fun c hc A ad => C.hK ▸ h.i c hc A ad) (fun c hc A ad => C.hK ▸ h.x c hc A ad) (fun t u b hb tv uv h1 h2 => C.hK ▸ h.k t u b hb tv uv h1 h2)
theorem call_isA {X : Cx} : CallR X (.builtin "isinstance") (fun ys H Q => rIsi X.K ys H Q ∨ rIsX X.K ys H Q) := CallR.alt call_isi call_isX
theorem call_reprA {X : Cx} (hg : X.A.guards = some []) (hu : X.A.units + 65 < cLine) : CallR X (.builtin "repr") (fun xs H Q => (∃ i, xs = [.int i] ∧ i.natAbs.log2 < 1920 ∧ Q (.str (toString i)) H) ∨ rReprD X.K xs H Q) := CallR.alt SkE.call_repr_int (call_reprD hg hu)
end Ma
/-! Ma24: fields by their names. -/
namespace Ma
open L2 PySem.Spec PySem PyProof.Rows
/-- what a field's name asks of the classes that have it -/
structure FldK (T : Tab) (is xs : List Str) (f : Str) : Prop where
  i : ∀ c ∈ is, ∀ A, T.ad c = some A → Cls T.K A ∧ NoAttr T.K A f
  x : ∀ c ∈ xs, ∀ A, T.ad c = some A → XfC T.K A ∧ PySem.W.findIn T.K (.ref A) f = some none
theorem em_kf {C : MC} {is xs : List Str} {f : Str} {ex : Expr} {a : ME} {pos : Pos} (k : FldK C.T is xs f) (h : PMe C ex a) (hb : attributeBase ex f C.X.env (eval ex C.X.env) = eval ex C.X.env := by rfl) : PMe C (.Attribute ex f pos) (mFld is xs f a) := em_fld k.i k.x h hb
theorem room65 {k : Nat} {A : Around} (r : RoomG k A) : A.units + 65 < cLine := by
  have := r.toRoom.un
  omega
end Ma
/-! Ma25: exceptions with an `__init__` of their own. -/
namespace Ma
open L2 PySem.W PySem.Spec PySem PyProof.Rows
end Ma
/-! Ma26: super().__init__(text). -/
namespace Ma
open L2 PySem.W PySem.Spec PySem PyProof.Rows
abbrev VE : List Value := [.type "ValueError", .type "Exception", .type "BaseException", .type "object"]
end Ma
/-! Ma27: an exception's fields, one or two. -/
namespace Ma
open L2 PySem.W PySem.Spec PySem PyProof.Rows
end Ma
/-! Ma28: self.f = x in an exception's `__init__`. -/
namespace Ma
open L2 PySem.W PySem.Spec PySem PyProof.Rows
end Ma
/-! Ma29: C(x) and C(x, y) of exceptions with an `__init__`. -/
namespace Ma
open L2 PySem.W PySem.Spec PySem PyProof.Rows
end Ma
/-! Ma30: one field, two fields. -/
namespace Ma
open L2 PySem.W PySem.Spec PySem PyProof.Rows
end Ma
/-! Ma31: the exception stands in the layer's heap. -/
namespace Ma
open L2 PySem.W PySem.Spec PySem PyProof.Rows
end Ma
/-! Ma32: the text of such an exception: f"..{x}..". -/
namespace Ma
open L2 PySem.W PySem.Spec PySem PyProof.Rows
end Ma
/-! Ma33: such an exception called, by its heap alone. -/
namespace Ma
open L2 PySem.W PySem.Spec PySem PyProof.Rows
/-- a part: text, or a value by its place -/
abbrev Pt := Sum Str Nat
end Ma
/-! Ma34: C(x), C(x, y) of exceptions with an `__init__`, in the machine. -/
namespace Ma
open L2 PySem.W PySem.Spec PySem PyProof.Rows
end Ma
/-! Ma35: a name whose list nobody changes any more. -/
namespace Ma
open L2 PySem.W PySem.Spec PySem PyProof.Rows
end Ma
/-! Ma36: what a law's head tells: names, defs, classes, exceptions with an own `__init__`. -/
namespace Ma
open L2 PySem.W PySem.Spec PySem PyProof.Rows
abbrev FnI : Type := Option (Arguments × FuncBody × Scope × Addr × List Str × Addr)
/-- an own `__init__`: of which class, its parts -/
structure IniD where
  cls : Str
  params : Arguments
  body : List Stmt
  scope : Scope
def iniAd (K : Frag) (x : Str) : Addr := He.ma K (He.ga K x) "__init__"
def iniW (K : Frag) (x : Str) : FnI := match K.lookup (iniAd K x) with
  | some ⟨_, _, .func fd, _⟩ => some (fd.params, fd.body, fd.scope, fd.globals, fd.closure.map (·.1), fd.builtins)
  | _ => none
def IniD.val (d : IniD) : FnI := some (d.params, .stmts d.body, d.scope, mainGlobals, [("__class__" : Str)], builtinsNs)
abbrev AlM := Bool × List He.FnW × List FnI
def obsM (fa : List He.Fa) (fn : List He.DefD) (ni : List IniD) (ex : Frag → Bool) (K : Frag) : AlM :=
  ((fa.all fun f => f.ok K) && ((fn.all fun d => d.ok K) && ex K), fn.map fun d => He.fnW K d.at_, ni.map fun d => iniW K d.cls)
def valM (fn : List He.DefD) (ni : List IniD) : AlM := (true, fn.map He.DefD.val, ni.map IniD.val)
def SaysM (fa : List He.Fa) (fn : List He.DefD) (ni : List IniD) (ex : Frag → Bool) (K : Frag) : Prop := obsM fa fn ni ex K = valM fn ni
section
variable {fa : List He.Fa} {fn : List He.DefD} {ni : List IniD} {ex : Frag → Bool} {K : Frag}
theorem SaysM.d (c : SaysM fa fn ni ex K) : He.SaysD fa fn K := by
  have h1 : ((fa.all fun f => f.ok K) && ((fn.all fun d => d.ok K) && ex K)) = true := congrArg (fun z : AlM => z.1) c
  have h2 : (fn.map fun d => He.fnW K d.at_) = fn.map He.DefD.val := congrArg (fun z : AlM => z.2.1) c
  obtain ⟨a, b⟩ := Bool.and_eq_true_iff.mp h1
  obtain ⟨b, _⟩ := Bool.and_eq_true_iff.mp b
  show (((fa.all fun f => f.ok K) && fn.all fun d => d.ok K), fn.map fun d => He.fnW K d.at_) = (true, fn.map He.DefD.val)
  rw [h2, a, b]; rfl
theorem SaysM.more (c : SaysM fa fn ni ex K) : ex K = true := by
  have h1 : ((fa.all fun f => f.ok K) && ((fn.all fun d => d.ok K) && ex K)) = true := congrArg (fun z : AlM => z.1) c
  exact (Bool.and_eq_true_iff.mp (Bool.and_eq_true_iff.mp h1).2).2
theorem SaysM.ini (c : SaysM fa fn ni ex K) {d : IniD} (h : d ∈ ni) : iniW K d.cls = d.val := by
  have h2 : (ni.map fun d => iniW K d.cls) = ni.map IniD.val := congrArg (fun z : AlM => z.2.2) c
  obtain ⟨i, hi, e⟩ := List.mem_iff_getElem.mp h
  have h3 : (ni.map fun d => iniW K d.cls)[i]? = (ni.map IniD.val)[i]? := by rw [h2]
  rw [List.getElem?_map, List.getElem?_map, List.getElem?_eq_getElem hi, e] at h3
  exact Option.some.inj h3
end
/-! ### facts of classes as Bools -/
def eqb (a b : Option (Option Value)) : Bool := decide (a = b)
theorem eqb_ok {a b : Option (Option Value)} (h : eqb a b = true) : a = b := of_decide_eq_true h
def exkB (K : Frag) (C : Addr) : Bool := eqb (findIn K (.ref C) "__init__") (some (some (.builtin "ValueError.__init__"))) && (excInitIn K C VE "ValueError.__new__" && keepIn K (.ref C))
theorem exkB_ok {K : Frag} {C : Addr} (h : exkB K C = true) : ExK K C := by
  obtain ⟨h1, h⟩ := Bool.and_eq_true_iff.mp h
  obtain ⟨h2, h3⟩ := Bool.and_eq_true_iff.mp h
  exact ⟨eqb_ok h1, h2, h3⟩
def excB (K : Frag) (C : Addr) : Bool := xfB K C && (eqb (findIn K (.ref C) "__class__") (some (some (.builtin "object.__class__"))) && (eqb (specialIn K (.builtin "object.__class__") "__get__") (some (some (.builtin "getset_descriptor.__get__"))) && (decide (takesIn K (.builtin "object.__class__") = some true) && decide (mroIn K C (.type "object") = some true))))
theorem excB_ok {K : Frag} {C : Addr} (h : excB K C = true) : ExcC K C ∧ XfC K C := by
  obtain ⟨h1, h⟩ := Bool.and_eq_true_iff.mp h
  obtain ⟨h2, h⟩ := Bool.and_eq_true_iff.mp h
  obtain ⟨h3, h⟩ := Bool.and_eq_true_iff.mp h
  obtain ⟨h4, h5⟩ := Bool.and_eq_true_iff.mp h
  have x := xfB_ok h1
  exact ⟨⟨x.ga, x.gg, x.exC, x.hdC, eqb_ok h2, eqb_ok h3, of_decide_eq_true h4, of_decide_eq_true h5⟩, x⟩
/-! ### exceptions with an own `__init__` -/
/-! ### own names' addresses -/
def adOf (K : Frag) (cs : List Str) (c : Str) : Option Addr := if cs.contains c then some (He.ga K c) else none
theorem adOf_mem {K : Frag} {cs : List Str} {c : Str} (h : cs.contains c = true) : adOf K cs c = some (He.ga K c) := if_pos h
theorem adOf_at {K : Frag} {cs : List Str} {c : Str} {A : Addr} (h : adOf K cs c = some A) : A = He.ga K c := by
  unfold adOf at h
  split at h
  · exact (Option.some.inj h).symm
  · cases h
/-- the machine's own kinds of values -/
def tys : List String := ["NoneType", "bool", "int", "str", "bytes", "tuple", "list", "dict"]
/-- isinstance by the classes' chains -/
def isiM (mros : List (Str × List Tg)) (bi : List String) : Tg → Tg → Option Bool
  | .own c, .own d => (mros.lookup c).map fun l => l.contains (.own d)
  | .own c, .bi m => if bi.contains m = true then (mros.lookup c).map fun l => l.contains (.bi m) else none
  | .bi n, .own _ => if tys.contains n = true then some false else none
  | .bi n, .bi m => kitB n m
def kitS (K : Frag) (t u : Value) : Option Bool → Bool
  | some b => decide (kitOne K t u = some b)
  | none => true
theorem kitS_ok {K : Frag} {t u : Value} {r : Option Bool} {b : Bool} (h : kitS K t u r = true) (e : r = some b) : kitOne K t u = some b := by
  rw [e] at h
  exact of_decide_eq_true h
def isiB (K : Frag) (cs : List Str) (mros : List (Str × List Tg)) (bi : List String) : Bool :=
  cs.all fun d => (cs.all fun c => kitS K (.ref (He.ga K c)) (.ref (He.ga K d)) (isiM mros bi (.own c) (.own d))) && ((bi.all fun m => kitS K (.ref (He.ga K d)) (.type m) (isiM mros bi (.own d) (.bi m))) && tys.all fun n => kitS K (.type n) (.ref (He.ga K d)) (some false))
theorem isiB_ok {tb : List (Addr × Str)} {K : Frag} {cs : List Str} {mros : List (Str × List Tg)} {bi : List String} (h : isiB K cs mros bi = true) :
    ∀ t u b, isiM mros bi t u = some b → ∀ tv uv, t.At ⟨K, adOf K cs, tb⟩ tv → u.At ⟨K, adOf K cs, tb⟩ uv → kitOne K tv uv = some b := by
  have main : ∀ d, cs.contains d = true → (cs.all fun c => kitS K (.ref (He.ga K c)) (.ref (He.ga K d)) (isiM mros bi (.own c) (.own d))) = true ∧ (bi.all fun m => kitS K (.ref (He.ga K d)) (.type m) (isiM mros bi (.own d) (.bi m))) = true ∧ (tys.all fun n => kitS K (.type n) (.ref (He.ga K d)) (some false)) = true := fun d hd => by
    have h1 := List.all_eq_true.mp h d (List.contains_iff_mem.mp hd)
    obtain ⟨a, b⟩ := Bool.and_eq_true_iff.mp h1
    obtain ⟨b, c⟩ := Bool.and_eq_true_iff.mp b
    exact ⟨a, b, c⟩
  have mem : ∀ {c : Str} {A : Addr}, adOf K cs c = some A → cs.contains c = true := fun {c A} e => by
    unfold adOf at e
    split at e
    · assumption
    · cases e
  intro t u b e tv uv ht hu
  cases t with
  | own c =>
    obtain ⟨A, ha, rfl⟩ := ht
    have ha : adOf K cs c = some A := ha
    obtain ⟨m1, m2, m3⟩ := main c (mem ha)
    rw [adOf_at ha]
    cases u with
    | own d =>
      obtain ⟨D, hd, rfl⟩ := hu
      have hd : adOf K cs d = some D := hd
      obtain ⟨n1, _⟩ := main d (mem hd)
      rw [adOf_at hd]
      exact kitS_ok (List.all_eq_true.mp n1 c (List.contains_iff_mem.mp (mem ha))) e
    | bi m =>
      have hu : uv = .type m := hu
      subst hu
      have e2 := e
      unfold isiM at e2
      dsimp only at e2
      split at e2
      · rename_i hm
        exact kitS_ok (List.all_eq_true.mp m2 m (List.contains_iff_mem.mp hm)) e
      · cases e2
  | bi n =>
    have ht : tv = .type n := ht
    subst ht
    cases u with
    | own d =>
      obtain ⟨D, hd, rfl⟩ := hu
      have hd : adOf K cs d = some D := hd
      obtain ⟨_, _, n3⟩ := main d (mem hd)
      rw [adOf_at hd]
      unfold isiM at e
      dsimp only at e
      split at e
      · rename_i hn
        exact kitS_ok (List.all_eq_true.mp n3 n (List.contains_iff_mem.mp hn)) e
      · cases e
    | bi m =>
      have hu : uv = .type m := hu
      subst hu
      exact kit_ty e
end Ma
/-! Ma37: a class's method in the text; the parts of super().__init__(..). -/
namespace Ma
open L2 PySem.W PySem.Spec PySem PyProof.Rows
def clsMeth (s : Stmt) (j : Nat) : Stmt := match s with
  | .ClassDef _ _ _ b _ _ _ _ _ _ _ => b.getD j (.Pass ⟨0, 0, 0, 0⟩)
  | _ => .Pass ⟨0, 0, 0, 0⟩
end Ma
/-! Ma38: operators of own instances. -/
namespace Ma
open L2 PySem.W PySem.Spec PySem PyProof.Rows
theorem RoomG.in1 {k : Nat} {A : Around} (r : RoomG (k + 1) A) : RoomG k A.in1 := ⟨r.toRoom.in1, r.gs⟩
section
variable {C : MC} {g g1 : Gh} {H H1 : Hp} {s : MS} {σ : L2.St} {ea eb ex : Expr} {es : List Expr} {a b : ME} {ma : MA} {pos p : Pos} {x c name f : Str} {k : Nat} {F : Fn} {pins : List (Addr × Obj)} {sh : Shared}
/-- an instance in a box, on the heap -/
theorem ins_at {n : Nat} {fms : List (Str × M)} {v : V} (I : Inv C.X pins σ H sh) (r : C.rel g s σ H) (hc : s.hp[n]? = some (.ins c fms)) (rv : RV C.T g H (.box n) v) :
    ∃ a A dx fvs od ox, v = .ref a ∧ C.T.ad c = some A ∧ H a = some (.ins A dx fvs) ∧ RFs C.T g H fms fvs ∧ g.ro[n]? = some a ∧ InstAt sh.heap a ox A (some od) := by
  obtain ⟨p, rfl, hp, A, dx, fvs, ad, e, rf⟩ := r.cellAt hc rv
  obtain ⟨mA, J, _⟩ := ins_get I.hok e
  obtain ⟨od, J, _⟩ := J.look
  exact ⟨p, A, dx, fvs, _, _, rfl, ad, e, rf, hp, J⟩
/-- the class of a value -/
def isIns (c : Str) (x : M) (s : MS) : Bool := match x with
  | .box n => match s.hp[n]? with
    | some (.ins c' _) => c' == c
    | _ => false
  | _ => false
theorem isIns_of {c : Str} {x : M} {s : MS} (h : isIns c x s = true) : ∃ n fms, x = .box n ∧ s.hp[n]? = some (.ins c fms) := by
  unfold isIns at h
  split at h
  · split at h
    · rename_i c' fms e
      rw [beq_iff_eq.mp h] at e
      exact ⟨_, _, rfl, e⟩
    · cases h
  · cases h
/-- a result, looked at -/
def upP (post : M → Option M) (r : Res M) : Res M := match r with
  | .ok m s => match post m with
    | some m' => .ok m' s
    | none => .stuck
  | .err x s => .err x s
  | .stuck => .stuck
def pBl : M → Option M
  | .bl b => some (.bl b)
  | _ => none
def pNot : M → Option M
  | .bl b => some (.bl (!b))
  | _ => none
def pNat : M → Option M
  | .int i => if 0 ≤ i ∧ i < 9223372036854775808 then some (.int i) else none
  | _ => none
def oDun (c : Str) (F : Fn) (o : M → M → MS → Res M) : M → M → MS → Res M := fun x y s => if isIns c x s = true then upF s.env (F [x, y] s.hp) else o x y s
/-- with the operands the other way, the answer looked at -/
def oDunR (c : Str) (F : Fn) (post : M → Option M) (o : M → M → MS → Res M) : M → M → MS → Res M := fun x y s => if isIns c y s = true then upP post (upF s.env (F [y, x] s.hp)) else o x y s
end
end Ma
/-! Ma39: x[k] of lists, dicts, own instances. -/
namespace Ma
open L2 PySem.W PySem.Spec PySem PyProof.Rows
section
variable {κ β : Type} [DecidableEq κ]
def valG (kvs : List (κ × β)) (k : κ) : Option β := (kvs.find? fun kv => decide (kv.1 = k)).map (·.2)
def putG (kvs : List (κ × β)) (k : κ) (v : β) : List (κ × β) := if (kvs.any fun kv => decide (kv.1 = k)) = true then kvs.map (fun kv => if kv.1 = k then (kv.1, v) else kv) else kvs ++ [(k, v)]
end
section
variable {C : MC} {g g1 : Gh} {H H1 : Hp} {s : MS} {σ : L2.St} {ea eb ex : Expr} {es : List Expr} {a b : ME} {ma : MA} {pos p : Pos} {x c name f : Str} {k : Nat} {F : Fn} {pins : List (Addr × Obj)} {sh : Shared} {T : Tab}
theorem RFs.valG {κ : Type} [DecidableEq κ] {fs : List (κ × M)} {vs : List (κ × V)} (r : RFs T g H fs vs) (k : κ) : (∃ m v, Ma.valG fs k = some m ∧ valV vs k = some v ∧ RV T g H m v) ∨ (Ma.valG fs k = none ∧ valV vs k = none) := by
  induction r with
  | nil => exact .inr ⟨rfl, rfl⟩
  | @cons j m v fs vs q t ih =>
    by_cases e : j = k
    · exact .inl ⟨m, v, by simp [Ma.valG, List.find?_cons, e], by simp [valV, List.find?_cons, e], q⟩
    · have e1 : Ma.valG ((j, m) :: fs) k = Ma.valG fs k := by simp [Ma.valG, List.find?_cons, e]
      have e2 : valV ((j, v) :: vs) k = valV vs k := by simp [valV, List.find?_cons, e]
      rw [e1, e2]
      exact ih
theorem RFs.any {κ : Type} [DecidableEq κ] {fs : List (κ × M)} {vs : List (κ × V)} (r : RFs T g H fs vs) (k : κ) : (fs.any fun kv => decide (kv.1 = k)) = (vs.any fun kv => decide (kv.1 = k)) := by
  induction r with
  | nil => rfl
  | cons q t ih => rw [List.any_cons, List.any_cons, ih]
theorem RFs.repl {κ : Type} [DecidableEq κ] {fs : List (κ × M)} {vs : List (κ × V)} {m : M} {v : V} (r : RFs T g H fs vs) (k : κ) (rv : RV T g H m v) : RFs T g H (fs.map fun kv => if kv.1 = k then (kv.1, m) else kv) (vs.map fun kv => if kv.1 = k then (kv.1, v) else kv) := by
  induction r with
  | nil => exact .nil
  | @cons j m' v' fs vs q t ih =>
    rw [List.map_cons, List.map_cons]
    by_cases e : j = k
    · dsimp only
      rw [if_pos e, if_pos e]
      exact .cons rv ih
    · dsimp only
      rw [if_neg e, if_neg e]
      exact .cons q ih
theorem RFs.append {κ : Type} {fs fs' : List (κ × M)} {vs vs' : List (κ × V)} (r : RFs T g H fs vs) (r' : RFs T g H fs' vs') : RFs T g H (fs ++ fs') (vs ++ vs') := by
  induction r with
  | nil => exact r'
  | cons q t ih => exact .cons q ih
theorem RFs.put {κ : Type} [DecidableEq κ] {fs : List (κ × M)} {vs : List (κ × V)} {m : M} {v : V} (r : RFs T g H fs vs) (k : κ) (rv : RV T g H m v) : RFs T g H (putG fs k m) (putK vs k v) := by
  unfold putG putK
  rw [r.any k]
  split
  · exact r.repl k rv
  · exact r.append (.cons rv .nil)
/-- a key of a dict -/
def keyM : M → Option Key
  | .int i => some (.inl i)
  | .str z => some (.inr z)
  | _ => none
theorem keyM_at {m : M} {k : Key} {v : V} (h : keyM m = some k) (r : RV T g H m v) : v = kV k := by
  cases m <;> first | cases h | skip
  · cases r; rfl
  · cases r; rfl
/-- a dict in a box, to be changed -/
def dictL (hp : List Cell) (x : M) : Option (List (Key × M)) := match x with
  | .box n => match hp[n]? with
    | some (.dK kms) => some kms
    | _ => none
  | _ => none
theorem dictL_at {x : M} {kms : List (Key × M)} {v : V} (r : C.rel g s σ H) (h : dictL s.hp x = some kms) (rv : RV C.T g H x v) : ∃ n a kvs, x = .box n ∧ s.hp[n]? = some (.dK kms) ∧ v = .ref a ∧ g.ro[n]? = some a ∧ H a = some (.dK kvs) ∧ RFs C.T g H kms kvs := by
  unfold dictL at h
  split at h
  · rename_i n
    split at h
    · rename_i kms' e
      cases h
      obtain ⟨a, rfl, hp, kvs, e2, rf⟩ := r.cellAt e rv
      exact ⟨n, a, kvs, rfl, e, rfl, hp, e2, rf⟩
    · cases h
  · cases h
/-- a dict in a box, to be read -/
def dictOf (hp : List Cell) (x : M) : Option (List (Key × M)) := match x with
  | .box n => match hp[n]? with
    | some (.dK kms) => some kms
    | some (.dF kms) => some kms
    | _ => none
  | _ => none
theorem dictOf_at {x : M} {kms : List (Key × M)} {v : V} (r : C.rel g s σ H) (h : dictOf s.hp x = some kms) (rv : RV C.T g H x v) : ∃ n a kvs, x = .box n ∧ v = .ref a ∧ g.ro[n]? = some a ∧ Rd H a (.dK kvs) ∧ RFs C.T g H kms kvs := by
  unfold dictOf at h
  split at h
  · rename_i n
    split at h
    · rename_i kms' e
      cases h
      obtain ⟨a, rfl, hp, kvs, e2, rf⟩ := r.cellAt e rv
      exact ⟨n, a, kvs, rfl, rfl, hp, .inl e2, rf⟩
    · rename_i kms' e
      cases h
      obtain ⟨a, rfl, hp, o, kvs, e2, rf⟩ := r.cellAt e rv
      exact ⟨n, a, kvs, rfl, rfl, hp, .inr ⟨_, e2⟩, rf⟩
    · cases h
  · cases h
/-- a subscription's tail, its ground -/
def IxG (C : MC) (o : M → M → MS → Res M) : Prop :=
  ∀ (value slice : Expr) (pins : List (Addr × Obj)) (sh : Shared) (σ : L2.St) (H : Hp) (g : Gh) (ms : MS) (m1 m2 : M) (x y : V) (v u : Value) (Q : VK), Inv C.X pins σ H sh → C.rel g ms σ H → RV C.T g H m1 x → RV C.T g H m2 y → RelV x v → RelV y u →
    subscripted slice false v u = operate [v, u] (getItem v u) → subscripted slice true v u = runValue (.builtin "lifetime.subscript" ⟨[v, u], []⟩) → Go C C.V1 σ (o m1 m2 ms) g H Q → wpAny (model C.X.prog C.X.w) C.X.A (subscriptTail value slice v u) (EP C.X pins σ Q) C.X.xe sh
theorem ixG_seq : IxG C oIx := fun value slice pins sh σ H g ms m1 m2 x y v u Q I r r1 r2 l1 l2 h1 _ q => ix_seq value slice pins sh σ H x y v u Q I l1 l2 (oIx_at q r r1 r2) h1
/-- d[k] -/
def oIxD (o : M → M → MS → Res M) (x y : M) (s : MS) : Res M := match dictOf s.hp x with
  | some kms => match keyM y with
    | some k => match valG kms k with
      | some m => .ok m s
      | none => .stuck
    | none => .stuck
  | none => o x y s
theorem subT {prog : Program} {w : World} {A : Around} {E : Value → Shared → Prop} {s : Shared} {value slice : Expr} {o i : Value} {T id : String} {Q : Value → Shared → Prop} (hT : s.TypeIs o T)
    (hl : typeLookup (.type T) "__getitem__" = pure (some (.builtin id))) (hs : subscripted slice false o i = operate [o, i] (getItem o i)) (h : wpAny (model prog w) A (getItem o i) Q E s) : wpAny (model prog w) A (subscriptTail value slice o i) Q E s := by
  unfold subscriptTail
  refine wpAny_bind ?_
  rw [getitemInPython_of_ne hT.not_modules]
  refine wpAny_bind (wpAny_specialOf hT hl ?_)
  have fin : wpAny (model prog w) A (subscripted slice false o i) (fun r s₃ => wpAny (model prog w) A (letTemporaryGo value o r >>= fun _ => pure r) Q E s₃) E s := by
    rw [hs]
    exact wpAny_operating (wpAny_mono h (fun r s₃ h₃ => wpAny_bind (wpAny_letTemporaryGo (wpAny_pure h₃))) fun _ _ x => x)
  first
    | exact wpAny_pure (wpAny_bind fin)
    | exact wpAny_bind (wpAny_pure (wpAny_bind fin))
    | exact wpAny_bind fin
theorem ixG_dict {o : M → M → MS → Res M} (hu : C.X.A.units + 1 < cLine) (h : IxG C o) : IxG C (oIxD o) := by
  intro value slice pins sh σ H g ms m1 m2 x y v u Q I r r1 r2 l1 l2 h1 h2 q
  unfold oIxD at q
  split at q
  · rename_i kms hd
    split at q
    · rename_i ky hk
      split at q
      · rename_i m hm
        obtain ⟨n, a, kvs, rfl, rfl, hro, e, rf⟩ := dictOf_at r hd r1
        cases (show v = Value.ref a from l1)
        have ey := keyM_at hk r2
        subst ey
        rcases rf.valG ky with ⟨m', vv, e1, e2, rv⟩ | ⟨e1, _⟩
        · rw [hm] at e1
          cases e1
          have gt : DGet H a (kV ky) (some vv) := .inl ⟨kvs, ky, e, rfl, e2.symm⟩
          exact subT (dict_typeIs I gt) PySem.F.slot_dict_getitem.lookup h1 (d_getItem hu I gt l2 fun w' s' I' rw' => ⟨vv, H, I', rw', q.ret r rv⟩)
        · rw [hm] at e1; cases e1
      · exact q.elim
    · exact q.elim
  · exact h value slice pins sh σ H g ms m1 m2 x y v u Q I r r1 r2 l1 l2 h1 h2 q
def PlainIx2 (b : Expr) : Prop := (∀ o i, subscripted b false o i = operate [o, i] (getItem o i)) ∧ ∀ o i, subscripted b true o i = runValue (.builtin "lifetime.subscript" ⟨[o, i], []⟩)
theorem em_ixG {o : M → M → MS → Res M} (ho : IxG C o) (ha : PMe C ea a) (hb : PMe C eb b) (hs : PlainIx2 eb) : PMe C (.Subscript ea eb pos) (m2 o a b) := by
  refine ⟨fun pins sh σ H Q I h => Subscript_ ?_⟩
  exact both ha hb I h fun v u s2 x y H2 g2 ms m1 m2 I2 r2 rv1 rv2 l1 l2 q => ho ea eb pins s2 σ H2 g2 ms m1 m2 x y v u Q I2 r2 rv1 rv2 l1 l2 (hs.1 _ _) (hs.2 _ _) q
end
end Ma
/-! Ma40: stores at a place, in, calls of built-in functions, of dicts and own instances. -/
namespace Ma
open L2 PySem.W PySem.Spec PySem PyProof.Rows
section
variable {C : MC} {g g1 : Gh} {H H1 : Hp} {s : MS} {σ : L2.St} {ea eb ex eo ei : Expr} {es : List Expr} {a b : ME} {ma : MA} {pos p : Pos} {x c name f : Str} {k : Nat} {F : Fn} {pins : List (Addr × Obj)} {sh : Shared} {T : Tab}
/-! ### x[k] = w -/
def GoU (C : MC) (σ : L2.St) (r : Res Unit) (g : Gh) (H : Hp) (Q : Hp → Prop) : Prop := match r with
  | .ok _ s1 => ∀ (g' : Gh) (H' : Hp), Mono g H g' H' → C.rel g' s1 σ H' → Q H'
  | .err x s1 => ∀ (g' : Gh) (H' : Hp) (cls : Value) (d : Option Addr), Mono g H g' H' → C.rel g' s1 σ H' → XR C.T g' H' x cls d → C.W cls d σ H'
  | .stuck => False
def SetG (C : MC) (f : FSet) : Prop :=
  ∀ (pins : List (Addr × Obj)) (sh : Shared) (σ : L2.St) (H : Hp) (g : Gh) (s : MS) (m k w : M) (x y z : V) (v i u : Value) (Q : Hp → Prop), Inv C.X pins σ H sh → C.rel g s σ H → RV C.T g H m x → RV C.T g H k y → RV C.T g H w z → RelV x v → RelV y i → RelV z u →
    GoU C σ (f m k w s) g H Q → wpAny (model C.X.prog C.X.w) C.X.A (setItem v i u) (fun _ s' => ∃ H', Inv C.X pins σ H' s' ∧ Q H') C.X.xe sh
theorem setG_of {t : TSet} {f : FSet} (hs : PSet C.X t) (hf : SetOk C t f) (hf2 : ∀ x k w s e s1, f x k w s ≠ .err e s1) : SetG C f := fun pins sh σ H g s m k w x y z v i u Q I r r1 r2 r3 l1 l2 l3 q => by
  refine hs pins sh σ H x y z v i u Q I l1 l2 l3 (hf σ H g s m k w x y z Q r r1 r2 r3 ?_)
  unfold GoU at q
  cases h : f m k w s with
  | stuck => rw [h] at q; exact q.elim
  | err e s1 => exact (hf2 _ _ _ _ _ _ h).elim
  | ok u s1 => rw [h] at q; exact q
theorem setG_list (hc : PSet C.X rSetL) : SetG C fSetL := setG_of hc ok_setL fSetL_ne
theorem gm_subG {f : FSet} (hf : SetG C f) (ho : PMe C eo a) (hi : PMe C ei b)
    (ha : ∀ v, assign (.Subscript eo ei pos) C.X.env v = (do
      let ov ← PySem.holding [v] (eval eo C.X.env)
      let iv ← PySem.holding [v, ov] (eval ei C.X.env)
      standAt pos
      PySem.holding [v, ov, iv] (setItem ov iv v)
      release [v, ov, iv] []) := by intro _; rfl) : PMg C (.Subscript eo ei pos) (gSub a b f) := by
  refine ⟨fun pins sh σ H z u Q I rz ⟨g, s, w, r, rv, q⟩ => ?_⟩
  rw [ha]
  unfold gSub at q
  have q1 : Go C C.V1 σ (a s) g H fun x H1 => ∃ m s1 g1, Mono g H g1 H1 ∧ C.rel g1 s1 σ H1 ∧ RV C.T g1 H1 m x ∧ (match (b s1).bind fun k s2 => f m k w s2 with
      | .ok _ s1 => ∀ (g' : Gh) (H' : Hp) (σ' : L2.St), Mono g H g' H' → C.rel g' s1 σ' H' → Q σ' H'
      | .err x s1 => ∀ (g' : Gh) (H' : Hp) (cls : Value) (d : Option Addr), Mono g H g' H' → C.rel g' s1 σ H' → XR C.T g' H' x cls d → C.W cls d σ H'
      | .stuck => False) := by
    cases h1 : a s with
    | stuck => rw [h1] at q; exact q.elim
    | err e s1 => rw [h1] at q; exact q
    | ok m s1 => rw [h1] at q; exact fun g' H' x mo r' rv' => ⟨m, s1, g', mo, r', rv', q⟩
  refine wpAny_bind (wpAny_holding (thn (ho.run pins sh σ H _ I ⟨g, s, r, q1⟩) fun ov s1 ⟨x, H1, I1, l1, m, ms1, g1, mo1, r1, rm, q2⟩ => ?_))
  have q3 : Go C C.V1 σ (b ms1) g1 H1 fun y H2 => ∃ k s2 g2, Mono g1 H1 g2 H2 ∧ C.rel g2 s2 σ H2 ∧ RV C.T g2 H2 k y ∧ (match f m k w s2 with
      | .ok _ s1 => ∀ (g' : Gh) (H' : Hp) (σ' : L2.St), Mono g H g' H' → C.rel g' s1 σ' H' → Q σ' H'
      | .err x s1 => ∀ (g' : Gh) (H' : Hp) (cls : Value) (d : Option Addr), Mono g H g' H' → C.rel g' s1 σ H' → XR C.T g' H' x cls d → C.W cls d σ H'
      | .stuck => False) := by
    cases h2 : b ms1 with
    | stuck => rw [h2] at q2; exact q2.elim
    | err e s2 => rw [h2] at q2; exact fun g' H' cls d mo => q2 g' H' cls d (mo1.trans mo)
    | ok k s2 => rw [h2] at q2; exact fun g' H' y mo r' rv' => ⟨k, s2, g', mo, r', rv', q2⟩
  refine wpAny_bind (wpAny_holding (thn (hi.run pins s1 σ H1 _ I1 ⟨g1, ms1, r1, q3⟩) fun iv s2 ⟨y, H2, I2, l2, k, ms2, g2, mo2, r2, rk, q4⟩ => ?_))
  have mo12 := mo1.trans mo2
  have q5 : GoU C σ (f m k w ms2) g2 H2 fun H' => Q σ H' := by
    unfold GoU
    cases h3 : f m k w ms2 with
    | stuck => rw [h3] at q4; exact q4.elim
    | err e s3 => rw [h3] at q4; exact fun g' H' cls d mo => q4 g' H' cls d (mo12.trans mo)
    | ok u s3 => rw [h3] at q4; exact fun g' H' mo r' => q4 g' H' σ (mo12.trans mo) r'
  refine wpAny_bind (wpAny_standAt (wpAny_bind (wpAny_holding (thn (hf pins s2 σ H2 g2 ms2 m k w x y z ov iv u _ I2 r2 (rm.mono mo2) rk (rv.mono mo12) l1 l2 rz q5) fun _ s3 ⟨H3, I3, q6⟩ => ?_))))
  exact wpAny_release ⟨σ, H3, I3, q6⟩
/-- d[k] = w -/
def fSetD (o : FSet) : FSet := fun x y w s => match dictL s.hp x with
  | some kms => match keyM y with
    | some k => if kms.length < big then (match x with
      | .box n => .ok () ⟨s.env, s.hp.set n (.dK (putG kms k w))⟩
      | _ => .stuck) else .stuck
    | none => .stuck
  | none => o x y w s
theorem setG_dict {o : FSet} (hu : C.X.A.units + 1 < cLine) (h : SetG C o) : SetG C (fSetD o) := fun pins sh σ H g s m k w x y z v i u Q I r r1 r2 r3 l1 l2 l3 q => by
  unfold fSetD at q
  split at q
  · rename_i kms hd
    split at q
    · rename_i ky hk
      by_cases hl : kms.length < big
      · rw [if_pos hl] at q
        obtain ⟨n, a, kvs, rfl, hc, rfl, hro, e, rf⟩ := dictL_at r hd r1
        cases (show v = Value.ref a from l1)
        have ey := keyM_at hk r2
        subst ey
        dsimp only at q
        obtain ⟨r4, mo⟩ := Rel.poke (c' := .dK (putG kms ky w)) (o := .dK (putK kvs ky z)) r hc hro trivial (fun ws z => by rw [e] at z; cases z) fun g' mo => ⟨_, upd_same, (rf.put ky r3).mono mo⟩
        have hz : kvs.length < sizeLine := by
          have e1 := rf.length
          have e3 : big ≤ sizeLine := by decide +kernel
          omega
        exact d_setItem hu I (.k e hz) l2 l3 fun s' I' => ⟨_, I', q g _ mo r4⟩
      · rw [if_neg hl] at q; exact q.elim
    · exact q.elim
  · exact h pins sh σ H g s m k w x y z v i u Q I r r1 r2 r3 l1 l2 l3 q
/-- x[k] = w of an own instance -/
def fSetI (c : Str) (F : Fn) (o : FSet) : FSet := fun x y w s => if isIns c x s = true then (upF s.env (F [x, y, w] s.hp)).bind fun _ s1 => .ok () s1 else o x y w s
/-! ### in -/
def oInD (neg : Bool) (o : M → M → MS → Res M) (x y : M) (s : MS) : Res M := match dictOf s.hp y with
  | some kms => match keyM x with
    | some k => .ok (.bl (if neg then !(valG kms k).isSome else (valG kms k).isSome)) s
    | none => .stuck
  | none => o x y s
theorem valG_some {kms : List (Key × M)} {kvs : List (Key × V)} (rf : RFs T g H kms kvs) (ky : Key) : (valV kvs ky).isSome = (valG kms ky).isSome := by
  rcases rf.valG ky with ⟨m', vv, e1, e2, rv⟩ | ⟨e1, e2⟩
  · rw [e1, e2]; rfl
  · rw [e1, e2]; rfl
theorem op_inD {o : M → M → MS → Res M} (hu : C.X.A.units + 1 < cLine) (h : Op2Ok C (compareOp .In) o) : Op2Ok C (compareOp .In) (oInD false o) := by
  intro pins sh σ H g ms m1 m2 x y v u Q I r r1 r2 l1 l2 q
  unfold oInD at q
  split at q
  · rename_i kms hd
    split at q
    · rename_i ky hk
      obtain ⟨n, a, kvs, rfl, rfl, hro, e, rf⟩ := dictOf_at r hd r2
      cases (show u = Value.ref a from l2)
      have ey := keyM_at hk r1
      subst ey
      refine d_in hu I (.inl ⟨kvs, ky, e, rfl, rfl⟩) l1 fun s' I' => ⟨.bl (valV kvs ky).isSome, H, I', rfl, ?_⟩
      rw [valG_some rf ky]
      exact q.ret r (.bl _)
    · exact q.elim
  · exact h pins sh σ H g ms m1 m2 x y v u Q I r r1 r2 l1 l2 q
/-! ### calls of built-in functions by their ground -/
def CallG (C : MC) (v : Value) (o : List M → MS → Res M) : Prop :=
  ∀ (pins : List (Addr × Obj)) (sh : Shared) (σ : L2.St) (H : Hp) (g : Gh) (s : MS) (ms : List M) (xs : List V) (us : List Value) (Q : VK), Inv C.X pins σ H sh → C.rel g s σ H → RVs C.T g H ms xs → Vals xs us →
    Go C C.V1 σ (o ms s) g H Q → wpAny (model C.X.prog C.X.w) C.X.A (call v us) (EP C.X pins σ Q) C.X.xe sh
theorem CallG.of {v : Value} {r : RC} {o : List M → MS → Res M} (hc : CallR C.X v r) (ho : CallOk C r o) : CallG C v o := fun pins sh σ H g s ms xs us Q I r rs rv q => hc pins sh σ H xs us Q I rv (ho σ H g s ms xs Q r rs q)
theorem rdA_call {o : List M → MS → Res M} {Q : VK} (h : rdE C (mCall ma o) σ H Q) : rdA C ma σ H fun xs H1 => ∃ ms s1 g1, C.rel g1 s1 σ H1 ∧ RVs C.T g1 H1 ms xs ∧ Go C C.V1 σ (o ms s1) g1 H1 Q := rdA_bind h
theorem em_callG {id : String} {o : List M → MS → Res M} (hc : CallG C (.builtin id) o) (hm : C.X.mg x = none) (ha : PMa C (ex :: es) ma) (hv : bootBuiltins x = some (.builtin id) := by first | rfl | decide +kernel) (hg : Gl C.X x := by rfl) (hn : x ≠ "__name__" := by decide)
    (hdb : (x == ("__debug__" : Str)) = false := by decide) (he : starEach (ex :: es) C.X.env = (false, eval ex C.X.env) :: starEach es C.X.env := by rfl) (hpl : (backTo pos (starEach es C.X.env)).any (·.1) = false := by rfl) :
    PMe C (.Call (.Name x p) (ex :: es) [] pos) (mCall ma o) := by
  refine ⟨fun pins sh σ H Q I h => ?_⟩
  refine wpAny_Call_Name_kw (ld_blt I hg hm hv ?_ hn hdb)
  exact PyProof.Rows.callWith_builtin1 (thn (ha.run pos pins sh σ H _ I (rdA_call h)) fun us s1 ⟨vs, H1, I1, rv, ms, s2, g1, r1, rs, q1⟩ => hc pins s1 σ H1 g1 s2 ms vs us Q I1 r1 rs rv q1) he hpl
/-- len of a dict -/
def cLenD (o : List M → MS → Res M) (ms : List M) (s : MS) : Res M := match ms with
  | [x] => match dictOf s.hp x with
    | some kms => .ok (.int kms.length) s
    | none => o ms s
  | _ => o ms s
theorem callG_lenD {o : List M → MS → Res M} (h : CallG C (.builtin "len") o) : CallG C (.builtin "len") (cLenD o) := fun pins sh σ H g s ms xs us Q I r rs rv q => by
  unfold cLenD at q
  split at q
  · rename_i x
    split at q
    · rename_i kms hd
      cases rs with
      | cons r1 r2 =>
        cases r2
        obtain ⟨n, a, kvs, rfl, rfl, hro, e, rf⟩ := dictOf_at r hd r1
        obtain ⟨u, rfl, l1⟩ := rv.one
        cases (show u = Value.ref a from l1)
        refine d_len I e fun t s' I' => ⟨.int kvs.length, H, I', ⟨_, rfl⟩, ?_⟩
        rw [← rf.length]
        exact q.ret r (.int _)
    · exact h pins sh σ H g s _ xs us Q I r rs rv q
  · exact h pins sh σ H g s ms xs us Q I r rs rv q
/-- len, repr of an own instance -/
def cDun (c : Str) (F : Fn) (post : M → Option M) (o : List M → MS → Res M) (ms : List M) (s : MS) : Res M := match ms with
  | [x] => if isIns c x s = true then upP post (upF s.env (F [x] s.hp)) else o ms s
  | _ => o ms s
end
end Ma
/-! Ma41: == and != by an own `__eq__`. -/
namespace Ma
open L2 PySem.W PySem.Spec PySem PyProof.Rows
end Ma
/-! Ma42: comparisons, + and -, properties of own instances in the machine. -/
namespace Ma
open L2 PySem.W PySem.Spec PySem PyProof.Rows
section
variable {C : MC} {g g1 : Gh} {H H1 : Hp} {s : MS} {σ : L2.St} {ea eb ex eo ei : Expr} {es : List Expr} {a b : ME} {ma : MA} {pos p : Pos} {x c name f : Str} {k : Nat} {F : Fn} {pins : List (Addr × Obj)} {sh : Shared} {T : Tab}
/-- the built-in type of a value -/
def biOf (hp : List Cell) : M → Option String
  | .non => some "NoneType"
  | .bl _ => some "bool"
  | .int _ => some "int"
  | .str _ => some "str"
  | .byt _ => some "bytes"
  | .tup _ => some "tuple"
  | .lst _ => some "list"
  | .dct _ _ => some "dict"
  | .box n => match hp[n]? with
    | some (.lst _) => some "list"
    | some (.dK _) => some "dict"
    | _ => none
  | _ => none
/-- the type of a value, an own class or a built-in type -/
def tyAt (hp : List Cell) (m : M) : Option Tg := match m with
  | .box n => match hp[n]? with
    | some (.ins c _) => some (.own c)
    | _ => (biOf hp (.box n)).map .bi
  | m => (biOf hp m).map .bi
def tin (ts : List Tg) (t : Option Tg) : Bool := match t with
  | some t => ts.contains t
  | none => false
/-- x op y of own instances whose class has the def for it -/
def oDunC (c : Str) (F : Fn) (ts : List Tg) (o : M → M → MS → Res M) : M → M → MS → Res M := fun x y s => if isIns c x s = true then (if tin ts (tyAt s.hp y) = true then upF s.env (F [x, y] s.hp) else .stuck) else o x y s
def oDunN (c : Str) (F : Fn) (ts : List Tg) (o : M → M → MS → Res M) : M → M → MS → Res M := fun x y s => if isIns c x s = true then (if tin ts (tyAt s.hp y) = true then upP pNot (upF s.env (F [x, y] s.hp)) else .stuck) else o x y s
/-! ### x.f, a property -/
structure PrK (T : Tab) (c f : Str) (P : Program) (w : World) (mg : Str → Option Value) (base : Heap) (k : Nat) (F : Fn) : Prop where
  ex : ∀ A, T.ad c = some A → Cls T.K A ∧ ∃ p fa : Addr, PropOf T.K A f p fa ∧ FnP P w mg base T k fa F
/-- getAttr's ground -/
def AtG (C : MC) (f : Str) (o : M → MS → Res M) : Prop :=
  ∀ (pins : List (Addr × Obj)) (sh : Shared) (σ : L2.St) (H : Hp) (g : Gh) (s : MS) (m : M) (x : V) (v : Value) (Q : VK), Inv C.X pins σ H sh → C.rel g s σ H → RV C.T g H m x → RelV x v →
    Go C C.V1 σ (o m s) g H Q → wpAny (model C.X.prog C.X.w) C.X.A (getAttr v f true) (EP C.X pins σ Q) C.X.xe sh
theorem em_atG {o : M → MS → Res M} (ho : AtG C f o) (h : PMe C ex a) (hb : attributeBase ex f C.X.env (eval ex C.X.env) = eval ex C.X.env := by rfl) : PMe C (.Attribute ex f pos) (fun s => (a s).bind o) := by
  refine ⟨fun pins sh σ H Q I q => attr_of hb (thn (h.run pins sh σ H _ I (rdE_bind q)) fun u s1 hh => ?_)⟩
  obtain ⟨x, H1, I1, l1, m, s2, g1, r1, rv, q1⟩ := hh
  exact ho pins s1 σ H1 g1 s2 m x u Q I1 r1 rv l1 q1
def noErr (r : Res M) : Res M := match r with
  | .err _ _ => .stuck
  | r => r
theorem sp_upN {Q : VK} {args : List M} {vs : List V} (r : C.rel g s σ H) (rs : RVs C.T g H args vs) (h : Go C C.V1 σ (noErr (upF s.env (F args s.hp))) g H Q) : spP C.T F vs H Q fun _ _ _ => False := by
  refine ⟨g, s.hp, args, r.h.self, rs, ?_⟩
  cases hf : F args s.hp with
  | stuck => rw [hf] at h; exact h.elim
  | ok m hp => rw [hf] at h; exact fun g' H' v rl rv => h g' H' v rl.m0 (r.env rl.m0 (r.h.comp rl)) rv
  | err x hp => rw [hf] at h; exact h.elim
def oPrp (c : Str) (F : Fn) (o : M → MS → Res M) (x : M) (s : MS) : Res M := if isIns c x s = true then noErr (upF s.env (F [x] s.hp)) else o x s
theorem atG_none : AtG C f (fun _ _ => .stuck) := fun _ _ _ _ _ _ _ _ _ _ _ _ _ _ q => q.elim
theorem atG_prp {o : M → MS → Res M} (P1 : PrK C.T c f C.X.prog C.X.w C.X.mg C.X.base k F) (hr : RoomG (k + 1) C.X.A) (tk : Takes C.X C.W) (h : AtG C f o) : AtG C f (oPrp c F o) := by
  intro pins sh σ H g s m x v Q I r r1 l1 q
  unfold oPrp at q
  by_cases hi : isIns c m s = true
  · rw [if_pos hi] at q
    obtain ⟨n, fms, rfl, hc⟩ := isIns_of hi
    obtain ⟨a, A, dx, fvs, od, ox, rfl, ad, e, rf, hro, J⟩ := ins_at I r hc r1
    cases (show v = Value.ref a from l1)
    obtain ⟨cl, p, fa, hp, fp⟩ := P1.ex A ad
    obtain ⟨rest, hrec⟩ := hp.rec_
    have I1 := I.tok (sh.toks + 1)
    have hcl : (clsIn C.T.K A).isSome = true := by
      obtain ⟨cd, hc, _⟩ := any_some cl.hd
      rw [hc]; rfl
    have kin : C.T.K.In sh.heap := C.hK ▸ I.kIn
    refine get_bind kin J (plainGet_of (cl.get f)).1 (findObj_data hcl hp.at_ hp.get hp.tak) (plainGet_of (cl.get f)).2 (wpAny_call (prop_get (s := { sh with toks := sh.toks + 1 }) kin hrec ?_))
    have e0 : Env0 C.X.prog C.X.w C.T.K C.X.mg C.X.base C.X.A C.X.stack { sh with toks := sh.toks + 1 } H := C.hK ▸ I1.env0
    refine codeAny_mono (fp.run C.X.A.in1 C.X.stack _ H [.ref a] [.ref a] Q _ hr.in1 e0.in1 (.cons rfl .nil) (sp_upN r (.cons r1 .nil) q)) fun res s' hq => ?_
    cases res with
    | error er =>
      obtain ⟨_, _, _, _, _, _, _, _, _, _, _, _, z⟩ := hq
      exact z.elim
    | ok fl =>
      cases fl with
      | ret u =>
        obtain ⟨v, H', I3, rv, q3⟩ := I1.after hq
        show wpAny _ _ (handedOut u) _ _ _
        rw [handedOut_of (handed_of rv)]
        exact wpAny_pure ⟨v, H', I3, rv, q3⟩
      | next => exact hq.elim
      | brk => exact hq.elim
      | cont => exact hq.elim
  · rw [if_neg hi] at q
    exact h pins sh σ H g s m x v Q I r r1 l1 q
end
end Ma
/-! Ma43: own instances made; fields stored; x + y of own instances. -/
namespace Ma
open L2 PySem.W PySem.Spec PySem PyProof.Rows
structure KnT (P : Program) (w : World) (mg : Str → Option Value) (base : Heap) (T : Tab) (c : Str) (k : Nat) (F : Fn) : Prop where
  ex : ∃ A f : Addr, T.ad c = some A ∧ mg c = some (.ref A) ∧ Mk T.K A f ∧ FnP P w mg base T k f F
theorem RoomG.make {k : Nat} {A : Around} (r : RoomG (k + 1) A) (D : Addr) (us : List Value) : RoomG k (A.under (.builtin "type.__call__" ⟨.ref D :: us, []⟩)) := ⟨r.toRoom.make D us [], r.gs⟩
section
variable {C : MC} {g g1 : Gh} {H H1 : Hp} {s : MS} {σ : L2.St} {ea eb ex eo ei value : Expr} {es : List Expr} {a b : ME} {ma : MA} {pos p pos' : Pos} {x c name f : Str} {k : Nat} {F : Fn} {pins : List (Addr × Obj)} {sh : Shared} {T : Tab}
def mkM (c : Str) (F : Fn) (ms : List M) (s : MS) : Res M := match F (.box s.hp.length :: ms) (s.hp ++ [.ins c []]) with
  | .ok .non hp => .ok (.box s.hp.length) ⟨s.env, hp⟩
  | .ok _ _ => .stuck
  | .err x hp => .err x ⟨s.env, hp⟩
  | .stuck => .stuck
theorem run_mk {Q : VK} {A fa : Addr} {us : List Value} {args : List M} {vs : List V} (ad : C.T.ad c = some A) (M1 : Mk C.T.K A fa) (G : FnP C.X.prog C.X.w C.X.mg C.X.base C.T k fa F) (hr : RoomG (k + 1) C.X.A) (tk : Takes C.X C.W)
    (I : Inv C.X pins σ H sh) (r : C.rel g s σ H) (rs : RVs C.T g H args vs) (rv : Vals vs us) (h : Go C C.V1 σ (mkM c F args s) g H Q) :
    wpAny (model C.X.prog C.X.w) C.X.A (call (.ref A) us) (EP C.X pins σ Q) C.X.xe sh := by
  have hd : H sh.heap.objs.size = none := I.hok.fresh (Nat.le_refl _)
  have hp : H (sh.heap.objs.size + 1) = none := I.hok.fresh (Nat.le_succ _)
  have ne : sh.heap.objs.size + 1 ≠ sh.heap.objs.size := Nat.succ_ne_self _
  have I2 := Inv.made (C := A) I
  have r1 : C.rel g s σ (upd H sh.heap.objs.size (.own (sh.heap.objs.size + 1))) := r.laid hd
  have mo1 : Mono g H g (upd H sh.heap.objs.size (.own (sh.heap.objs.size + 1))) := mono_laid r.h hd
  obtain ⟨r2, mo2⟩ := Rel.box (o := .ins A sh.heap.objs.size []) (c := .ins c []) r1 (p := sh.heap.objs.size + 1) (by rw [upd_ne ne]; exact hp) fun g' mo => ⟨A, _, [], ad, upd_same, .nil⟩
  have mo := mo1.trans mo2
  have rb : RV C.T (g.box (sh.heap.objs.size + 1)) (upd (upd H sh.heap.objs.size (.own (sh.heap.objs.size + 1))) (sh.heap.objs.size + 1) (.ins A sh.heap.objs.size [])) (.box s.hp.length) (.ref (sh.heap.objs.size + 1)) :=
    .box (by show (g.ro ++ [sh.heap.objs.size + 1])[s.hp.length]? = some _; rw [← r.h.len, List.getElem?_concat_length])
  have sp : spP C.T F (.ref (sh.heap.objs.size + 1) :: vs) _ (fun v H' => v = .non ∧ Q (.ref (sh.heap.objs.size + 1)) H') (fun cls d H' => C.W cls d σ H') :=
    ⟨_, _, .box s.hp.length :: args, r2.h.self, .cons rb (rs.mono mo), by
      unfold mkM at h
      cases hf : F (.box s.hp.length :: args) (s.hp ++ [.ins c []]) with
      | stuck => rw [hf] at h; exact h.elim
      | err e hp' => rw [hf] at h; exact fun g' H' cls d rl xr => h g' H' cls d (mo.trans rl.m0) (r2.env rl.m0 (r2.h.comp rl)) xr
      | ok m hp' =>
        rw [hf] at h
        cases m <;> try exact h.elim
        intro g' H' v rl rv'
        cases rv'
        exact ⟨rfl, h g' H' _ (mo.trans rl.m0) (r2.env rl.m0 (r2.h.comp rl)) (rb.mono rl.m0)⟩⟩
  have e0 : Env0 C.X.prog C.X.w C.T.K C.X.mg C.X.base C.X.A C.X.stack _ _ := C.hK ▸ I2.env0
  refine wpAny_call (make_map (f := fa) (C.hK ▸ I.kIn) M1.makes M1.init (beq_iff_eq.mp M1.fn) (codeAny_mono (G.run _ C.X.stack _ _ (Value.ref (sh.heap.objs.size + 1) :: us) (V.ref (sh.heap.objs.size + 1) :: vs) _ _ (hr.make A us) (e0.make A us []) (.cons rfl rv) sp) fun res s' hq => ?_))
  cases res with
  | error e => exact tk e s' (XE.of_call I2 (fun _ _ _ z => z) hq)
  | ok fl =>
    cases fl with
    | ret u =>
      obtain ⟨v, H', I3, rv', ev, q3⟩ := I2.after hq
      subst ev
      exact ⟨rv', ⟨V.ref (sh.heap.objs.size + 1), H', I3, rfl, q3⟩⟩
    | next => exact hq.elim
    | brk => exact hq.elim
    | cont => exact hq.elim
def mMk (c : Str) (F : Fn) (ma : MA) : ME := fun s => (ma s).bind (mkM c F)
theorem em_mk (h : KnT C.X.prog C.X.w C.X.mg C.X.base C.T x k F) (hr : RoomG (k + 1) C.X.A) (tk : Takes C.X C.W) (ha : PMa C (ex :: es) ma)
    (hg : Gl C.X x := by rfl) (hdb : (x == ("__debug__" : Str)) = false := by decide) (he : starEach (ex :: es) C.X.env = (false, eval ex C.X.env) :: starEach es C.X.env := by rfl) (hpl : (backTo pos (starEach es C.X.env)).any (·.1) = false := by rfl) :
    PMe C (.Call (.Name x p) (ex :: es) [] pos) (mMk x F ma) := by
  obtain ⟨A, fa, ad, hm, M1, G⟩ := h.ex
  refine ⟨fun pins sh σ H Q I q => wpAny_Call_Name_kw (ld_glob I hg hm ?_ hdb)⟩
  refine callWith_K (h₀ := C.X.base) I.ok.mod.kin (C.hK ▸ M1.kp) (thn (ha.run pos pins sh σ H _ I (rdA_call q)) fun us s1 hh => ?_) he hpl
  obtain ⟨vs, H1, I1, rv, ms, s2, g1, r1, rs, q1⟩ := hh
  exact ⟨I1.kIn, run_mk ad M1 G hr tk I1 r1 rs rv q1⟩
/-! ### e.f = value -/
structure FldC (T : Tab) (c f : Str) : Prop where
  ex : ∀ A, T.ad c = some A → Cls T.K A ∧ NoAttr T.K A f
def putFM (f : Str) (y : M) : List (Str × M) → List (Str × M)
  | [] => [(f, y)]
  | (j, v) :: r => if j = f then (j, y) :: r else (j, v) :: putFM f y r
theorem RFs.putF {fs : List (Str × M)} {vs : List (Str × V)} {m : M} {v : V} (r : RFs T g H fs vs) (rv : RV T g H m v) : RFs T g H (putFM f m fs) (putF f v vs) := by
  induction r with
  | nil => exact .cons rv .nil
  | @cons j m' v' fs vs q t ih =>
    unfold putFM L2.putF
    by_cases e : j = f
    · rw [if_pos e, if_pos e]; exact .cons rv t
    · rw [if_neg e, if_neg e]; exact .cons q ih
def fPut (c f : Str) (x y : M) (s : MS) : Res Fl := match x with
  | .box n => match s.hp[n]? with
    | some (.ins c' fms) => if c' = c ∧ fms.length < 900 then .ok .nx ⟨s.env, s.hp.set n (.ins c (putFM f y fms))⟩ else .stuck
    | _ => .stuck
  | _ => .stuck
def sPut (c f : Str) (a b : ME) : MStm := fun s => (b s).bind fun y s1 => (a s1).bind fun x s2 => fPut c f x y s2
theorem sm_put (fc : FldC C.T c f) (ha : PMe C eo a) (hb : PMe C value b) (hs : swapsWith value (some (.Attribute eo f pos')) pos.line C.X.env = pure false := by rfl) : PMs C (.Assign [.Attribute eo f pos'] value pos) (sPut c f a b) := by
  refine ⟨fun pins sh σ H D I ⟨g, s, r, q⟩ => ?_⟩
  unfold sPut at q
  have q1 : Go C C.V1 σ (b s) g H fun y H1 => ∃ m s1 g1, Mono g H g1 H1 ∧ C.rel g1 s1 σ H1 ∧ RV C.T g1 H1 m y ∧ GoS C ((a s1).bind fun x s2 => fPut c f x m s2) g H D := by
    cases h : b s with
    | stuck => rw [h] at q; exact q.elim
    | err e s1 => rw [h] at q; exact fun g' H' cls d mo rl xr => q g' H' σ cls d mo rl xr
    | ok m s1 => rw [h] at q; exact fun g' H' v mo rl rv => ⟨m, s1, g', mo, rl, rv, q⟩
  refine plainObj_wpAny_Assign_Attribute (thn (hb.run pins sh σ H _ I ⟨g, s, r, q1⟩) fun u s1 ⟨y, H1, I1, ry, m, ms1, g1, mo1, r1, rm, q2⟩ => ?_) hs
  have q3 : Go C C.V1 σ (a ms1) g1 H1 fun x H2 => ∃ k s2 g2, Mono g1 H1 g2 H2 ∧ C.rel g2 s2 σ H2 ∧ RV C.T g2 H2 k x ∧ GoS C (fPut c f k m s2) g H D := by
    cases h : a ms1 with
    | stuck => rw [h] at q2; exact q2.elim
    | err e s2 => rw [h] at q2; exact fun g' H' cls d mo rl xr => q2 g' H' σ cls d (mo1.trans mo) rl xr
    | ok k s2 => rw [h] at q2; exact fun g' H' v mo rl rv => ⟨k, s2, g', mo, rl, rv, q2⟩
  refine thn (ha.run pins s1 σ H1 _ I1 ⟨g1, ms1, r1, q3⟩) fun ov s2 ⟨x, H2, I2, rx, k, ms2, g2, mo2, r2, rk, q4⟩ => ?_
  unfold fPut at q4
  split at q4
  · rename_i n
    split at q4
    · rename_i c' fms hc
      split at q4
      · rename_i hcl
        obtain ⟨rfl, hlen⟩ := hcl
        obtain ⟨a', A, dx, fvs, od, ox, rfl, ad, e, rf, hro, J⟩ := ins_at I2 r2 hc rk
        obtain rfl : ov = Value.ref a' := rx
        obtain ⟨cl, na⟩ := fc.ex A ad
        obtain ⟨r3, mo3⟩ := Rel.poke (c' := .ins c' (putFM f m fms)) (o := .ins A dx (putF f y fvs)) r2 hc hro trivial (fun ws z => by rw [e] at z; cases z) fun g' mo => ⟨A, dx, _, ad, upd_same, (rf.putF (rm.mono mo2)).mono mo⟩
        exact setattr_ok I2 e (C.hK ▸ cl) (C.hK ▸ na) (by rw [← rf.length]; omega) ry fun s3 I3 => ⟨σ, _, I3, q4 g2 _ σ ((mo1.trans mo2).trans mo3) r3⟩
      · exact q4.elim
    · exact q4.elim
  · exact q4.elim
end
end Ma
/-! Ma44: x + y, x an own instance, y of a built-in type; anything that is never reached. -/
namespace Ma
open L2 PySem.W PySem.Spec PySem PyProof.Rows
end Ma
/-! Ma45: tuple(d.items()). -/
namespace Ma
open L2 PySem.W PySem.Spec PySem PyProof.Rows
theorem paired_imp {α β : Type} {F G : α → β → Prop} (h : ∀ x y, F x y → G x y) : ∀ {xs : List α} {ys : List β}, Paired F xs ys → Paired G xs ys
  | _, _, .nil => .nil
  | _, _, .cons q t => .cons (h _ _ q) (paired_imp h t)
section
variable {C : MC} {g g1 : Gh} {H H1 : Hp} {s : MS} {σ : L2.St} {ea eb ex eo ei : Expr} {es : List Expr} {a b : ME} {ma : MA} {pos p apos cpos : Pos} {x c name f : Str} {k : Nat} {F : Fn} {pins : List (Addr × Obj)} {sh : Shared} {T : Tab}
def kM : Key → M
  | .inl i => .int i
  | .inr z => .str z
def itemsM (kms : List (Key × M)) : List M := kms.map fun kv => .tup [kM kv.1, kv.2]
/-- tuple(d.items()) -/
def oItems (m : M) (s : MS) : Res M := match dictL s.hp m with
  | some kms => if kms.length ≤ big then .ok (.tup (itemsM kms)) s else .stuck
  | none => .stuck
end
end Ma
/-! Ma46: a dict is locked while a row runs. -/
namespace Ma
open L2 PySem.W PySem.Spec PySem PyProof.Rows
def unlk (n : Nat) (r : Res Fl) : Res Fl := match r with
  | .ok f s => match s.hp[n]? with
    | some (.dF kms) => .ok f ⟨s.env, s.hp.set n (.dK kms)⟩
    | _ => .stuck
  | .err x s => .err x s
  | .stuck => .stuck
def sLock (i : Nat) (b : MStm) : MStm := fun s => match s.env[i]? with
  | some (some (.box n)) => match s.hp[n]? with
    | some (.dK kms) => unlk n (b ⟨s.env, s.hp.set n (.dF kms)⟩)
    | some (.dF _) => b s
    | _ => .stuck
  | _ => .stuck
section
variable {C : MC} {g g1 : Gh} {H H1 : Hp} {s : MS} {σ : L2.St} {st : Stmt} {b : MStm} {T : Tab}
theorem Rel.unlock (r : C.rel g s σ H) {n : Nat} {p : Addr} {od : Obj} {kvs : List (Key × V)} {kms : List (Key × M)} (hc : s.hp[n]? = some (.dF kms)) (hp : g.ro[n]? = some p) (e : H p = some (.frz od (.dK kvs))) (en : ∀ o u, C.e.H p ≠ some (.frz o u)) :
    C.rel g ⟨s.env, s.hp.set n (.dK kms)⟩ σ (upd H p (.dK kvs)) ∧ MonoB g H g (upd H p (.dK kvs)) := by
  have pf : ¬ g.fz p := r.h.thaw n _ p hc hp trivial
  have mo : MonoB g H g (upd H p (.dK kvs)) := ⟨List.prefix_refl _, fun _ h => h, fun a f => upd_ne (fun z => pf (z ▸ f)), fun a vs h => by
    have ne : a ≠ p := fun z => by subst z; rw [e] at h; cases h
    rw [upd_ne ne]; exact h⟩
  have inj : ∀ {m : Nat} {q : Addr}, g.ro[m]? = some q → q = p → m = n := fun {m q} h1 h2 => by
    subst h2
    exact nd_ix r.h.nd h1 hp
  have rf : RFs C.T g H kms kvs := by
    obtain ⟨o, kvs', e1, rf⟩ := r.h.cell n _ p hc hp
    rw [e] at e1
    cases e1
    exact rf
  have m0 : Mono C.e.g C.e.H g (upd H p (.dK kvs)) := ⟨⟨r.h.m0.ro.trans mo.ro, fun x h => mo.fz x (r.h.m0.fz x h), fun x h => (mo.fh x (r.h.m0.fz x h)).trans (r.h.m0.fh x h), fun x vs h => mo.tup x vs (r.h.m0.tup x vs h)⟩, fun a o u h => by
    have ne : a ≠ p := fun z => by subst z; exact en o u h
    rw [upd_ne ne]; exact r.h.m0.fr a o u h⟩
  have old : ∀ {q : Addr} {o : HO}, H q = some o → ∃ o', upd H p (.dK kvs) q = some o' := fun {q o} h => by
    by_cases z : q = p
    · subst z; exact ⟨_, upd_same⟩
    · exact ⟨o, by rw [upd_ne z]; exact h⟩
  refine ⟨r.envB mo ⟨by simp [r.h.len], r.h.nd, fun m d q h1 h2 => ?_, fun m d q h1 h2 ld => ?_, fun q f => ?_, fun q hq => ?_, fun q u h1 h2 => ?_, r.h.nfz, r.h.nro, m0, r.h.tb.upd (fun u z => by rw [e] at z; cases z; exact plain_frz) plain_dK.tbl (fun _ => plain_dK), r.h.tbe⟩, mo⟩
  · by_cases hmn : m = n
    · subst hmn
      rw [List.getElem?_set_self (List.getElem?_eq_some_iff.mp hc).1] at h1
      cases h1
      rw [hp] at h2
      cases h2
      exact ⟨kvs, upd_same, rf.monoB mo⟩
    · rw [List.getElem?_set_ne (Ne.symm hmn)] at h1
      exact (r.h.cell m d q h1 h2).monoB mo (upd_ne fun z => hmn (inj h2 z))
  · by_cases hmn : m = n
    · subst hmn
      rw [hp] at h2
      cases h2
      exact pf
    · rw [List.getElem?_set_ne (Ne.symm hmn)] at h1
      exact r.h.thaw m d q h1 h2 ld
  · obtain ⟨u, x⟩ := r.h.fzt q f; exact old x
  · obtain ⟨u, x⟩ := r.h.rot q hq; exact old x
  · have x := r.h.frm q u h1 h2
    have ne : q ≠ p := fun z => by
      subst z
      rcases r.h.nro q (List.mem_of_getElem? hp) with y | y
      · exact h2 y
      · rw [h1] at y; cases y
    rw [upd_ne ne]; exact x
theorem sm_lock {i : Nat} (h : PMs C st b) : PMs C st (sLock i b) := by
  refine ⟨fun pins sh σ H D I ⟨g, s, r, q⟩ => ?_⟩
  unfold sLock at q
  split at q
  · rename_i n hi
    split at q
    · rename_i kms hc
      obtain ⟨v, hv, rv⟩ := r.get hi
      obtain ⟨p, rfl, hp, kvs, e, rf⟩ := r.cellAt hc rv
      refine (ps_lock h).run pins sh σ H D I ⟨p, .dK kvs, e, trivial, fun od => ?_⟩
      obtain ⟨r1, m1⟩ := Rel.poke (c' := .dF kms) (o := .frz od (.dK kvs)) r hc hp trivial (fun ws z => by rw [e] at z; cases z) fun g' mo => ⟨od, kvs, upd_same, rf.mono mo⟩
      have en : ∀ o u, C.e.H p ≠ some (.frz o u) := fun o u z => by
        have y := r.h.m0.fr p o u z
        rw [e] at y
        cases y
      have pf : ¬ g.fz p := r.h.thaw n _ p hc hp trivial
      have back : ∀ {g' : Gh} {H' : Hp}, Mono g (upd H p (.frz od (.dK kvs))) g' H' → Mono g H g' (upd H' p (.dK kvs)) := fun {g' H'} mo => by
        have nz : ∀ {a : Addr} {u : HO}, H a = some u → (∀ w, u ≠ .dK w) → a ≠ p := fun {a u} h hn z => by subst z; rw [e] at h; cases h; exact hn _ rfl
        refine ⟨⟨mo.ro, mo.fz, fun a f => ?_, fun a vs h => ?_⟩, fun a o u h => ?_⟩
        · have ne : a ≠ p := fun z => pf (z ▸ f)
          rw [upd_ne ne, mo.fh a f, upd_ne ne]
        · have ne := nz h (fun w z => by cases z)
          rw [upd_ne ne]
          exact mo.tup a vs (by rw [upd_ne ne]; exact h)
        · have ne := nz h (fun w z => by cases z)
          rw [upd_ne ne]
          exact mo.fr a o u (by rw [upd_ne ne]; exact h)
      have at_ : ∀ {g' : Gh} {H' : Hp}, Mono g (upd H p (.frz od (.dK kvs))) g' H' → H' p = some (.frz od (.dK kvs)) := fun {g' H'} mo => mo.fr p od _ upd_same
      refine ⟨g, ⟨s.env, s.hp.set n (.dF kms)⟩, r1, ?_⟩
      cases hb : b ⟨s.env, s.hp.set n (.dF kms)⟩ with
      | stuck => rw [hb] at q; exact q.elim
      | err x s2 => rw [hb] at q; exact fun g' H' σ' cls d mo rl xr => q g' H' σ' cls d (m1.trans mo) rl xr
      | ok f s2 =>
        rw [hb] at q
        unfold unlk at q
        dsimp only at q
        split at q
        · rename_i kms' hc2
          have step : ∀ {g' : Gh} {H' : Hp} {σ' : L2.St}, Mono g (upd H p (.frz od (.dK kvs))) g' H' → C.rel g' s2 σ' H' → C.rel g' ⟨s2.env, s2.hp.set n (.dK kms')⟩ σ' (upd H' p (.dK kvs)) ∧ MonoB g' H' g' (upd H' p (.dK kvs)) := fun {g' H' σ'} mo rl =>
            Rel.unlock rl hc2 (mo.at hp) (at_ mo) en
          cases f with
          | nx => exact fun g' H' σ' mo rl => ⟨at_ mo, q g' _ σ' (back mo) (step mo rl).1⟩
          | bk => exact fun g' H' σ' mo rl => ⟨at_ mo, q g' _ σ' (back mo) (step mo rl).1⟩
          | ct => exact fun g' H' σ' mo rl => ⟨at_ mo, q g' _ σ' (back mo) (step mo rl).1⟩
          | rt m => exact fun g' H' σ' v mo rl rv => ⟨at_ mo, q g' _ σ' v (back mo) (step mo rl).1 (rv.monoB (step mo rl).2)⟩
        · exact q.elim
    · exact h.run pins sh σ H D I ⟨g, s, r, q⟩
    · exact q.elim
  · exact q.elim
end
end Ma
/-! Ma47: walks over a locked dict's keys; dicts laid. -/
namespace Ma
open L2 PySem.W PySem.Spec PySem PyProof.Rows
section
variable {C : MC} {g g1 : Gh} {H H1 : Hp} {s : MS} {σ : L2.St} {tg ex : Expr} {a : ME} {pos p : Pos}
def keysM (kms : List (Key × M)) : List M := (kms.map (·.1)).map fun | .inl i => M.int i | .inr x => M.str x
def iKey (a : ME) : MI := fun s => (a s).bind fun m s1 => match m with
  | .box n => match s1.hp[n]? with
    | some (.dF kms) => .ok (keysM kms) s1
    | _ => .stuck
  | _ => .stuck
theorem im_key (ha : PMe C ex a) : PMi C tg ex (iKey a) := by
  refine ⟨fun pins s σ H R I h => ?_⟩
  refine thn (ha.run pins s σ H _ I (rdE_bindI h)) fun u s1 ⟨x, H1, I1, rx, m, ms1, g1, r1, rv, q⟩ => ?_
  split at q
  · rename_i n
    split at q
    · rename_i kms hc
      obtain ⟨d, rfl, hp, o, kvs, e, rf⟩ := r1.cellAt hc rv
      obtain rfl : u = Value.ref d := rx
      obtain ⟨hs, hgd, hx, es, ep, vs', hdt, hsz, kv, hm⟩ := I1.frzK e
      have hl : (keysM kms).length = kvs.length := by simp [keysM, rf.length]
      refine iter_keys hs hgd hx hdt (pi_one (tk := s1.toks) I1 _ (turn_keys (d := d) (kvs := kvs) _ hdt) ⟨_, Heap.get?_push_size _ rfl, rfl, ?_⟩ (q g1 H1 _ (Mono.refl _ _) r1 ?_))
      · rw [hsz] <;> rfl
      · refine wk_of (vs := (kms.map (·.1)).map kV) (G := fun H => H d = some (.frz o (.dK kvs))) ?_ (fun g2 H2 mo2 => mo2.fr d o _ e) (rv_keys _)
        rw [hl]
        refine walk_keys.mono (fun _ h => h) fun i H x H' hi hg ⟨e1, k, v, e2, e3⟩ => ⟨e1, ?_⟩
        have e4 : (kms.map (·.1))[i]? = some k := by
          rw [rf.keys, List.getElem?_map, e2]; rfl
        rw [List.getElem?_map, e4, e3]
        rfl
    · exact q.elim
  · exact q.elim
theorem boxAt {g : Gh} {H : Hp} {hp : List Cell} {p : Addr} {T : Tab} {e : En} (r : RelH T e g hp H) {H' : Hp} : RV T (g.box p) H' (.box hp.length) (.ref p) :=
  .box (by show (g.ro ++ [p])[hp.length]? = some p; rw [← r.len, List.getElem?_concat_length])
/-- dict(pairs) -/
def pairM : M → Option (Key × M)
  | .tup [k, v] => (keyM k).map fun k => (k, v)
  | _ => none
def pairsM : List M → Option (List (Key × M))
  | [] => some []
  | m :: ms => match pairM m, pairsM ms with
    | some p, some ps => some (p :: ps)
    | _, _ => none
def mergeM (kms more : List (Key × M)) : List (Key × M) := more.foldl (fun acc kv => putG acc kv.1 kv.2) kms
theorem RFs.merge {T : Tab} : ∀ {more : List (Key × M)} {mv : List (Key × V)}, RFs T g H more mv → ∀ {kms : List (Key × M)} {kvs : List (Key × V)}, RFs T g H kms kvs → RFs T g H (mergeM kms more) (mergeK kvs mv) := by
  intro more mv r
  induction r with
  | nil => intro kms kvs r; exact r
  | @cons k m v fs vs q t ih => intro kms kvs r; exact ih (r.put k q)
theorem pairsM_at {T : Tab} : ∀ {ms : List M} {xs : List V} {ps : List (Key × M)}, RVs T g H ms xs → pairsM ms = some ps → ∃ (as : List Addr) (kvs : List (Key × V)), xs = as.map V.ref ∧ Paired (fun p kv => H p = some (.tup [kV kv.1, kv.2])) as kvs ∧ RFs T g H ps kvs
  | _, _, _, .nil, h => by cases h; exact ⟨[], [], rfl, .nil, .nil⟩
  | m :: ms, x :: xs, ps, .cons r rs, h => by
    unfold pairsM at h
    split at h
    · rename_i p ps' h1 h2
      cases h
      obtain ⟨as, kvs, rfl, pr, rf⟩ := pairsM_at rs h2
      unfold pairM at h1
      split at h1
      · rename_i k v
        cases hk : keyM k with
        | none => rw [hk] at h1; cases h1
        | some ky =>
          rw [hk] at h1
          cases h1
          cases r with
          | tup e rt =>
            cases rt with
            | cons ra rb =>
              cases rb with
              | cons rc rd =>
                cases rd
                have ey := keyM_at hk ra
                subst ey
                exact ⟨_ :: as, (ky, _) :: kvs, rfl, .cons e pr, .cons rc rf⟩
      · cases h1
    · cases h
def cDict (ms : List M) (s : MS) : Res M := match ms with
  | [x] => match seqL s.hp x with
    | some xs => match pairsM xs with
      | some ps => .ok (.box s.hp.length) ⟨s.env, s.hp ++ [.dK (mergeM [] ps)]⟩
      | none => .stuck
    | none => .stuck
  | _ => .stuck
theorem ok_dict : CallOk C (fun xs H Q => ∃ (a : Addr) (ps : List Addr) (kvs : List (Key × V)), xs = [.ref a] ∧ SqL C.X.K H a (ps.map V.ref) ∧ Paired (fun p kv => SqT C.X.K H p [kV kv.1, kv.2]) ps kvs ∧ ∀ p, H p = none → Q (.ref p) (upd H p (.dK (mergeK [] kvs)))) cDict := fun σ H g s ms xs Q r rs h => by
  unfold cDict at h
  split at h
  · rename_i x
    cases rs with
    | cons r1 r2 =>
      cases r2
      split at h
      · rename_i ys hy
        split at h
        · rename_i ps hp
          obtain ⟨q, vs, rfl, hq, rv⟩ := seqL_at r hy r1
          obtain ⟨as, kvs, rfl, pr, rf⟩ := pairsM_at rv hp
          refine ⟨q, as, kvs, rfl, hq, paired_imp (fun p kv e => .inl (.inl e)) pr, fun p hn => ?_⟩
          obtain ⟨r2, mo⟩ := r.box (o := .dK (mergeK [] kvs)) (c := .dK (mergeM [] ps)) hn fun g' mo => ⟨_, upd_same, (rf.mono mo).merge .nil⟩
          exact h (g.box p) _ _ mo r2 (boxAt r.h)
        · exact h.elim
      · exact h.elim
  · exact h.elim
end
end Ma
/-! Ma48: {k: v for target in iter if ..}; dicts compared. -/
namespace Ma
open L2 PySem.W PySem.Spec PySem PyProof.Rows
section
variable {C : MC} {g g1 : Gh} {H H1 : Hp} {s : MS} {σ : L2.St}
/-- the new dict, beside all that the machine knows -/
structure SideK (e : En) (g : Gh) (H : Hp) (D : Addr) (vs : List (Key × V)) : Prop where
  at_ : H D = some (.dK vs)
  nf : ¬ g.fz D
  nr : D ∉ g.ro
  ne : e.H D = none
theorem SideK.later {T : Tab} {e : En} {hp hp' : List Cell} {D : Addr} {vs : List (Key × V)} (d : SideK e g H D vs) (q : RelH T ⟨g, H⟩ g1 hp' H1) : SideK e g1 H1 D vs := by
  have no : ¬ H D = none := fun z => by rw [d.at_] at z; cases z
  refine ⟨q.frm D _ d.at_ d.nr, fun f => ?_, fun h => ?_, d.ne⟩
  · exact (q.nfz D f).elim d.nf fun z => z.elim no d.nr
  · exact (q.nro D h).elim d.nr no
def GoK (C : MC) (σ : L2.St) (D : Addr) (r : Res (List (Key × M))) (g : Gh) (H : Hp) (Q : Hp → Prop) : Prop := match r with
  | .ok ms s => ∀ (g' : Gh) (H' : Hp) (vs : List (Key × V)), Mono g H g' H' → C.rel g' s σ H' → SideK C.e g' H' D vs → RFs C.T g' H' ms vs → Q H'
  | _ => False
theorem GoK.later {D : Addr} {r : Res (List (Key × M))} {Q : Hp → Prop} (m : Mono g H g1 H1) (h : GoK C σ D r g H Q) : GoK C σ D r g1 H1 Q := by
  cases r with
  | ok a s => exact fun g' H' v q => h g' H' v (m.trans q)
  | err x s => exact h
  | stuck => exact h
variable {tg iter elt kxe : Expr} {ifs : List Expr} {scope : Scope} {own : List (Str × Nat)} {pos spos : Pos} {mi : MI} {mg : MG} {mt : MT} {mk me : ME}
end
/-! ### d == e, the values ints -/
section
variable {C : MC} {g g1 : Gh} {H H1 : Hp} {s : MS} {σ : L2.St} {T : Tab}
/-- none: a value that is no int; else whether all are there -/
def eqD (lms : List (Key × M)) : List (Key × M) → Option Bool
  | [] => some true
  | (k, .int i) :: r => match valG lms k, eqD lms r with
    | none, some _ => some false
    | some (.int j), some b => some ((i == j) && b)
    | _, _ => none
  | _ => none
theorem eqD_hits {A : Around} {sh : Shared} {lms : List (Key × M)} {lvs : List (Key × V)} {vb : List (Key × Value)} (r2 : RFs T g H lms lvs) (k2 : KV lvs vb) : ∀ {kms : List (Key × M)} {kvs : List (Key × V)} {va : List (Key × Value)} {b : Bool},
    RFs T g H kms kvs → KV kvs va → eqD lms kms = some b → KeqHits A sh vb va b
  | [], _, _, b, .nil, .nil, h => by cases h; exact .nil
  | (k, m) :: kms, (_, v) :: kvs, (k', u) :: va, b, .cons rv rs, .cons hd tl, h => by
    obtain ⟨e1, ru⟩ := hd
    have e1 : k = k' := e1
    subst e1
    have ru : RelV v u := ru
    cases m <;> first | cases h | skip
    rename_i i
    unfold eqD at h
    cases rv
    obtain ⟨t, rfl⟩ := (show ∃ t, u = Value.int i t from ru)
    split at h
    · rename_i b' h1 h2
      cases h
      rcases r2.valG k with ⟨m', vv, f1, f2, f3⟩ | ⟨f1, f2⟩
      · rw [f1] at h1; cases h1
      · have z := k2.val k
        rw [f2] at z
        cases q : valueAt vb k with
        | none => exact .miss q
        | some w => rw [q] at z; exact z.elim
    · rename_i j b' h1 h2
      cases h
      rcases r2.valG k with ⟨m', vv, f1, f2, f3⟩ | ⟨f1, f2⟩
      · rw [f1] at h1
        cases h1
        cases f3
        have z := k2.val k
        rw [f2] at z
        cases q : valueAt vb k with
        | none => rw [q] at z; exact z.elim
        | some w =>
          rw [q] at z
          obtain ⟨t', rfl⟩ := (show ∃ t, w = Value.int j t from z)
          exact .hit q (SeqAt.EqAt.int_int i t j t') (eqD_hits r2 k2 rs tl h2)
      · rw [f1] at h1; cases h1
    · cases h
def oEqK (neg : Bool) (o : M → M → MS → Res M) (x y : M) (s : MS) : Res M := match dictOf s.hp x, dictOf s.hp y with
  | some ks, some ls => match eqD ls ks with
    | some b => .ok (.bl (if neg then !(ks.length == ls.length && b) else (ks.length == ls.length && b))) s
    | none => .stuck
  | none, none => o x y s
  | _, _ => .stuck
theorem op_eqK {o : M → M → MS → Res M} (hu : C.X.A.units < cLine) (h : Op2Ok C (compareOp .Eq) o) : Op2Ok C (compareOp .Eq) (oEqK false o) := by
  intro pins sh σ H g ms m1 m2 x y v u Q I r r1 r2 l1 l2 q
  unfold oEqK at q
  split at q
  · rename_i ks ls h1 h2
    split at q
    · rename_i b hb
      obtain ⟨n, a, kvs, rfl, rfl, hro, e, rf⟩ := dictOf_at r h1 r1
      obtain ⟨n2, a2, kvs2, rfl, rfl, hro2, e2, rf2⟩ := dictOf_at r h2 r2
      cases (show v = Value.ref a from l1)
      cases (show u = Value.ref a2 from l2)
      obtain ⟨_, ya, va, ra, da⟩ := dk_rd I.hok e
      obtain ⟨_, yb, vb, rb, db⟩ := dk_rd I.hok e2
      refine keq_eq (knd := mixKind C.X.prog C.X.w) (r := b) ya yb da db hu (fun _ => eqD_hits rf2 rb rf ra hb) (fin_bl I (q.ret r (.bl _)) ?_)
      rw [rf.length, rf2.length, ra.length, rb.length]
      rfl
    · exact q.elim
  · exact h pins sh σ H g ms m1 m2 x y v u Q I r r1 r2 l1 l2 q
  · exact q.elim
end
end Ma
/-! Ma49: sorted(..) of pairs of ints, of ints; of lists and tuples. -/
namespace Ma
open L2 PySem.W PySem.Spec PySem PyProof.Rows
/-! ### the one sorted list -/
abbrev IP := Int × Int
def insP (p : IP) : List IP → List IP
  | [] => [p]
  | q :: r => if SrtO.lexB q p = true then q :: insP p r else p :: q :: r
def srtP : List IP → List IP
  | [] => []
  | p :: r => insP p (srtP r)
theorem insP_perm (p : IP) : ∀ l : List IP, (insP p l).Perm (p :: l)
  | [] => List.Perm.refl _
  | q :: r => by
    unfold insP
    split
    · exact ((insP_perm p r).cons q).trans (List.Perm.swap p q r)
    · exact List.Perm.refl _
theorem srtP_perm : ∀ l : List IP, (srtP l).Perm l
  | [] => List.Perm.refl _
  | p :: r => (insP_perm p (srtP r)).trans ((srtP_perm r).cons p)
/-- none behind comes before -/
abbrev leP (p q : IP) : Prop := SrtO.lexB q p = false
theorem leP_iff {p q : IP} : leP p q ↔ p.1 < q.1 ∨ (p.1 = q.1 ∧ p.2 ≤ q.2) := by
  unfold leP
  rw [SrtO.lexB_no]
  omega
theorem insP_sorted {p : IP} : ∀ {l : List IP}, l.Pairwise leP → (insP p l).Pairwise leP
  | [], _ => by simp [insP]
  | q :: r, h => by
    obtain ⟨h1, h2⟩ := List.pairwise_cons.mp h
    unfold insP
    split
    · rename_i hl
      refine List.pairwise_cons.mpr ⟨fun x hx => ?_, insP_sorted h2⟩
      rcases List.mem_cons.mp ((insP_perm p r).mem_iff.mp hx) with rfl | hx
      · have := SrtO.lexB_iff.mp hl
        exact leP_iff.mpr (by omega)
      · exact h1 x hx
    · rename_i hl
      have hpq : leP p q := by
        cases e : SrtO.lexB q p with
        | true => exact absurd e hl
        | false => exact e
      refine List.pairwise_cons.mpr ⟨fun x hx => ?_, h⟩
      rcases List.mem_cons.mp hx with rfl | hx
      · exact hpq
      · have a := leP_iff.mp hpq
        have b := leP_iff.mp (h1 x hx)
        exact leP_iff.mpr (by omega)
theorem srtP_sorted : ∀ l : List IP, (srtP l).Pairwise leP
  | [] => by simp [srtP]
  | p :: r => insP_sorted (srtP_sorted r)
theorem sorted_one : ∀ {l m : List IP}, l.Pairwise leP → m.Pairwise leP → l.Perm m → l = m
  | [], m, _, _, h => (List.Perm.eq_nil h.symm).symm
  | x :: l, [], _, _, h => absurd h.length_eq (by simp)
  | x :: l, y :: m, hl, hm, h => by
    obtain ⟨a1, a2⟩ := List.pairwise_cons.mp hl
    obtain ⟨b1, b2⟩ := List.pairwise_cons.mp hm
    have e : x = y := by
      rcases List.mem_cons.mp (h.mem_iff.mp (List.mem_cons_self (a := x) (l := l))) with e | hx
      · exact e
      · rcases List.mem_cons.mp (h.mem_iff.mpr (List.mem_cons_self (a := y) (l := m))) with e | hy
        · exact e.symm
        · have p := leP_iff.mp (a1 y hy)
          have q := leP_iff.mp (b1 x hx)
          exact Prod.ext (by omega) (by omega)
    subst e
    rw [sorted_one a2 b2 h.cons_inv]
/-! ### sorted(t), t a tuple -/
section
variable {prog : Program} {w : World} {A : Around} {E : Value → Shared → Prop} {s : Shared}
theorem sortT {t : Addr} {o : Obj} {vs : List Value} {n : Nat} {ltv : Value → Value → Bool} {Q : Value → Shared → Prop} (O : SrtO.Swo ltv) (ho : s.heap.get? t = some o) (hc : o.cls = .type "tuple") (hd : o.data = .seq vs.toArray n) (hz : vs.length ≤ sizeLine)
    (hS : 2 ≤ vs.length → ∀ (h₁ : Heap) (a : Addr), h₁.get? a = some (seqObj "list" vs.toArray 0) → (∀ b o, s.heap.get? b = some o → b ≠ a ∧ h₁.get? b = some o) → SrtO.SortableO prog w A.in1.in1 { s with heap := h₁ } a vs ltv)
    (h : ∀ (h1 h' : Heap) (out : List Value), SrtO.Srtd ltv out → SrtO.Stb ltv out vs → (∀ b o, s.heap.get? b = some o → h1.get? b = some o) → (∀ b o, h1.get? b = some o → h'.get? b = some o) → (∃ n, h'.get? h1.objs.size = some (seqObj "list" out.toArray n)) → Q (.ref h1.objs.size) { s with heap := h' }) :
    wpAny (model prog w) A (call (.builtin "sorted") [.ref t]) Q E s := by
  refine Calls.call_function_entry kind_sorted plain_sorted entry_sorted (args_sorted1 _) ?_
  unfold Builtin.«sorted»
  refine wpAny_bind (m := checkCount "sorted" 1 1 _) (wpAny_pure ?_)
  refine wpAny_bind (wpAny_collect_seq t (.inr rfl) ho hc hd (fun h1 hk => ?_) (by rw [List.size_toArray]; exact hz))
  have e : vs.toArray.toList = vs := by simp
  rw [e]
  refine wpAny_bind (wpAny_newList ?_ hz)
  have big : ∀ b o, h1.get? b = some o → b ≠ h1.objs.size := fun b o q => Nat.ne_of_lt (Heap.lt_size q)
  have here : (h1.push (seqObj "list" vs.toArray 0)).get? h1.objs.size = some (seqObj "list" vs.toArray 0) := Heap.get?_push_size _ rfl
  have keep : ∀ b o, s.heap.get? b = some o → b ≠ h1.objs.size ∧ (h1.push (seqObj "list" vs.toArray 0)).get? b = some o := fun b o q => ⟨big b o (hk b o q), Heap.get?_push_of_some _ (hk b o q)⟩
  show wpAny _ _ _ _ _ { s with heap := h1.push (seqObj "list" vs.toArray 0) }
  refine wpAny_bind (wpAny_holding (wpAny_call_entry slot_list_sort ⟨_, here, rfl⟩ entry_list_sort (SrtO.list_sort_ord O here hz (fun h2 => hS h2 _ _ here keep) fun out hs hb => ⟨_, rfl, ?_⟩) (args_list_sort _)))
  refine wpAny_pure ⟨_, rfl, h h1 _ out hs hb hk (fun b o q => ?_) (sortedHeap_at here)⟩
  have lt := Heap.lt_size q
  rw [sortedHeap_old (big b o q) (by rw [size_push']; exact Nat.lt_succ_of_lt lt)]
  exact Heap.get?_push_of_some _ q
end
section
variable {X : Cx}
theorem cr_sortedT : CallR X (.builtin "sorted") (fun vs H Q => ∃ (a : Addr) (xs : List V) (k : V → Int × Int), vs = [V.ref a] ∧ SqT X.K H a xs ∧ (∀ x ∈ xs, ∃ t, x = V.ref t ∧ H t = some (.tup [.int (k x).1, .int (k x).2])) ∧
    ∀ ys p, SrtO.Srtd (ltP k) ys → SrtO.Stb (ltP k) ys xs → H p = none → Q (.ref p) (upd H p (.lst ys))) := by
  intro pins s σ H vs us Q I r h
  obtain ⟨a, xs, k, rfl, hs, hx, q⟩ := h
  obtain ⟨its, rv, ht, hz⟩ := I.tuple hs
  obtain ⟨u, rfl, ru⟩ := vals1 r
  obtain rfl : u = Value.ref a := ru
  obtain ⟨e1, e2⟩ := refs_back rv fun x m => by
    obtain ⟨t, e, _⟩ := hx x m
    exact ⟨t, e⟩
  obtain ⟨o, ho, hc, n, hd⟩ := ht
  have hp : ∀ v ∈ its, Srt.IsPair s.heap v (k (backV v)).1 (k (backV v)).2 := fun v hv => by
    obtain ⟨t, rfl⟩ := e2 v hv
    have hm : V.ref t ∈ xs := by rw [e1]; exact List.mem_map.mpr ⟨_, hv, rfl⟩
    obtain ⟨t', e, ht⟩ := hx _ hm
    cases e
    obtain ⟨_, its2, r2, o, ho, hc, n, hd⟩ := I.hok _ _ ht
    obtain ⟨u1, u2, rfl, ri, rj⟩ := vals2 r2
    obtain ⟨t1, rfl⟩ := ri
    obtain ⟨t2, rfl⟩ := rj
    exact ⟨t, o, t1, t2, n, rfl, ho, hc, hd⟩
  refine sortT (SrtO.swo_lex fun u => k (backV u)) ho hc hd (by rw [← rv.length]; exact hz) (fun h2 h₁ a ha kk => ?_) fun h1 h' out s1 s2 k1 k2 hn => ?_
  · refine SrtO.pairs_sortableO (s := { s with heap := h₁ }) (by omega) (fun v hm => (hp v hm).keeps fun b o e _ => (kk b o e).2) fun o e => ?_
    have e' := e.symm.trans ha
    cases e'
    intro c
    exact absurd (Value.type.inj c) (by decide)
  · have h3 : ∀ u ∈ out, ∃ a, u = Value.ref a := fun u hu => e2 u (s2.perm.mem_iff.mp hu)
    obtain ⟨n, hn⟩ := hn
    have hb : SrtO.Stb (ltP k) (out.map backV) xs := by
      rw [e1]
      exact SrtO.Stb.map (ltP_swo k) backV s2
    have I1 : Inv X pins σ H { s with heap := h1 } := I.kept (t' := s.toks) k1
    refine ⟨.ref h1.objs.size, upd H h1.objs.size (.lst (out.map backV)), I1.laid (t' := s.toks) k2 (Nat.le_refl _) ⟨?_, out, n, vals_back h3, hn⟩, rfl, q _ _ (SrtO.srtd_map s1) hb (I1.hok.fresh (Nat.le_refl _))⟩
    rw [hb.perm.length_eq]
    exact hz
end
section
variable {C : MC} {g g1 : Gh} {H H1 : Hp} {s : MS} {σ : L2.St} {T : Tab}
def pairOf : M → Option IP
  | .tup [.int i, .int j] => some (i, j)
  | _ => none
def pairsOf : List M → Option (List IP)
  | [] => some []
  | m :: ms => match pairOf m, pairsOf ms with
    | some p, some ps => some (p :: ps)
    | _, _ => none
def pM (p : IP) : M := .tup [.int p.1, .int p.2]
/-- the two ints of a pair on the heap -/
def kOf (H : Hp) (x : V) : IP := match x with
  | .ref t => match H t with
    | some (.tup [.int i, .int j]) => (i, j)
    | _ => (0, 0)
  | _ => (0, 0)
theorem pairsOf_at : ∀ {ms : List M} {xs : List V} {ps : List IP}, RVs T g H ms xs → pairsOf ms = some ps → (∀ x ∈ xs, ∃ t, x = V.ref t ∧ H t = some (.tup [.int (kOf H x).1, .int (kOf H x).2])) ∧ xs.map (kOf H) = ps
  | [], _, _, .nil, h => by cases h; exact ⟨fun x hx => (nomatch hx), rfl⟩
  | m :: ms, x :: xs, _, .cons r rs, h => by
    unfold pairsOf at h
    split at h
    · rename_i p ps h1 h2
      cases h
      obtain ⟨a1, a2⟩ := pairsOf_at rs h2
      unfold pairOf at h1
      split at h1
      · rename_i i j
        cases h1
        cases r with
        | @tup a _ vs e rt =>
          cases rt with
          | cons ra rb =>
            cases rb with
            | cons rc rd =>
              cases rd; cases ra; cases rc
              have k : kOf H (.ref a) = (i, j) := by unfold kOf; dsimp only; rw [e]
              refine ⟨fun y hy => ?_, by rw [List.map_cons, a2, k]⟩
              rcases List.mem_cons.mp hy with rfl | hy
              · exact ⟨a, rfl, by rw [k]; exact e⟩
              · exact a1 y hy
      · cases h1
    · cases h
theorem pairs_rv : ∀ {ys : List V}, (∀ y ∈ ys, ∃ t, y = V.ref t ∧ H t = some (.tup [.int (kOf H y).1, .int (kOf H y).2])) → RVs T g H ((ys.map (kOf H)).map pM) ys
  | [], _ => .nil
  | y :: ys, h => by
    obtain ⟨t, e, ht⟩ := h y (List.mem_cons_self ..)
    refine .cons ?_ (pairs_rv fun z hz => h z (List.mem_cons_of_mem _ hz))
    generalize kOf H y = k at ht ⊢
    subst e
    exact .tup ht (.cons (.int _) (.cons (.int _) .nil))
def cSort (ms : List M) (s : MS) : Res M := match seqA s ms with
  | some xs => match pairsOf xs with
    | some ps => .ok (.lst ((srtP ps).map pM)) s
    | none => .stuck
  | none => .stuck
abbrev rSortA (K : PySem.W.Frag) : RC := fun vs H Q => (∃ (a : Addr) (xs : List V) (k : V → Int × Int), vs = [V.ref a] ∧ SqT K H a xs ∧ (∀ x ∈ xs, ∃ t, x = V.ref t ∧ H t = some (.tup [.int (k x).1, .int (k x).2])) ∧
    ∀ ys p, SrtO.Srtd (ltP k) ys → SrtO.Stb (ltP k) ys xs → H p = none → Q (.ref p) (upd H p (.lst ys))) ∨ rSortedPO K vs H Q
theorem cr_sortA {X : Cx} : CallR X (.builtin "sorted") (rSortA X.K) := CallR.alt cr_sortedT cr_sortedPO
theorem ok_sort : CallOk C (rSortA C.X.K) cSort := fun σ H g s ms xs Q r rs h => by
  unfold cSort at h
  split at h
  · rename_i ys hy
    split at h
    · rename_i ps hp
      obtain ⟨q, vs, rfl, hq, rv⟩ := seqA_at r rs hy
      obtain ⟨a1, a2⟩ := pairsOf_at rv hp
      have fin : ∀ zs p, SrtO.Srtd (ltP (kOf H)) zs → SrtO.Stb (ltP (kOf H)) zs vs → H p = none → Q (.ref p) (upd H p (.lst zs)) := fun zs p s1 s2 hn => by
        have e : zs.map (kOf H) = srtP ps := by
          refine sorted_one (List.pairwise_map.mpr s1) (srtP_sorted ps) (((s2.perm.map _).trans ?_).trans (srtP_perm ps).symm)
          rw [a2]
        have rz : RVs C.T g H ((srtP ps).map pM) zs := by
          rw [← e]
          exact pairs_rv fun y hy => a1 y (s2.perm.mem_iff.mp hy)
        exact h.newL r rz hn
      rcases hq with hq | hq
      · exact .inr ⟨q, vs, kOf H, rfl, hq, a1, fin⟩
      · exact .inl ⟨q, vs, kOf H, rfl, hq, a1, fin⟩
    · exact h.elim
  · exact h.elim
end
end Ma
/-! Ma50: str(i), join, texts with values in them, enumerate, zip. -/
namespace Ma
open L2 PySem.W PySem.Spec PySem PyProof.Rows
end Ma
/-! Ma51: small things that a text's readings name. -/
namespace Ma
open L2 PySem.W PySem.Spec PySem PyProof.Rows
theorem room1 {u : Nat} (h : u + 64 < cLine) : u + 1 < cLine := by omega
theorem room0 {u : Nat} (h : u + 64 < cLine) : u < cLine := by omega
section
variable {C : MC} {g g1 : Gh} {H H1 : Hp} {s : MS} {σ : L2.St} {ex : Expr} {a : ME} {pos : Pos} {T : Tab}
abbrev mAt (a : ME) (o : M → MS → Res M) : ME := fun s => (a s).bind o
abbrev mItems (a : ME) : ME := fun s => (a s).bind oItems
theorem op_neK {o : M → M → MS → Res M} (hu : C.X.A.units < cLine) (h : Op2Ok C (compareOp .NotEq) o) : Op2Ok C (compareOp .NotEq) (oEqK true o) := by
  intro pins sh σ H g ms m1 m2 x y v u Q I r r1 r2 l1 l2 q
  unfold oEqK at q
  split at q
  · rename_i ks ls h1 h2
    split at q
    · rename_i b hb
      obtain ⟨n, a, kvs, rfl, rfl, hro, e, rf⟩ := dictOf_at r h1 r1
      obtain ⟨n2, a2, kvs2, rfl, rfl, hro2, e2, rf2⟩ := dictOf_at r h2 r2
      cases (show v = Value.ref a from l1)
      cases (show u = Value.ref a2 from l2)
      obtain ⟨_, ya, va, ra, da⟩ := dk_rd I.hok e
      obtain ⟨_, yb, vb, rb, db⟩ := dk_rd I.hok e2
      refine keq_ne (knd := mixKind C.X.prog C.X.w) (r := b) ya yb da db hu (fun _ => eqD_hits rf2 rb rf ra hb) (fin_bl I (q.ret r (.bl _)) ?_)
      rw [rf.length, rf2.length, ra.length, rb.length]
      rfl
    · exact q.elim
  · exact h pins sh σ H g ms m1 m2 x y v u Q I r r1 r2 l1 l2 q
  · exact q.elim
end
end Ma
/-! Ma52: list(range(n)), bool(x) by an own `__len__`. -/
namespace Ma
open L2 PySem.W PySem.Spec PySem PyProof.Rows
section
variable {C : MC} {g g1 : Gh} {H H1 : Hp} {s : MS} {σ : L2.St} {ea eb ex : Expr} {es : List Expr} {a b : ME} {ma : MA} {pos p p2 pos2 : Pos} {x c name f : Str} {k : Nat} {F : Fn} {pins : List (Addr × Obj)} {sh : Shared} {T : Tab}
def pTru : M → Option M
  | .int i => if 0 ≤ i ∧ i < 9223372036854775808 then some (.bl (i != 0)) else none
  | _ => none
end
end Ma
/-! Ma53: dict displays. -/
namespace Ma
open L2 PySem.W PySem.Spec PySem PyProof.Rows
section
variable {C : MC} {g g1 : Gh} {H H1 : Hp} {s : MS} {σ : L2.St} {ea eb ex : Expr} {es : List Expr} {a b : ME} {pos p : Pos} {T : Tab} {ps : List (ME × ME)} {keys : List (Option Expr)} {values : List Expr}
abbrev rdPs (C : MC) (ps : List (ME × ME)) : List (TE × TE) := ps.map fun q => (rdE C q.1, rdE C q.2)
structure PMp (C : MC) (pos : Pos) (keys : List (Option Expr)) (values : List Expr) (ps : List (ME × ME)) : Prop where
  run : PPs C.X pos keys values (rdPs C ps)
theorem PMp.nil : PMp C pos [] [] [] := ⟨pps_nil⟩
theorem PMp.cons (ha : PMe C ea a) (hb : PMe C eb b) (h : PMp C pos keys values ps) : PMp C pos (some ea :: keys) (eb :: values) ((a, b) :: ps) := ⟨pps_cons ha hb h.run⟩
end
end Ma
/-! Ma54: a built-in value compared with an own instance: the own `__eq__` is asked; in of lists by it. -/
namespace Ma
open L2 PySem.W PySem.Spec PySem PyProof.Rows
end Ma
/-! Ma55: (a, b, ..) = a tuple or a list. -/
namespace Ma
open L2 PySem.W PySem.Spec PySem PyProof.Rows
section
variable {C : MC} {g g1 : Gh} {H H1 : Hp} {s : MS} {σ : L2.St} {pos p : Pos} {x c name f : Str}
def gUnpN (is : List Nat) : MG := fun w s => match w with
  | .lst ms => match setM is ms s.env with
    | some env' => .ok () ⟨env', s.hp⟩
    | none => .stuck
  | w => gTupN is w s
theorem setM_len : ∀ {is : List Nat} {ms : List M} {env env' : List (Option M)}, setM is ms env = some env' → ms.length = is.length
  | [], [], _, _, _ => rfl
  | [], _ :: _, _, _, z => by cases z
  | _ :: _, [], _, _, z => by cases z
  | _ :: is, _ :: ms, _, _, z => congrArg Nat.succ (setM_len (is := is) (ms := ms) z)
theorem gm_unpN {es : List Expr} {k : Nat} {is : List Nat} {n : Nat} (hc : C.X.calm = true) (h : PGs C.X es (gNs is)) (hl : is.length = n := by rfl)
    (hn : (assignEach es C.X.env).length = n := by rfl) (hst : (assignEach es C.X.env).findIdx? (·.1) = none := by rfl) : PMg C (.Tuple es k pos) (gUnpN is) := by
  refine ⟨fun pins sh σ H v u Q I l q => ?_⟩
  obtain ⟨g, s, w, r, rv, q1⟩ := q
  by_cases hw : ∃ ms, w = .lst ms
  · obtain ⟨ms, rfl⟩ := hw
    unfold gUnpN at q1
    dsimp only at q1
    cases he : setM is ms s.env with
    | none => rw [he] at q1; exact q1.elim
    | some env' =>
      rw [he] at q1
      cases rv with
      | @lst pa _ vs fz e rs =>
        exact (pg_unl (n := n) hc h hn hst).run pins sh σ H _ u Q I l ⟨pa, vs, rfl, .inl (.inl e), by rw [← rs.length, setM_len he, hl], ns_of (env := s.env) (hp := s.hp) r rs he fun σ' r' _ => q1 g H σ' (Mono.refl _ _) r'⟩
  · have e : gUnpN is w s = gTupN is w s := by
      cases w <;> first | rfl | exact absurd ⟨_, rfl⟩ hw
    rw [e] at q1
    exact (gm_tupN hc h hl hn hst).run pins sh σ H v u Q I l ⟨g, s, w, r, rv, q1⟩
end
end Ma
/-! Ma56: what a law's head tells of own classes: methods, properties, making, fields. -/
namespace Ma
open L2 PySem.W PySem.Spec PySem PyProof.Rows
/-- the head's hook, defs at any address -/
def obsP (fa : List He.Fa) (fn : List He5.DefA) (ni : List IniD) (ex : Frag → Bool) (K : Frag) : AlM :=
  ((fa.all fun f => f.ok K) && ((fn.all fun d => d.ok K) && ex K), fn.map fun d => He5.fnA K (d.at_ K), ni.map fun d => iniW K d.cls)
def valP (fn : List He5.DefA) (ni : List IniD) : AlM := (true, fn.map He5.DefA.val, ni.map IniD.val)
def SaysP (fa : List He.Fa) (fn : List He5.DefA) (ni : List IniD) (ex : Frag → Bool) (K : Frag) : Prop := obsP fa fn ni ex K = valP fn ni
section
variable {fa : List He.Fa} {fn : List He5.DefA} {ni : List IniD} {ex : Frag → Bool} {K : Frag}
theorem SaysP.d (c : SaysP fa fn ni ex K) : He5.SaysA fa fn K := by
  have h1 : ((fa.all fun f => f.ok K) && ((fn.all fun d => d.ok K) && ex K)) = true := congrArg (fun z : AlM => z.1) c
  have h2 : (fn.map fun d => He5.fnA K (d.at_ K)) = fn.map He5.DefA.val := congrArg (fun z : AlM => z.2.1) c
  obtain ⟨a, b⟩ := Bool.and_eq_true_iff.mp h1
  obtain ⟨b, _⟩ := Bool.and_eq_true_iff.mp b
  show (((fa.all fun f => f.ok K) && fn.all fun d => d.ok K), fn.map fun d => He5.fnA K (d.at_ K)) = (true, fn.map He5.DefA.val)
  rw [h2, a, b]; rfl
theorem SaysP.more (c : SaysP fa fn ni ex K) : ex K = true := by
  have h1 : ((fa.all fun f => f.ok K) && ((fn.all fun d => d.ok K) && ex K)) = true := congrArg (fun z : AlM => z.1) c
  exact (Bool.and_eq_true_iff.mp (Bool.and_eq_true_iff.mp h1).2).2
theorem SaysP.ini (c : SaysP fa fn ni ex K) {d : IniD} (h : d ∈ ni) : iniW K d.cls = d.val := by
  have h2 : (ni.map fun d => iniW K d.cls) = ni.map IniD.val := congrArg (fun z : AlM => z.2.2) c
  obtain ⟨i, hi, e⟩ := List.mem_iff_getElem.mp h
  have h3 : (ni.map fun d => iniW K d.cls)[i]? = (ni.map IniD.val)[i]? := by rw [h2]
  rw [List.getElem?_map, List.getElem?_map, List.getElem?_eq_getElem hi, e] at h3
  exact Option.some.inj h3
end
/-! ### a class's facts as Bools -/
section
variable {K : Frag} {C : Addr}
def clsB (K : Frag) (C : Addr) : Bool := plainGet K C Str.empty && (hasDictIn K C && (plainOver K C && eqb (findIn K (.ref C) "__setattr__") (some (some (.builtin "object.__setattr__")))))
theorem clsB_ok (h : clsB K C = true) : Cls K C := by
  obtain ⟨h1, h⟩ := Bool.and_eq_true_iff.mp h
  obtain ⟨h2, h⟩ := Bool.and_eq_true_iff.mp h
  obtain ⟨h3, h4⟩ := Bool.and_eq_true_iff.mp h
  exact ⟨h1, h2, h3, eqb_ok h4⟩
def insB (K : Frag) (C : Addr) : Bool := clsB K C && (eqb (findIn K (.ref C) "__class__") (some (some (.builtin "object.__class__"))) && (eqb (specialIn K (.builtin "object.__class__") "__get__") (some (some (.builtin "getset_descriptor.__get__"))) && (decide (takesIn K (.builtin "object.__class__") = some true) && decide (mroIn K C (.type "object") = some true))))
theorem insB_ok (h : insB K C = true) : InsK K C := by
  obtain ⟨h1, h⟩ := Bool.and_eq_true_iff.mp h
  obtain ⟨h2, h⟩ := Bool.and_eq_true_iff.mp h
  obtain ⟨h3, h⟩ := Bool.and_eq_true_iff.mp h
  obtain ⟨h4, h5⟩ := Bool.and_eq_true_iff.mp h
  exact ⟨clsB_ok h1, eqb_ok h2, eqb_ok h3, of_decide_eq_true h4, of_decide_eq_true h5⟩
def mkB (K : Frag) (C : Addr) : Bool := makesIn K C && (eqb (findIn K (.ref C) "__init__") (some (some (.ref (He.ma K C "__init__")))) && (isFn K (.ref (He.ma K C "__init__")) && keepIn K (.ref C)))
theorem mkB_ok (h : mkB K C = true) : Mk K C (He.ma K C "__init__") := by
  obtain ⟨h1, h⟩ := Bool.and_eq_true_iff.mp h
  obtain ⟨h2, h⟩ := Bool.and_eq_true_iff.mp h
  obtain ⟨h3, h4⟩ := Bool.and_eq_true_iff.mp h
  exact ⟨h1, eqb_ok h2, h3, h4⟩
def propB (K : Frag) (C : Addr) (f : Str) : Bool := eqb (findIn K (.ref C) f) (some (some (.ref (He.ma K C f)))) && (eqb (specialIn K (.ref (He.ma K C f)) "__get__") (some (some (.builtin "property.__get__"))) &&
  (decide (takesIn K (.ref (He.ma K C f)) = some true) && (match recIn K (He.ma K C f) "property" with
    | some (.ref _ :: _) => true
    | _ => false)))
theorem propB_ok {f : Str} (h : propB K C f = true) : PropOf K C f (He.ma K C f) (He5.wf K C "property" f) := by
  obtain ⟨h1, h⟩ := Bool.and_eq_true_iff.mp h
  obtain ⟨h2, h⟩ := Bool.and_eq_true_iff.mp h
  obtain ⟨h3, h4⟩ := Bool.and_eq_true_iff.mp h
  refine ⟨eqb_ok h1, eqb_ok h2, of_decide_eq_true h3, ?_⟩
  unfold He5.wf
  split at h4
  · rename_i g rest e
    rw [e]
    exact ⟨rest, rfl⟩
  · cases h4
def noB (K : Frag) (C : Addr) (f : Str) : Bool := eqb (findIn K (.ref C) f) (some none)
theorem noB_ok {f : Str} (h : noB K C f = true) : NoAttr K C f := eqb_ok h
end
section
variable {tb : List (Addr × Str)} {K : Frag} {cs : List Str} {c : Str} {P : Program} {w : World} {mg : Str → Option Value} {base : Heap} {k : Nat} {F : Fn}
theorem knT_of (hc : cs.contains c = true) (hg : mg c = some (.ref (He.ga K c))) (h : mkB K (He.ga K c) = true) (fp : FnP P w mg base ⟨K, adOf K cs, tb⟩ k (He.ma K (He.ga K c) "__init__") F) : KnT P w mg base ⟨K, adOf K cs, tb⟩ c k F :=
  ⟨_, _, adOf_mem hc, hg, mkB_ok h, fp⟩
theorem prK_of {f : Str} (h0 : clsB K (He.ga K c) = true) (h : propB K (He.ga K c) f = true) (fp : FnP P w mg base ⟨K, adOf K cs, tb⟩ k (He5.wf K (He.ga K c) "property" f) F) : PrK ⟨K, adOf K cs, tb⟩ c f P w mg base k F := ⟨fun A e => by
  rw [adOf_at (show adOf K cs c = some A from e)]
  exact ⟨clsB_ok h0, _, _, propB_ok h, fp⟩⟩
theorem fldC_of {f : Str} (h0 : clsB K (He.ga K c) = true) (h : noB K (He.ga K c) f = true) : FldC ⟨K, adOf K cs, tb⟩ c f := ⟨fun A e => by
  rw [adOf_at (show adOf K cs c = some A from e)]
  exact ⟨clsB_ok h0, noB_ok h⟩⟩
end
end Ma
/-! Ma57: data that can be shown and compared, with sizes. -/
namespace Ma
open L2 PySem.W PySem.Spec PySem PyProof.Rows
/-- plain signs alone -/
def lowS (x : Str) : Prop := ∀ c ∈ x.cps.toList, c < 128
theorem cps_append (a b : Str) : (a ++ b).cps.toList = a.cps.toList ++ b.cps.toList := by
  show (a.cps ++ b.cps).toList = _
  simp
theorem lowS_append {a b : Str} (ha : lowS a) (hb : lowS b) : lowS (a ++ b) := fun c h => by
  rw [cps_append, List.mem_append] at h
  exact h.elim (ha c) (hb c)
theorem lowS_int (i : Int) : lowS (Str.ofString (toString i)) := fun c h => by
  have e := signs_ofString (toString i)
  rw [e] at h
  obtain ⟨ch, hm, rfl⟩ := List.mem_map.mp h
  rcases int_sign i ch hm with h1 | rfl
  · have := digit_range h1; omega
  · decide
def lowB (x : Str) : Bool := x.cps.toList.all fun c => decide (c < 128)
theorem lowS_of {x : Str} (h : lowB x = true) : lowS x := fun c hc => of_decide_eq_true (List.all_eq_true.mp h c hc)
theorem lowS_empty : lowS Str.empty := fun c h => by
  have e : (Str.empty).cps.toList = [] := rfl
  rw [e] at h; cases h
theorem lowS_join {sep : Str} (hs : lowS sep) : ∀ {ts : List Str}, (∀ t ∈ ts, lowS t) → lowS (Str.join sep ts)
  | [], _ => by rw [join_nil]; exact lowS_empty
  | [x], h => by rw [join_one]; exact h x (by simp)
  | x :: y :: r, h => by
    rw [join_cons_cons]
    exact lowS_append (lowS_append (h x (by simp)) hs) (lowS_join hs fun t ht => h t (by simp [ht]))
theorem lowS_from : ∀ {ts : List Str} {k : Nat} {acc : Str}, lowS acc → (∀ t ∈ ts, lowS t) → lowS (textFrom k acc ts)
  | [], k, acc, ha, _ => ha
  | t :: ts, k, acc, ha, h => by
    refine lowS_from (k := k + 1) (lowS_append (lowS_append ha ?_) (h t (by simp))) fun u hu => h u (by simp [hu])
    split
    · exact lowS_of (by decide +kernel)
    · exact lowS_of (by decide +kernel)
theorem lowS_list {ts : List Str} (h : ∀ t ∈ ts, lowS t) : lowS (listText ts) := lowS_append (lowS_from (lowS_of (by decide +kernel)) h) (lowS_of (by decide +kernel))
theorem lowS_tuple {ts : List Str} (h : ∀ t ∈ ts, lowS t) : lowS (tupleText ts) := by
  unfold tupleText
  refine lowS_append (lowS_append (lowS_of (by decide +kernel)) (lowS_join (lowS_of (by decide +kernel)) h)) ?_
  split
  · exact lowS_of (by decide +kernel)
  · exact lowS_of (by decide +kernel)
theorem reprChar_low : ∀ c : Fin 128, (∀ x ∈ Builtin.Str.reprChar 34 c.val, x < 128) ∧ ∀ x ∈ Builtin.Str.reprChar 39 c.val, x < 128 := by decide +kernel
theorem lowS_repr {x : Str} (h : lowS x) : lowS (reprText x) := by
  have q : reprQuote x = 34 ∨ reprQuote x = 39 := by unfold reprQuote; split <;> simp
  have go : ∀ (l : List Nat) (acc : Array Nat), (∀ c ∈ acc.toList, c < 128) → (∀ c ∈ l, c < 128) → ∀ c ∈ (l.foldl (fun out c => out ++ (Builtin.Str.reprChar (reprQuote x) c).toArray) acc).toList, c < 128 := by
    intro l
    induction l with
    | nil => intro acc ha _; exact ha
    | cons p l ih =>
      intro acc ha hl
      refine ih _ (fun c hc => ?_) fun t ht => hl t (by simp [ht])
      rw [Array.toList_append, List.mem_append] at hc
      rcases hc with hc | hc
      · exact ha c hc
      · have hp := hl p (by simp)
        have e := reprChar_low ⟨p, hp⟩
        have hc : c ∈ Builtin.Str.reprChar (reprQuote x) p := by simpa using hc
        rcases q with q | q
        · rw [q] at hc; exact e.1 c hc
        · rw [q] at hc; exact e.2 c hc
  intro c hc
  unfold reprText at hc
  have hc : c ∈ ((x.cps.foldl (fun out c => out ++ (Builtin.Str.reprChar (reprQuote x) c).toArray) #[reprQuote x]).push (reprQuote x)).toList := hc
  have ql : reprQuote x < 128 := by rcases q with q | q <;> rw [q] <;> decide
  rw [Array.toList_push, List.mem_append, ← Array.foldl_toList] at hc
  rcases hc with hc | hc
  · exact go x.cps.toList _ (fun c hc => by simp at hc; rw [hc]; exact ql) h c hc
  · simp at hc; rw [hc]; exact ql
/-- data of depth at most k and weight at most w, all of it plain -/
structure Okd (d : PyData) (k w : Nat) : Prop where
  sh : d.showable = true
  nd : d.hasDict = false
  dep : d.depth ≤ k
  lay : d.canLay0 = true
  leaf : d.leavesShort 64 = true
  wt : d.weight ≤ w
  low : lowS d.shown
theorem Okd.le {d : PyData} {k w k' w' : Nat} (h : Okd d k w) (hk : k ≤ k') (hw : w ≤ w') : Okd d k' w' := ⟨h.sh, h.nd, Nat.le_trans h.dep hk, h.lay, h.leaf, Nat.le_trans h.wt hw, h.low⟩
theorem log2_small {i : Int} (h : i.natAbs < 10 ^ 40) : i.natAbs.log2 < 1920 := by
  by_cases h0 : i.natAbs = 0
  · rw [h0]; decide
  · have h2 : i.natAbs < 2 ^ 1920 := Nat.lt_of_lt_of_le h (by decide +kernel)
    exact (Nat.log2_lt h0).mpr h2
theorem Okd.int {i : Int} (h : i.natAbs < 10 ^ 40) : Okd (.int i) 0 140 := by
  refine ⟨decide_eq_true (log2_small h), rfl, Nat.le_refl _, rfl, decide_eq_true ?_, ?_, lowS_int i⟩
  rotate_left
  · simp only [PyData.weight]
    split
    · omega
    · rename_i h0
      have h2 : i.natAbs < 2 ^ 139 := Nat.lt_of_lt_of_le h (by decide +kernel)
      have h3 := (Nat.log2_lt (n := i.natAbs) (k := 139) (by simpa using h0)).mpr h2
      omega
  have e := int_text_length_le10 (a := i) (k := 40) (by decide) h
  show (Str.ofString (toString i)).length ≤ 64
  rw [PySem.ofString_length]; omega
theorem Okd.bl (b : Bool) : Okd (.bool b) 0 0 := ⟨rfl, rfl, Nat.le_refl _, rfl, rfl, Nat.le_refl _, by cases b <;> exact lowS_of (by decide +kernel)⟩
theorem Okd.non : Okd .none 0 0 := ⟨rfl, rfl, Nat.le_refl _, rfl, rfl, Nat.le_refl _, lowS_of (by decide +kernel)⟩
theorem strOk_low {x : Str} (h : lowS x) : PyData.strOk x = true := by
  unfold PyData.strOk
  rw [← Array.all_toList]
  exact List.all_eq_true.mpr fun c hc => decide_eq_true (by have := h c hc; omega)
theorem Okd.str {x : Str} (h : lowS x) : Okd (.str x) 0 x.length :=
  ⟨rfl, rfl, Nat.le_refl _, strOk_low h, List.all_eq_true.mpr fun c hc => decide_eq_true (by have := h c hc; omega), Nat.le_refl _, lowS_repr h⟩
structure Oks (ds : List PyData) (k w : Nat) : Prop where
  sh : PyData.showableAll ds = true
  nd : PyData.hasDictAll ds = false
  dep : PyData.depthAll ds ≤ k
  lay : PyData.canLayAll0 ds = true
  leaf : PyData.leavesShortAll 64 ds = true
  wt : PyData.weightAll ds ≤ w
  low : ∀ t ∈ PyData.shownAll ds, lowS t
theorem Oks.nil {k w : Nat} : Oks [] k w := ⟨rfl, rfl, Nat.zero_le _, rfl, rfl, Nat.zero_le _, fun t h => by simp [PyData.shownAll] at h⟩
theorem Oks.cons {d : PyData} {ds : List PyData} {k w v : Nat} (h : Okd d k w) (r : Oks ds k v) : Oks (d :: ds) k (w + 1 + v) := by
  refine ⟨?_, ?_, ?_, ?_, ?_, ?_, ?_⟩
  · simp [PyData.showableAll, h.sh, r.sh]
  · simp [PyData.hasDictAll, h.nd, r.nd]
  · have h1 := h.dep; have h2 := r.dep
    simp only [PyData.depthAll]
    omega
  · simp [PyData.canLayAll0, h.lay, r.lay]
  · simp [PyData.leavesShortAll, h.leaf, r.leaf]
  · have h1 := h.wt; have h2 := r.wt
    simp only [PyData.weightAll]
    omega
  · intro t ht
    simp only [PyData.shownAll, List.mem_cons] at ht
    rcases ht with rfl | ht
    · exact h.low
    · exact r.low t ht
theorem Oks.le {ds : List PyData} {k w k' w' : Nat} (h : Oks ds k w) (hk : k ≤ k') (hw : w ≤ w') : Oks ds k' w' := ⟨h.sh, h.nd, Nat.le_trans h.dep hk, h.lay, h.leaf, Nat.le_trans h.wt hw, h.low⟩
theorem Oks.all {k w : Nat} : ∀ {ds : List PyData}, (∀ d ∈ ds, Okd d k w) → Oks ds k (ds.length * (w + 1))
  | [], _ => Oks.nil
  | d :: ds, h => by
    have e : (d :: ds).length * (w + 1) = w + 1 + ds.length * (w + 1) := by rw [List.length_cons, Nat.succ_mul]; omega
    rw [e]
    exact Oks.cons (h d (by simp)) (Oks.all fun x hx => h x (by simp [hx]))
theorem Okd.list {ds : List PyData} {k w : Nat} (h : Oks ds k w) : Okd (.list ds) (k + 1) w := ⟨h.sh, h.nd, Nat.succ_le_succ h.dep, h.lay, h.leaf, h.wt, lowS_list h.low⟩
theorem Okd.tuple {ds : List PyData} {k w : Nat} (h : Oks ds k w) : Okd (.tuple ds) (k + 1) w := ⟨h.sh, h.nd, Nat.succ_le_succ h.dep, h.lay, h.leaf, h.wt, lowS_tuple h.low⟩
theorem Okd.len {d : PyData} {k w : Nat} (h : Okd d k w) : d.shown.length ≤ 66 * w + 64 := by
  have e := PyData.shown_le 64 (by decide) d h.leaf
  have := h.wt
  have e2 : 66 * d.weight ≤ 66 * w := Nat.mul_le_mul_left _ this
  omega
theorem cRepr_seq {m : M} {s : MS} {d : PyData} {k w : Nat} (hd : datT s.hp m = some d) (hs : isSeqD d = true) (h : Okd d k w) (hk : k ≤ 64) (hw : w ≤ 200000) : cRepr [m] s = .ok (.str d.shown) s := by
  have e : (isSeqD d && d.showable && !d.hasDict && decide (d.depth ≤ 64) && decide (d.shown.length ≤ sizeLine)) = true := by
    have l := h.len
    have h1 : d.depth ≤ 64 := Nat.le_trans h.dep hk
    have h2 : d.shown.length ≤ sizeLine := by rw [sizeLine_eq]; omega
    rw [hs, h.sh, h.nd, decide_eq_true h1, decide_eq_true h2]; rfl
  cases m with
  | int i =>
    have hd : some (PyData.int i) = some d := hd
    cases hd
    cases hs
  | _ =>
    unfold cRepr
    dsimp only
    rw [hd]
    dsimp only
    rw [if_pos e]
theorem oEqD_str {x y : Str} {neg : Bool} {s : MS} (hx : lowS x) (hy : lowS y) : oEqD neg (.str x) (.str y) s = .ok (.bl (if neg then !(x == y) else (x == y))) s := by
  have e : ∀ z : Str, lowS z → SeqAt.shaped (.str z) = true := fun z hz => by
    unfold SeqAt.shaped
    rw [show PyData.canLay0 (.str z) = true from strOk_low hz]; rfl
  unfold oEqD
  simp only [datT, dat]
  rw [e x hx, e y hy]
  simp [PyData.eqv]
end Ma
/-! Ma58: pairs of ints as rows, as dicts, sorted. -/
namespace Ma
open L2 PySem.W PySem.Spec PySem PyProof.Rows
/-- a dict of ints -/
abbrev dm (ps : List IP) : List (Key × M) := ps.map fun p => (.inl p.1, .int p.2)
abbrev rm (ps : List IP) : List M := ps.map pM
abbrev keysP (ps : List IP) : List Int := ps.map (·.1)
def updP (ps : List IP) (k v : Int) : List IP := ps.map fun p => if p.1 = k then (p.1, v) else p
theorem pairsOf_rm : ∀ ps : List IP, pairsOf (rm ps) = some ps
  | [] => rfl
  | p :: ps => by
    show (match pairOf (pM p), pairsOf (rm ps) with | some p, some ps => some (p :: ps) | _, _ => none) = _
    rw [pairsOf_rm ps]; rfl
theorem pairsM_rm : ∀ ps : List IP, pairsM (rm ps) = some (dm ps)
  | [] => rfl
  | p :: ps => by
    show (match pairM (pM p), pairsM (rm ps) with | some p, some ps => some (p :: ps) | _, _ => none) = _
    rw [pairsM_rm ps]; rfl
theorem any_dm (k : Int) (ps : List IP) : ((dm ps).any fun kv => decide (kv.1 = (.inl k : Key))) = decide (k ∈ keysP ps) := by
  rw [Bool.eq_iff_iff, List.any_eq_true, decide_eq_true_iff, List.mem_map]
  constructor
  · rintro ⟨kv, hm, e⟩
    obtain ⟨p, hp, rfl⟩ := List.mem_map.mp hm
    exact ⟨p, hp, Sum.inl.inj (of_decide_eq_true e)⟩
  · rintro ⟨p, hp, rfl⟩
    exact ⟨_, List.mem_map.mpr ⟨p, hp, rfl⟩, decide_eq_true rfl⟩
theorem putG_new {ps : List IP} {k v : Int} (h : k ∉ keysP ps) : putG (dm ps) (.inl k) (.int v) = dm (ps ++ [(k, v)]) := by
  unfold putG
  rw [any_dm, if_neg (by simpa using h)]
  simp [dm]
theorem mergeM_dm : ∀ {qs ps : List IP}, (keysP (ps ++ qs)).Nodup → mergeM (dm ps) (dm qs) = dm (ps ++ qs)
  | [], ps, _ => by simp [mergeM]
  | q :: qs, ps, h => by
    have hq : q.1 ∉ keysP ps := by
      intro hm
      rw [keysP, List.map_append, List.nodup_append] at h
      exact h.2.2 q.1 hm q.1 (by simp) rfl
    show mergeM (putG (dm ps) (.inl q.1) (.int q.2)) (dm qs) = _
    rw [putG_new hq]
    have e : ps ++ q :: qs = (ps ++ [(q.1, q.2)]) ++ qs := by simp
    rw [e] at h ⊢
    exact mergeM_dm h
/-! ### sorted -/
def Srt (ps : List IP) : Prop := ps.Pairwise fun p q => p.1 < q.1
theorem Srt.one : ∀ {ps qs : List IP}, Srt ps → Srt qs → ps.Perm qs → ps = qs
  | [], qs, _, _, h => (List.nil_perm.mp h).symm
  | p :: ps, [], _, _, h => (List.cons_ne_nil _ _ (List.perm_nil.mp h)).elim
  | p :: ps, q :: qs, h1, h2, h => by
    obtain ⟨a1, b1⟩ := List.pairwise_cons.mp h1
    obtain ⟨a2, b2⟩ := List.pairwise_cons.mp h2
    have e : p = q := by
      have m1 : p ∈ q :: qs := h.mem_iff.mp (by simp)
      have m2 : q ∈ p :: ps := h.mem_iff.mpr (by simp)
      rcases List.mem_cons.mp m1 with e | m1
      · exact e
      · rcases List.mem_cons.mp m2 with e | m2
        · exact e.symm
        · have := a1 q m2; have := a2 p m1; omega
    subst e
    rw [Srt.one b1 b2 ((List.perm_cons p).mp h)]
theorem Srt.upd {ps : List IP} (h : Srt ps) (k v : Int) : Srt (updP ps k v) := by
  unfold Srt updP
  rw [List.pairwise_map]
  refine h.imp fun {a b} q => ?_
  have e1 : (if a.1 = k then (a.1, v) else a).1 = a.1 := by split <;> rfl
  have e2 : (if b.1 = k then (b.1, v) else b).1 = b.1 := by split <;> rfl
  rw [e1, e2]; exact q
end Ma
/-! Ma59: the machine's loops by invariants. -/
namespace Ma
open L2 PySem.W PySem.Spec PySem PyProof.Rows
theorem seq_nx {a b : MStm} {s s1 : MS} (h : a s = .ok .nx s1) : sSeq a b s = b s1 := by unfold sSeq; rw [h]; rfl
theorem set_of {i : Nat} {e : ME} {s s1 : MS} {m : M} (h : e s = .ok m s1) : sSet i e s = .ok .nx ⟨s1.env.set i (some m), s1.hp⟩ := by unfold sSet; rw [h]; rfl
theorem mcons_of {a : ME} {b : MA} {s s1 s2 : MS} {x : M} {xs : List M} (h : a s = .ok x s1) (h2 : b s1 = .ok xs s2) : mCons a b s = .ok (x :: xs) s2 := by unfold mCons; rw [h]; show (b s1).bind _ = _; rw [h2]; rfl
theorem if_of {t : MT} {a b : MStm} {s s1 : MS} {k : Bool} (h : t s = .ok k s1) : sIf t a b s = if k = true then a s1 else b s1 := by unfold sIf; rw [h]; rfl
theorem body_nx {n len : Nat} {b : MStm} {args : List M} {hp : List Cell} {s' : MS} (h : b ⟨args.map some ++ List.replicate (len - n) none, hp⟩ = .ok .nx s') : bodyF n len b args hp = .ok .non s'.hp := by unfold bodyF; rw [h]
theorem body_rt {n len : Nat} {b : MStm} {args : List M} {hp : List Cell} {s' : MS} {m : M} (h : b ⟨args.map some ++ List.replicate (len - n) none, hp⟩ = .ok (.rt m) s') : bodyF n len b args hp = .ok m s'.hp := by unfold bodyF; rw [h]
theorem ret_of {e : ME} {s s1 : MS} {m : M} (h : e s = .ok m s1) : sRet e s = .ok (.rt m) s1 := by unfold sRet; rw [h]; rfl
theorem call_of {ma : MA} {o : List M → MS → Res M} {s s1 : MS} {ms : List M} {r : Res M} (h : ma s = .ok ms s1) (ho : o ms s1 = r) : mCall ma o s = r := by unfold mCall; rw [h]; exact ho
theorem m2_of {o : M → M → MS → Res M} {a b : ME} {s s1 s2 : MS} {x y : M} {r : Res M} (h : a s = .ok x s1) (h2 : b s1 = .ok y s2) (ho : o x y s2 = r) : m2 o a b s = r := by unfold m2; rw [h]; show (b s1).bind _ = _; rw [h2]; exact ho
theorem b_of {a : ME} {s s1 : MS} {b : Bool} (h : a s = .ok (.bl b) s1) : mB a s = .ok b s1 := by unfold mB; rw [h]; rfl
theorem not_of {t : MT} {s s1 : MS} {b : Bool} (h : t s = .ok b s1) : mNot t s = .ok (!b) s1 := by unfold mNot; rw [h]; rfl
theorem mone {a : ME} {s s1 : MS} {x : M} (h : a s = .ok x s1) : mCons a mNil s = .ok [x] s1 := mcons_of h rfl
theorem for_of {it : MI} {tg : MG} {b : MStm} {s s1 : MS} {xs : List M} {r : Res Fl} (h : it s = .ok xs s1) (h2 : sFor tg b xs s1 = r) : sForI it tg b s = r := by unfold sForI; rw [h]; exact h2
theorem andv_t {a b : ME} {s s1 : MS} (h : a s = .ok (.bl true) s1) : mAndV a b s = b s1 := by unfold mAndV; rw [h]; rfl
theorem andv_f {a b : ME} {s s1 : MS} (h : a s = .ok (.bl false) s1) : mAndV a b s = .ok (.bl false) s1 := by unfold mAndV; rw [h]; rfl
theorem notv_of {a : ME} {s s1 : MS} {b : Bool} (h : a s = .ok (.bl b) s1) : mNotV a s = .ok (.bl (!b)) s1 := by unfold mNotV; rw [h]; rfl
theorem at_of {a : ME} {o : M → MS → Res M} {s s1 : MS} {x : M} (h : a s = .ok x s1) : mAt a o s = o x s1 := by unfold mAt; rw [h]; rfl
theorem or_f {t u : MT} {s s1 : MS} (h : t s = .ok false s1) : mOr t u s = u s1 := by unfold mOr; rw [h]; rfl
theorem and_f {t u : MT} {s s1 : MS} (h : t s = .ok false s1) : mAnd t u s = .ok false s1 := by unfold mAnd; rw [h]; rfl
theorem mv_of {i : Nat} {s : MS} {m : M} (h : s.env[i]? = some (some m)) : mv i s = .ok m s := by unfold mv; rw [h]
theorem par2_of {i j : Nat} {ma : MA} {s s1 : MS} {u v : M} (h : ma s = .ok [u, v] s1) : sPar2 i j ma s = .ok .nx ⟨(s1.env.set i (some u)).set j (some v), s1.hp⟩ := by unfold sPar2; rw [h]; rfl
end Ma
/-! Ma60: raise X(..). -/
namespace Ma
open L2 PySem.W PySem.Spec PySem PyProof.Rows
section
variable {C : MC} {g g1 : Gh} {H H1 : Hp} {s : MS} {σ : L2.St} {ex : Expr} {es : List Expr} {ma : MA} {pos p pos' : Pos} {x n : Str} {A : Addr} {fs : List Str} {pt : List Pt}
/-- its instances may be raised -/
structure RaiK (K : Frag) (A : Addr) : Prop where
  sub : subIn K (.ref A) (.type "BaseException") = some true
  ty : typeIn K (.ref A) = some (.type "type")
theorem RaiK.raises {X : Cx} (k : RaiK X.K A) : Raises X (.ref A) := raises_own k.sub k.ty
/-- raise X(e, ..), X without an `__init__` -/
def sRai (n : Str) (ma : MA) : MStm := fun s => (ma s).bind fun ms s1 => if ms.length ≤ big then .err ⟨n, [], []⟩ s1 else .stuck
theorem pmk_exc (E : ExK C.T.K A) (R : RaiK C.T.K A) (hm : C.X.mg x = some (.ref A)) (ha : PMa C (ex :: es) ma)
    (hg : Gl C.X x := by rfl) (hdb : (x == ("__debug__" : Str)) = false := by decide) (he : starEach (ex :: es) C.X.env = (false, eval ex C.X.env) :: starEach es C.X.env := by rfl) (hpl : (backTo pos (starEach es C.X.env)).any (·.1) = false := by rfl) :
    PMk C.X (.Call (.Name x p) (ex :: es) [] pos) (fun σ H Q => rdA C ma σ H fun vs H1 => vs.length ≤ big ∧ Q (.ref A) none H1) := by
  intro pins sh σ H Q I h
  refine wpAny_Call_Name_kw (ld_glob I hg hm ?_ hdb)
  refine callWith_K (h₀ := C.X.base) I.ok.mod.kin (C.hK ▸ E.kp) (thn (ha.run pos pins sh σ H _ I h) fun us s1 hh => ?_) he hpl
  obtain ⟨vs, H1, I1, rv, hl, q⟩ := hh
  refine ⟨I1.kIn, ?_⟩
  have kin : C.T.K.In s1.heap := C.hK ▸ I1.kIn
  obtain ⟨nm, N, qn, bs, bm, hdct, sn, sub, ab, col, dd, k0, k1, k2, k3, k5, hc, hbm⟩ := excInit_of kin E.ex
  have hlen : us.length ≤ sizeLine := by
    have e2 : vs.length = us.length := rv.length
    have e3 : big ≤ sizeLine := by decide +kernel
    omega
  obtain ⟨hp, gs, d, t, os⟩ := s1
  show wpAny _ _ (call (.ref A) us) _ _ _
  refine call_B PySem.F.excBase_ValueError hbm hc (looks_findIn kin E.ini) hlen fun h' keep hex ht => ?_
  exact ⟨hp.objs.size + 1, _, _, ⟨hp, gs, d, t, os⟩, H1, .ref A, none, rfl, I1, keep, by simp [Heap.get?], hex, ⟨rfl, rfl⟩, rfl, rfl, I1.hok.fresh (Nat.le_succ _), rfl, I1.bare, RaiK.raises (X := C.X) (C.hK ▸ R), q⟩
theorem sm_rai (hc : C.X.calm = true) (tk : Takes C.X C.W) (E : ExK C.T.K A) (R : RaiK C.T.K A) (ad : C.T.ad n = some A) (hm : C.X.mg x = some (.ref A)) (ha : PMa C (ex :: es) ma)
    (hg : Gl C.X x := by rfl) (hdb : (x == ("__debug__" : Str)) = false := by decide) (he : starEach (ex :: es) C.X.env = (false, eval ex C.X.env) :: starEach es C.X.env := by rfl) (hpl : (backTo pos (starEach es C.X.env)).any (·.1) = false := by rfl) :
    PMs C (.Raise (some (.Call (.Name x p) (ex :: es) [] pos)) none pos') (sRai n ma) :=
  wkS (ps_raise hc tk (pmk_exc E R hm ha hg hdb he hpl)) fun D σ H h => by
    obtain ⟨g, s, r, q⟩ := rdA_bindS h
    refine ⟨g, s, r, q.imp ?_⟩
    rintro xs H1 ⟨ms, s1, g1, r1, rs, q1⟩
    by_cases hl : ms.length ≤ big
    · rw [if_pos hl] at q1
      exact ⟨by rw [← rs.length]; exact hl, q1 g1 H1 σ (.ref A) none (Mono.refl _ _) r1 ⟨A, ad, rfl, rfl, rfl⟩⟩
    · rw [if_neg hl] at q1; exact q1.elim
end
end Ma
/-! Ma61: a lambda made: its code object is kept in its maker's table. -/
namespace Ma
open L2 PySem.Spec PySem PyProof.Rows
end Ma
/-! Ma62: the lambda called by the def that got it. -/
namespace Ma
open L2 PySem.Spec PySem PyProof.Rows
end Ma
/-! Ma63: within an except suite: the exception at hand; defs called there that do not raise. -/
namespace Ma
open L2 PySem.Spec PySem PyProof.Rows
/-! ### a field of the exception at hand -/
/-! ### defs that do not raise, called in an except suite -/
/-- the exception handed over -/
structure Hand (T : Tab) (g : Gh) (H : Hp) (p : Addr × Obj) (c : Str) : Prop where
  ex : ∃ (A : Addr) (d : Option Addr), T.ad c = some A ∧ L2.ExcC T.K A ∧ Zc (.ref A) d p.2 ∧ (∃ vs, p.2.data = .fields vs) ∧ match d with
    | none => True
    | some dx => dx ∉ g.ro ∧ ∃ fs, H dx = some (.xd fs)
/-- a def of one argument, the exception at hand -/
structure FnW (P : Program) (w : World) (mg : Str → Option Value) (base : Heap) (T : Tab) (k : Nat) (f : Addr) (F : Addr → Str → Fn) : Prop where
  run : ∀ (A : Around) (outer : List Env) (s : Shared) (H : Hp) (p : Addr × Obj) (c : Str) (g : Gh) (hp : List Cell) (Q : VK), L2H.RoomH k A → L2H.PinOk outer H s p → Env0 P w T.K mg base A outer s H → Hand T g H p c → RelH T ⟨g, H⟩ g hp H →
    GoF T g H (F p.1 c [.raw p.1] hp) Q (fun _ _ _ => False) → codeAny (model P w) A (.call (.ref f) ⟨[.ref p.1], []⟩) (CR (L2.CX P w) outer P w H s Q fun _ _ _ => False) s
end Ma
/-! Ma64: try: return e / except X as n: .., where the suite looks at the exception alone. -/
namespace Ma
open L2 PySem.Spec PySem PyProof.Rows
end Ma
/-! Ma65: said(lambda: e): what e comes to, told by a def that calls it in a try. -/
namespace Ma
open L2 PySem.Spec PySem PyProof.Rows
end Ma
/-! Ma66: what a law's head tells of defs that make lambdas; raise of known classes; a list times an int. -/
namespace Ma
open L2 PySem.W PySem.Spec PySem PyProof.Rows
/-! ### the hook -/
def isTab (o : Obj) : Bool := match o with
  | ⟨.none, none, .fields vs, sl⟩ => vs.isEmpty && sl.isEmpty
  | _ => false
theorem isTab_ok {o : Obj} (h : isTab o = true) : o = tabObj #[] := by
  unfold isTab at h
  split at h
  · obtain ⟨h1, h2⟩ := Bool.and_eq_true_iff.mp h
    rw [Array.isEmpty_iff.mp h1, Array.isEmpty_iff.mp h2]
  · cases h
theorem isTab_tab : isTab (tabObj #[]) = true := rfl
def nodB : List Addr → Bool
  | [] => true
  | a :: r => !r.contains a && nodB r
theorem nodB_ok : ∀ {l : List Addr}, nodB l = true → l.Nodup
  | [], _ => List.nodup_nil
  | a :: r, h => by
    obtain ⟨h1, h2⟩ := Bool.and_eq_true_iff.mp h
    refine List.nodup_cons.mpr ⟨fun z => ?_, nodB_ok h2⟩
    rw [List.contains_iff_mem.mpr z] at h1
    cases h1
/-- the heap's part, without the empty tables -/
def frT (g : Addr → Option Obj) (as : List Addr) : Frag := (He.frG g as).filter fun p => !isTab p.2
theorem frG_mem {g : Addr → Option Obj} {as : List Addr} {p : Addr × Obj} (h : p ∈ He.frG g as) : g p.1 = some p.2 := by
  unfold He.frG at h
  obtain ⟨a, _, e⟩ := List.mem_filterMap.mp h
  cases q : g a with
  | none => rw [q] at e; cases e
  | some o => rw [q] at e; cases e; exact q
theorem mem_of_lookA {a : Addr} {o : Obj} : ∀ {l : List (Addr × Obj)}, l.lookup a = some o → (a, o) ∈ l
  | [], h => by simp at h
  | p :: r, h => by
    rw [List.lookup_cons] at h
    by_cases e : (a == p.1) = true
    · rw [e] at h
      cases h
      rw [show a = p.1 from beq_iff_eq.mp e]
      exact List.mem_cons_self
    · have e2 : (a == p.1) = false := by simpa using e
      rw [e2] at h
      exact List.mem_cons_of_mem _ (mem_of_lookA h)
theorem frT_mem {g : Addr → Option Obj} {as : List Addr} {a : Addr} {o : Obj} (h : (frT g as).lookup a = some o) : g a = some o ∧ isTab o = false := by
  have hm := mem_of_lookA h
  unfold frT at hm
  obtain ⟨h1, h2⟩ := List.mem_filter.mp hm
  exact ⟨frG_mem h1, by simpa using h2⟩
theorem frT_in {as : List Addr} {h : Heap} : (frT h.get? as).In h := fun _ _ e => (frT_mem e).1
def tabsB (tbs : Frag → List (Addr × Addr)) (g : Addr → Option Obj) (K : Frag) : Bool := nodB ((tbs K).map (·.2)) && (tbs K).all fun p => codeHdIn K p.1 p.2 && (match g p.2 with
  | some o => isTab o
  | none => false)
def obsT (fa : List He.Fa) (fn : List He5.DefA) (ni : List IniD) (ex : Frag → Bool) (tbs : Frag → List (Addr × Addr)) (g : Addr → Option Obj) (K : Frag) : AlM :=
  ((obsP fa fn ni ex K).1 && tabsB tbs g K, (obsP fa fn ni ex K).2)
structure TabsK (tbs : Frag → List (Addr × Addr)) (K : Frag) (h : Heap) : Prop where
  nd : ((tbs K).map (·.2)).Nodup
  hd : ∀ p ∈ tbs K, codeHdIn K p.1 p.2 = true
  at_ : ∀ p ∈ tbs K, h.get? p.2 = some (tabObj #[])
  no : ∀ p ∈ tbs K, K.lookup p.2 = none
/-! ### a def that makes lambdas -/
/-! ### raise of known classes -/
structure RaiF (T : Tab) (n : Str) : Prop where
  ex : ∀ A, T.ad n = some A → RaiK T.K A
def raiB (K : Frag) (C : Addr) : Bool := decide (subIn K (.ref C) (.type "BaseException") = some true) && decide (typeIn K (.ref C) = some (.type "type"))
theorem raiB_ok {K : Frag} {C : Addr} (h : raiB K C = true) : RaiK K C := by
  obtain ⟨h1, h2⟩ := Bool.and_eq_true_iff.mp h
  exact ⟨of_decide_eq_true h1, of_decide_eq_true h2⟩
theorem raiF_of {tb : List (Addr × Str)} {K : Frag} {cs : List Str} {c : Str} (h : raiB K (He.ga K c) = true) : RaiF ⟨K, adOf K cs, tb⟩ c := ⟨fun A e => by
  rw [adOf_at (show adOf K cs c = some A from e)]
  exact raiB_ok h⟩
theorem sm_raiK {C : MC} {x : Str} {ex : Expr} {es : List Expr} {ma : MA} {pos p pos' : Pos} (h : KnE C.X.mg C.T x) (R : RaiF C.T x) (hc : C.X.calm = true) (tk : Takes C.X C.W) (ha : PMa C (ex :: es) ma)
    (hg : Gl C.X x := by rfl) (hdb : (x == ("__debug__" : Str)) = false := by decide) (he : starEach (ex :: es) C.X.env = (false, eval ex C.X.env) :: starEach es C.X.env := by rfl) (hpl : (backTo pos (starEach es C.X.env)).any (·.1) = false := by rfl) :
    PMs C (.Raise (some (.Call (.Name x p) (ex :: es) [] pos)) none pos') (sRai x ma) := by
  obtain ⟨A, h1, h2, h3⟩ := h.ex
  exact sm_rai hc tk h3 (R.ex A h1) h1 h2 ha hg hdb he hpl
end Ma
/-! Ma98: the head's hook that looks at written addresses (no search for them in the kernel). -/
namespace Ma
open L2 PySem.W PySem.Spec PySem PyProof.Rows
def obsLG (as : List Addr) (fa : List He.Fa) (fn : List He5.DefA) (ni : List IniD) (ex : Frag → Bool) (tbs : Frag → List (Addr × Addr)) (g : Addr → Option Obj) : AlM := obsT fa fn ni ex tbs g (frT g as)
def hookL (as : List Addr) (fa : List He.Fa) (fn : List He5.DefA) (ni : List IniD) (ex : Frag → Bool) (tbs : Frag → List (Addr × Addr)) : Hook where
  α := AlM
  obs := fun s => obsLG as fa fn ni ex tbs s.heap.get?
  val := fun _ => valP fn ni
  says := fun _ h => ∃ K : Frag, K.In h ∧ SaysP fa fn ni ex K ∧ TabsK tbs K h
  of := fun w s e => by
    refine ⟨frT s.heap.get? as, frT_in, ?_, ?_⟩
    · have e0 : (((obsP fa fn ni ex (frT s.heap.get? as)).1 && tabsB tbs s.heap.get? (frT s.heap.get? as), (obsP fa fn ni ex (frT s.heap.get? as)).2) : AlM) = valP fn ni := e
      have e1 := congrArg Prod.fst e0
      have e2 := congrArg Prod.snd e0
      obtain ⟨a, _⟩ := Bool.and_eq_true_iff.mp (show ((obsP fa fn ni ex (frT s.heap.get? as)).1 && tabsB tbs s.heap.get? (frT s.heap.get? as)) = true from e1)
      exact Prod.ext a e2
    · have e1 : ((obsP fa fn ni ex (frT s.heap.get? as)).1 && tabsB tbs s.heap.get? (frT s.heap.get? as)) = true := congrArg (fun z : AlM => z.1) e
      obtain ⟨_, b⟩ := Bool.and_eq_true_iff.mp e1
      obtain ⟨b1, b2⟩ := Bool.and_eq_true_iff.mp b
      have gt : ∀ p ∈ tbs (frT s.heap.get? as), codeHdIn (frT s.heap.get? as) p.1 p.2 = true ∧ s.heap.get? p.2 = some (tabObj #[]) := fun p hp => by
        obtain ⟨c1, c2⟩ := Bool.and_eq_true_iff.mp (List.all_eq_true.mp b2 p hp)
        refine ⟨c1, ?_⟩
        split at c2
        · rename_i o ho; rw [ho, isTab_ok c2]
        · cases c2
      refine ⟨nodB_ok b1, fun p hp => (gt p hp).1, fun p hp => (gt p hp).2, fun p hp => ?_⟩
      cases q : (frT s.heap.get? as).lookup p.2 with
      | none => rfl
      | some o =>
        obtain ⟨d1, d2⟩ := frT_mem q
        rw [(gt p hp).2] at d1
        cases d1
        rw [isTab_tab] at d2
        cases d2
  keeps := fun _ _ _ ⟨K, hK, c, t⟩ k => ⟨K, Frag.In.keeps hK k, c, ⟨t.nd, t.hd, fun p hp => k _ _ (t.at_ p hp), t.no⟩⟩
theorem obsLG_eq {as : List Addr} {fa : List He.Fa} {fn : List He5.DefA} {ni : List IniD} {ex : Frag → Bool} {tbs : Frag → List (Addr × Addr)} {g : Addr → Option Obj} {s : Shared} (h : ∀ a, g a = s.heap.get? a) : obsLG as fa fn ni ex tbs g = (hookL as fa fn ni ex tbs).obs s := by
  have e : g = s.heap.get? := funext h
  rw [e] <;> rfl
end Ma
namespace HandSHeadRun
open PySem.W PySem.Spec PySem PyProof.Rows
theorem opt3 {α β γ δ : Type} {o : Option α} {f : α → β} {g : α → γ} {h : α → δ} {x : β} {y : γ} {z : δ} (h1 : o.map f = some x) (h2 : o.map g = some y) (h3 : o.map h = some z) : o.map (fun s => (f s, g s, h s)) = some (x, y, z) := by
  cases o with
  | none => cases h1
  | some s => cases h1; cases h2; cases h3; rfl
def RunB (r : OpenRow) (M : Nat) (w : World) : Prop := ∀ os : OsState, (endF (stepQ (denQ tabQ) r.prog w) M r.prog w os).map (fun s => looksF r.prog (boot_heap w.params) s.abs) = some true
def RunC (r : OpenRow) (q : Program) (M : Nat) (loose : List PySem.Str) (w : World) : Prop := ∀ os : OsState, (endF (stepQ (denQ tabQ) r.prog w) M r.prog w os).map (fun s => seenQ q loose (importedModules r.prog.main.body) (fun s => xlAt q [] s && recOk r.toRowW.records s) s.abs) = some (openGood q loose)
def RunD (r : OpenRow) (H : Hook) (ob : SharedT → H.α) (M : Nat) (w : World) : Prop := ∀ os : OsState, (endF (stepQ (denQ tabQ) r.prog w) M r.prog w os).map (fun s => ob s) = some (H.val w)
theorem run_of {r : OpenRow} {q : Program} {H : Hook} {ob : SharedT → H.α} {M : Nat} {loose : List PySem.Str} {w : World} (h1 : RunB r M w) (h2 : RunC r q M loose w) (h3 : RunD r H ob M w) : RunEq r q H ob M loose w := fun os => opt3 (h1 os) (h2 os) (h3 os)
end HandSHeadRun
namespace Lw
open L2 Ma PySem.Spec PySem PyProof.Rows
def top (i : Nat) : Stmt := PySem.Challenge.pw_rowclash_k74_clashes_of_two_keys.main.body.getD i (.Pass ⟨0, 0, 0, 0⟩)
abbrev XS : List Str := ["RowError", "NotKey", "NotInteger", "NotScan", "NotBound", "NotFormula", "TooLarge"]
abbrev IS : List Str := ["Formula"]
def mros : List (Str × List Tg) := [("RowError", [.own "RowError", .bi "ValueError", .bi "Exception", .bi "BaseException", .bi "object"]), ("NotKey", [.own "NotKey", .own "RowError", .bi "ValueError", .bi "Exception", .bi "BaseException", .bi "object"]), ("NotInteger", [.own "NotInteger", .own "RowError", .bi "ValueError", .bi "Exception", .bi "BaseException", .bi "object"]), ("NotScan", [.own "NotScan", .own "RowError", .bi "ValueError", .bi "Exception", .bi "BaseException", .bi "object"]), ("NotBound", [.own "NotBound", .own "RowError", .bi "ValueError", .bi "Exception", .bi "BaseException", .bi "object"]), ("NotFormula", [.own "NotFormula", .own "RowError", .bi "ValueError", .bi "Exception", .bi "BaseException", .bi "object"]), ("TooLarge", [.own "TooLarge", .own "RowError", .bi "ValueError", .bi "Exception", .bi "BaseException", .bi "object"]), ("Formula", [.own "Formula", .bi "object"])]
abbrev BI : List String := ["bool", "dict", "int", "list", "tuple"]
abbrev CS : List Str := ["RowError", "NotKey", "NotInteger", "NotScan", "NotBound", "NotFormula", "TooLarge", "Formula"]
abbrev isi : Tg → Tg → Option Bool := isiM mros BI
abbrev s__law_cell_at : Stmt := top 32
abbrev s__law_pen : Stmt := top 33
abbrev s__law_draw : Stmt := top 34
abbrev s__law_pick : Stmt := top 35
abbrev s__law_numbers : Stmt := top 37
abbrev s__law_bounds : Stmt := top 43
abbrev s_is_integer : Stmt := top 3
abbrev s_is_small : Stmt := top 5
abbrev s_Formula___init__ : Stmt := clsMeth (top 19) 0
abbrev s_check_formula : Stmt := top 22
abbrev s_check_scan : Stmt := top 23
abbrev s_check_bounds : Stmt := top 24
abbrev s_Formula_times : Stmt := clsMeth (top 19) 1
abbrev s_Formula_plus : Stmt := clsMeth (top 19) 2
abbrev s_new_key : Stmt := top 21
abbrev s_is_within : Stmt := top 25
abbrev s_is_visited_before : Stmt := top 29
abbrev s_meets_conflict : Stmt := top 28
abbrev s_is_safe : Stmt := top 27
abbrev s_trial_keys : Stmt := top 30
abbrev s_clash : Stmt := top 26
abbrev s__law_safe : Stmt := top 44
abbrev s__law_inside : Stmt := top 41
abbrev s__law_ordered : Stmt := top 40
abbrev s__law_planned : Stmt := top 42
abbrev s__law_ends : Stmt := top 38
abbrev s__law_run : Stmt := top 39
abbrev s__law_collides : Stmt := top 45
abbrev s__law_pair_right : Stmt := top 47
abbrev s__law_drawn_keys : Stmt := top 46
abbrev s__law_same : Stmt := top 36
abbrev s_law : Stmt := top 48
end Lw
namespace Lw
open L2 Ma PySem.Spec PySem PyProof.Rows
open PySem.W
def fns : List He5.DefA := [⟨fun K => He.ga K "_law_cell_at", "_law_cell_at", "_law_cell_at", defArgs s__law_cell_at, defBody s__law_cell_at, defScope s__law_cell_at, [], []⟩, ⟨fun K => He.ga K "_law_pen", "_law_pen", "_law_pen", defArgs s__law_pen, defBody s__law_pen, defScope s__law_pen, [], []⟩, ⟨fun K => He.ga K "_law_draw", "_law_draw", "_law_draw", defArgs s__law_draw, defBody s__law_draw, defScope s__law_draw, [], []⟩, ⟨fun K => He.ga K "_law_pick", "_law_pick", "_law_pick", defArgs s__law_pick, defBody s__law_pick, defScope s__law_pick, [], []⟩, ⟨fun K => He.ga K "_law_numbers", "_law_numbers", "_law_numbers", defArgs s__law_numbers, defBody s__law_numbers, defScope s__law_numbers, [], []⟩, ⟨fun K => He.ga K "_law_bounds", "_law_bounds", "_law_bounds", defArgs s__law_bounds, defBody s__law_bounds, defScope s__law_bounds, [], []⟩, ⟨fun K => He.ga K "is_integer", "is_integer", "is_integer", defArgs s_is_integer, defBody s_is_integer, defScope s_is_integer, [], []⟩, ⟨fun K => He.ga K "is_small", "is_small", "is_small", defArgs s_is_small, defBody s_is_small, defScope s_is_small, [], []⟩, ⟨fun K => He.ma K (He.ga K "Formula") "__init__", "__init__", "Formula.__init__", defArgs s_Formula___init__, defBody s_Formula___init__, defScope s_Formula___init__, [.int 1, .int 0], []⟩, ⟨fun K => He.ga K "check_formula", "check_formula", "check_formula", defArgs s_check_formula, defBody s_check_formula, defScope s_check_formula, [], []⟩, ⟨fun K => He.ga K "check_scan", "check_scan", "check_scan", defArgs s_check_scan, defBody s_check_scan, defScope s_check_scan, [], []⟩, ⟨fun K => He.ga K "check_bounds", "check_bounds", "check_bounds", defArgs s_check_bounds, defBody s_check_bounds, defScope s_check_bounds, [], []⟩, ⟨fun K => He5.wf K (He.ga K "Formula") "property" "times", "times", "Formula.times", defArgs s_Formula_times, defBody s_Formula_times, defScope s_Formula_times, [], []⟩, ⟨fun K => He5.wf K (He.ga K "Formula") "property" "plus", "plus", "Formula.plus", defArgs s_Formula_plus, defBody s_Formula_plus, defScope s_Formula_plus, [], []⟩, ⟨fun K => He.ga K "new_key", "new_key", "new_key", defArgs s_new_key, defBody s_new_key, defScope s_new_key, [], []⟩, ⟨fun K => He.ga K "is_within", "is_within", "is_within", defArgs s_is_within, defBody s_is_within, defScope s_is_within, [], []⟩, ⟨fun K => He.ga K "is_visited_before", "is_visited_before", "is_visited_before", defArgs s_is_visited_before, defBody s_is_visited_before, defScope s_is_visited_before, [], []⟩, ⟨fun K => He.ga K "meets_conflict", "meets_conflict", "meets_conflict", defArgs s_meets_conflict, defBody s_meets_conflict, defScope s_meets_conflict, [], []⟩, ⟨fun K => He.ga K "is_safe", "is_safe", "is_safe", defArgs s_is_safe, defBody s_is_safe, defScope s_is_safe, [.int 18014398509481984], []⟩, ⟨fun K => He.ga K "trial_keys", "trial_keys", "trial_keys", defArgs s_trial_keys, defBody s_trial_keys, defScope s_trial_keys, [], []⟩, ⟨fun K => He.ga K "clash", "clash", "clash", defArgs s_clash, defBody s_clash, defScope s_clash, [], [("scan", .str "up"), ("low", .non), ("high", .non)]⟩, ⟨fun K => He.ga K "_law_safe", "_law_safe", "_law_safe", defArgs s__law_safe, defBody s__law_safe, defScope s__law_safe, [], []⟩, ⟨fun K => He.ga K "_law_inside", "_law_inside", "_law_inside", defArgs s__law_inside, defBody s__law_inside, defScope s__law_inside, [], []⟩, ⟨fun K => He.ga K "_law_ordered", "_law_ordered", "_law_ordered", defArgs s__law_ordered, defBody s__law_ordered, defScope s__law_ordered, [], []⟩, ⟨fun K => He.ga K "_law_planned", "_law_planned", "_law_planned", defArgs s__law_planned, defBody s__law_planned, defScope s__law_planned, [], []⟩, ⟨fun K => He.ga K "_law_ends", "_law_ends", "_law_ends", defArgs s__law_ends, defBody s__law_ends, defScope s__law_ends, [], []⟩, ⟨fun K => He.ga K "_law_run", "_law_run", "_law_run", defArgs s__law_run, defBody s__law_run, defScope s__law_run, [], []⟩, ⟨fun K => He.ga K "_law_collides", "_law_collides", "_law_collides", defArgs s__law_collides, defBody s__law_collides, defScope s__law_collides, [], []⟩, ⟨fun K => He.ga K "_law_pair_right", "_law_pair_right", "_law_pair_right", defArgs s__law_pair_right, defBody s__law_pair_right, defScope s__law_pair_right, [], []⟩, ⟨fun K => He.ga K "_law_drawn_keys", "_law_drawn_keys", "_law_drawn_keys", defArgs s__law_drawn_keys, defBody s__law_drawn_keys, defScope s__law_drawn_keys, [], []⟩, ⟨fun K => He.ga K "_law_same", "_law_same", "_law_same", defArgs s__law_same, defBody s__law_same, defScope s__law_same, [], []⟩, ⟨fun K => He.ga K "law", "law", "law", defArgs s_law, defBody s_law, defScope s_law, [], []⟩]
def tbs (K : PySem.W.Frag) : List (Addr × Addr) := []
abbrev qs : List Str := []
def fas : List He.Fa := [.glo "_law_cell_at", .glo "_law_pen", .glo "_law_draw", .glo "_law_pick", .glo "_law_numbers", .glo "_law_bounds", .glo "is_integer", .glo "is_small", .glo "check_formula", .glo "check_scan", .glo "check_bounds", .glo "new_key", .glo "is_within", .glo "is_visited_before", .glo "meets_conflict", .glo "is_safe", .glo "trial_keys", .glo "clash", .glo "_law_safe", .glo "_law_inside", .glo "_law_ordered", .glo "_law_planned", .glo "_law_ends", .glo "_law_run", .glo "_law_collides", .glo "_law_pair_right", .glo "_law_drawn_keys", .glo "_law_same", .glo "law", .glo "Formula", .glo "NotBound", .glo "NotFormula", .glo "NotInteger", .glo "NotScan", .glo "TooLarge", .free "abs", .free "all", .free "bool", .free "dict", .free "int", .free "isinstance", .free "len", .free "list", .free "max", .free "min", .free "range", .free "repr", .free "set", .free "sorted", .free "tuple", .int "SMALL_BOUND" 1000000000000000, .glo "SCANS", .glo "STEPS"]
def nis : List IniD := []
abbrev PP : Program := PySem.Challenge.rw_rowclash_k74_clashes_of_two_keys.prog
def exL : List (PySem.W.Frag → Bool) := [fun K => (XS.all fun c => excB K (He.ga K c)), fun K => (IS.all fun c => insB K (He.ga K c)), fun K => isiB K CS mros BI, fun K => exkB K (He.ga K "NotBound"), fun K => exkB K (He.ga K "NotFormula"), fun K => exkB K (He.ga K "NotInteger"), fun K => exkB K (He.ga K "NotScan"), fun K => exkB K (He.ga K "TooLarge"), fun K => clsB K (He.ga K "Formula"), fun K => noB K (He.ga K "Formula") "_plus", fun K => noB K (He.ga K "Formula") "_times", fun K => He.tupB K "SCANS" [.str "up", .str "down", .str "far", .str "near"], fun K => He.tupB K "STEPS" [.int 4294967296, .int 65536, .int 256, .int 16, .int 4, .int 2], fun K => raiB K (He.ga K "NotBound"), fun K => raiB K (He.ga K "NotFormula"), fun K => raiB K (He.ga K "NotInteger"), fun K => raiB K (He.ga K "NotScan"), fun K => raiB K (He.ga K "TooLarge"), fun K => propB K (He.ga K "Formula") "times", fun K => propB K (He.ga K "Formula") "plus", fun K => mkB K (He.ga K "Formula")]
def exs (K : PySem.W.Frag) : Bool := exL.all fun b => b K
end Lw
namespace Lw
open L2 PySem.W Ma PySem.Spec PySem PyProof.Rows
abbrev R : OpenRow := OpenLaw.row PySem.Challenge.rw_rowclash_k74_clashes_of_two_keys
abbrev asL : List Addr := ([2, 3, 6, 4, 21, 28, 35, 45, 58, 70, 82, 94] : List Addr) ++ ([106, 118, 121, 122, 233, 244, 251, 258, 265, 272, 279, 287] : List Addr) ++ ([295, 302, 309, 314, 321, 328, 335, 342, 349, 356, 361, 366] : List Addr) ++ ([371, 378, 383, 390, 397, 404, 411, 416, 423, 0, 20, 27] : List Addr) ++ ([34, 44, 57, 69, 81, 93, 105, 117, 232, 243, 250, 257] : List Addr) ++ ([264, 271, 278, 286, 280, 294, 288, 301, 308, 313, 320, 327] : List Addr) ++ ([334, 341, 348, 355, 360, 365, 370, 377, 382, 389, 396, 403] : List Addr) ++ ([410, 415, 422, 15, 17, 18, 19, 22, 24, 25, 26, 29] : List Addr) ++ ([31, 32, 33, 43, 46, 56, 68, 80, 92, 104, 116, 137] : List Addr) ++ ([145, 153, 160, 167, 174, 181, 188, 195, 202, 209, 216, 223] : List Addr) ++ ([230, 231, 234, 235, 238, 240, 241, 242, 245, 247, 248, 249] : List Addr) ++ ([252, 254, 255, 256, 259, 261, 262, 263, 266, 268, 269, 270] : List Addr) ++ ([273, 275, 276, 277, 281, 283, 284, 285, 289, 291, 292, 293] : List Addr) ++ ([296, 298, 299, 300, 303, 305, 306, 307, 310, 312, 315, 317] : List Addr) ++ ([318, 319, 322, 324, 325, 326, 329, 331, 332, 333, 336, 338] : List Addr) ++ ([339, 340, 343, 345, 346, 347, 350, 352, 353, 354, 357, 359] : List Addr) ++ ([362, 364, 367, 369, 372, 374, 375, 376, 379, 381, 384, 386] : List Addr) ++ ([387, 388, 391, 393, 394, 395, 398, 400, 401, 402, 405, 407] : List Addr) ++ ([408, 409, 412, 414, 417, 419, 420, 421, 136, 130, 144, 152] : List Addr) ++ ([159, 166, 173, 180, 187, 194, 201, 208, 215, 222, 229, 131] : List Addr) ++ ([133, 134, 135, 143, 151, 154, 156, 157, 158, 161, 163, 164] : List Addr) ++ ([165, 168, 170, 171, 172, 175, 177, 178, 179, 182, 184, 185] : List Addr) ++ ([186, 189, 191, 192, 193, 196, 198, 199, 200, 203, 205, 206] : List Addr) ++ ([207, 210, 212, 213, 214, 217, 219, 220, 221, 224, 226, 227] : List Addr) ++ ([228, 138, 140, 141, 142, 146, 148, 149, 150] : List Addr)
abbrev hk : Hook := hookL asL fas fns nis exs tbs
def ob (s : SharedT) : AlM := obsLG asL fas fns nis exs tbs (HandSHeadRun.getT s)
theorem ob_eq (s : SharedT) : ob s = hk.obs s.abs := obsLG_eq (HandSHeadRun.getT_eq s)
abbrev loose : List Str := (["KEY_BOUND", "SMALL_BOUND", "is_integer", "is_key", "is_small", "RowError", "NotKey", "NotInteger", "NotScan", "NotBound", "NotFormula", "TooLarge"] : List Str) ++ (["SCANS", "MOST_TIMES", "FARTHEST", "STEPS", "Formula", "as_formula", "new_key", "check_formula", "check_scan", "check_bounds", "is_within", "clash"] : List Str) ++ (["is_safe", "meets_conflict", "is_visited_before", "trial_keys", "_law_cell_at", "_law_pen", "_law_draw", "_law_pick", "_law_same", "_law_numbers", "_law_ends", "_law_run"] : List Str) ++ (["_law_ordered", "_law_inside", "_law_planned", "_law_bounds", "_law_safe", "_law_collides", "_law_drawn_keys", "_law_pair_right"] : List Str)
theorem run_b (w : World) : HandSHeadRun.RunB R 15000 w := by
  intro os
  kernel_rfl
theorem run_c (w : World) : HandSHeadRun.RunC R (view R.prog [48]) 15000 loose w := by
  intro os
  kernel_rfl
theorem run_d (w : World) : HandSHeadRun.RunD R hk ob 15000 w := by
  intro os
  kernel_rfl
theorem run (w : World) : HandSHeadRun.RunEq R (view R.prog [48]) hk ob 15000 loose w := HandSHeadRun.run_of (run_b w) (run_c w) (run_d w)
end Lw
/-! Ma67: a list times an int; what is said of an exception. -/
namespace Ma
open L2 PySem.Spec PySem PyProof.Rows
section
variable {C : MC} {g : Gh} {H : Hp}
def oMulL (x y : M) (s : MS) : Res M := match lstOf s.hp x with
  | some ms => match y with
    | .int k => if -(2 ^ 62) ≤ k ∧ k < 2 ^ 62 ∧ ms.length * k.toNat ≤ big then .ok (.lst (repL k ms)) s else .stuck
    | _ => .stuck
  | none => .stuck
end
/-! ### what a call comes to, in a word -/
end Ma
/-! Ma68: more of the machine's runs. -/
namespace Ma
open L2 PySem.Spec PySem PyProof.Rows
theorem mlst_of {ma : MA} {s s1 : MS} {ms : List M} (h : ma s = .ok ms s1) (hl : ms.length ≤ big) : mLst ma s = .ok (.lst ms) s1 := by
  unfold mLst
  rw [h]
  exact if_pos hl
theorem or_t {t u : MT} {s s1 : MS} (h : t s = .ok true s1) : mOr t u s = .ok true s1 := by unfold mOr; rw [h]; rfl
theorem seq_rt {a b : MStm} {s s1 : MS} {m : M} (h : a s = .ok (.rt m) s1) : sSeq a b s = .ok (.rt m) s1 := by unfold sSeq; rw [h]; rfl
theorem mif_of {t : MT} {a b : ME} {s s1 : MS} {k : Bool} (h : t s = .ok k s1) : mIf t a b s = if k = true then a s1 else b s1 := by unfold mIf; rw [h]; rfl
end Ma
/-! Ma69: own operators with right operands of several types; operators by the right operand; -x; instances called; defs with defaults. -/
namespace Ma
open L2 PySem.W PySem.Spec PySem PyProof.Rows
/-! ### x op y, x own -/
def oDunBs (c : Str) (F : Fn) (ts : List String) (o : M → M → MS → Res M) : M → M → MS → Res M := fun x y s => if isIns c x s = true then (match biOf s.hp y with
  | some n => if ts.contains n = true then upF s.env (F [x, y] s.hp) else .stuck
  | none => if isIns c y s = true then upF s.env (F [x, y] s.hp) else .stuck) else o x y s
/-! ### x op y, y own, x None, a bool, an int -/
end Ma
/-! Ma70: -x, x own; instances called; defs with defaults. -/
namespace Ma
open L2 PySem.W PySem.Spec PySem PyProof.Rows
/-! ### defs with defaults -/
section
variable {P : Program} {w : World} {mg : Str → Option Value} {base : Heap} {T : Tab}
theorem fnP_d {x qual : Str} {st : Stmt} {f : Addr} {fd : FuncData} {N ps : List Str} {k : Nat} {b : MStm} {dvs : List V} {kws : List (Str × V)} {dms : List M} (F : L2.FunD T.K x qual (defArgs st) (defBody st) (defScope st) dvs kws f fd) (S : FnScope N ps (defScope st))
    (n j : Nat) (hd : dvs ≠ []) (hn : n + (dvs.length - j) = ps.length) (hdm : ∀ g H, RVs T g H dms (dvs.drop j))
    (h : ∀ (T : Addr) (kV doc pm : Value) (an : Option Addr) (cdv ct : Value) (us its : List Value), us.length = n → its.length = dvs.length →
      ∃ k, bindArgs (PySem.W.fnOf x qual (defArgs st) (defBody st) (defScope st) (.ref T) kV doc pm an cdv ct) ⟨us, []⟩ = seqItems? (.ref T) >>= k ∧ k (some its.toArray) = pure (ps.zip (us ++ its.drop j)))
    (hb : ∀ (cdv : Value) (A : Around) (outer : List Env) (s : Shared) (H : Hp) (E : XK) (g : Gh), RoomG k (A.deeper (envOfC qual (defScope st) s.heap.objs.size f cdv)) → PMb (cAt P w mg base T N qual (defScope st) f cdv A outer s H E g) (defBody st) b) :
    FnP P w mg base T (k + 1) f (posF ps.length dms (bodyF ps.length N.length b)) := by
  obtain ⟨ds, hv, hbd⟩ := F.binds1 n j hd hn h
  refine FnP.of (fd := fd) (dms := dms) (F := bodyF ps.length N.length b) ⟨fun A outer s H args us vs Q E hr e0 hbd r hsp => ?_⟩ hbd hv hdm
  obtain ⟨oc, od, dV, kV, doc, pm, an, cdv, ct, osl, rfl, lk, hcd, _, _⟩ := F.ex
  obtain ⟨hl, g, hp, as, rh, rs, go⟩ := hsp
  have inK : T.K.In s.heap := e0.mod.kin.keeps (fun b o q => (e0.bs b o q).1)
  have nl : s.heap.NoLimit := e0.mod.nolimit.keeps (fun b o q => (e0.bs b o q).1)
  have kinds : ∀ y ∈ ps.zip us, (defScope st).names.lookup y.1 = some .local ∨ ((defScope st).names.lookup y.1 = some .cell ∧ ((cellsFrom (s.heap.objs.size + 1) (defScope st).names []).lookup y.1).isSome = true) := by
    rintro ⟨n, v⟩ hy
    exact (S.par n (List.of_mem_zip hy).1).imp id fun q => ⟨q, PySem.W.cellsFrom_some _ _ _ (.inl q)⟩
  refine codeAny_call_function hr.depth (inK _ _ lk) rfl S.co S.gen rfl (PySem.W.codeRec_of inK hcd) (hbd _ _ _ _ (wpAny_newFunctionEnv_cells S.kind kinds fun env he s1 ic => ?_))
  subst he
  refine ⟨nl.keeps ic.toInCall.keep, codeAny_func ?_⟩
  have J : Inv (cAt P w mg base T N qual (defScope st) f cdv A outer s H E g).X [] (L2.start N vs) H s1 := inv_start S hr.hd e0 hl r ic
  have hbody := hb cdv A outer s H E g (hr.down _)
  have hnl : ps.length ≤ N.length := by
    have := congrArg List.length S.pre
    rw [List.length_take] at this
    omega
  have fin : ∀ {σ' : L2.St} {H' : Hp} {v : V} {u : Value} {s' : Shared}, Inv (cAt P w mg base T N qual (defScope st) f cdv A outer s H E g).X [] σ' H' s' → RelV v u → Q v H' → CE outer P w H s Q u s' :=
    fun J rv q => ⟨_, _, J.os, J.bare, J.base, J.hok, rv, q⟩
  let D : Ends := { nx := fun _ H' => Q .non H', rt := Q }
  have start_rel : Rel T ⟨g, H⟩ g ⟨as.map some ++ List.replicate (N.length - ps.length) none, hp⟩ (L2.start N vs) H := by
    refine ⟨rh, ?_, fun i m v h1 h2 => ?_⟩
    · unfold L2.start
      simp [rs.length, hl]
    · have h1 : (as.map some ++ List.replicate (N.length - ps.length) none)[i]? = some (some m) := h1
      unfold L2.start at h2
      by_cases hi : i < as.length
      · rw [List.getElem?_append_left (by simpa using hi), List.getElem?_map] at h1
        rw [List.getElem?_append_left (by simpa [← rs.length] using hi), List.getElem?_map] at h2
        cases ha : as[i]? with
        | none => rw [ha] at h1; cases h1
        | some m' =>
          rw [ha] at h1
          cases h1
          obtain ⟨x, hx, rx⟩ := rs.get ha
          rw [hx] at h2
          cases h2
          exact ⟨x, rfl, rx⟩
      · rw [List.getElem?_append_right (by simpa using Nat.le_of_not_lt hi), List.getElem?_replicate] at h1
        split at h1 <;> cases h1
  have goal : rdS (cAt P w mg base T N qual (defScope st) f cdv A outer s H E g) b D (L2.start N vs) H := by
    refine ⟨g, ⟨as.map some ++ List.replicate (N.length - ps.length) none, hp⟩, start_rel, ?_⟩
    unfold bodyF at go
    cases hm : b ⟨as.map some ++ List.replicate (N.length - ps.length) none, hp⟩ with
    | stuck => rw [hm] at go; exact go.elim
    | err x s1 => rw [hm] at go; exact fun g' H' σ' cls d mo rl xr => go g' H' cls d rl.h xr
    | ok fl s1 =>
      rw [hm] at go
      cases fl with
      | nx => exact fun g' H' σ' mo rl => go g' H' .non rl.h .non
      | rt m => exact fun g' H' σ' v mo rl rv => go g' H' v rl.h rv
      | bk => exact go.elim
      | ct => exact go.elim
  refine wpAny_mono (hbody.run [] s1 (L2.start N vs) H D J goal) (fun fl s' hs => ?_) fun e s' hs => hs
  cases fl with
  | ret u =>
    obtain ⟨v, σ', H', J', rv, q⟩ := hs
    exact fin J' rv q
  | next =>
    obtain ⟨σ', H', J', q⟩ := hs
    exact fin (v := V.non) (u := Value.none) J' rfl q
  | brk => exact hs.elim fun _ z => z.elim fun _ y => y.2.elim
  | cont => exact hs.elim fun _ z => z.elim fun _ y => y.2.elim
end
end Ma
/-! Ma71: the right operand's own operator, where the left one declines; facts of own operators from the head. -/
namespace Ma
open L2 PySem.W PySem.Spec PySem PyProof.Rows
/-! ### the left operand declines -/
def oDunRf (c : Str) (F : Fn) (o : M → M → MS → Res M) : M → M → MS → Res M := fun x y s => if isIns c y s = true then (match x with
  | .non => upF s.env (F [y, x] s.hp)
  | .bl _ => upF s.env (F [y, x] s.hp)
  | .int _ => upF s.env (F [y, x] s.hp)
  | x => o x y s) else o x y s
/-! ### from the head -/
end Ma
/-! Ma72: a built-in value compared (==, !=) with an own instance on the right. -/
namespace Ma
open L2 PySem.W PySem.Spec PySem PyProof.Rows
/-! ### floor division by greater numbers -/
def oDivW := oInt (fun _ j => decide (0 < j ∧ j < 18446744073709551616)) fun i j => .int (i / j)
theorem ok_divW {C : MC} : Op2Ok C (binaryOp .FloorDiv) oDivW := Op2Ok.of op_fdivW fun σ H g s m1 m2 x y Q r r1 r2 h => by
  obtain ⟨i, j, rfl, rfl, hc, q⟩ := oInt_at h r1 r2
  have hc := of_decide_eq_true hc
  exact ⟨i, j, rfl, rfl, wide_div hc.1 (b := 64) (by omega) (by decide) (by decide), q.same r (.int _)⟩
/-! ### which of 25 classes -/
end Ma
/-! Ma73: targets within targets. -/
namespace Ma
open L2 PySem.W PySem.Spec PySem PyProof.Rows
section
variable {C : MC} {g g1 : Gh} {H H1 : Hp} {s : MS} {σ : L2.St} {pos p : Pos}
def gAll : List MG → List M → MS → Res Unit
  | [], [], s => .ok () s
  | t :: ts, m :: ms, s => match t m s with
    | .ok _ s1 => gAll ts ms s1
    | _ => .stuck
  | _, _, _ => .stuck
def GoV (C : MC) (r : Res Unit) (g : Gh) (H : Hp) (Q : L2.St → Hp → Prop) : Prop := match r with
  | .ok _ s1 => ∀ (g' : Gh) (H' : Hp) (σ' : L2.St), Mono g H g' H' → C.rel g' s1 σ' H' → Q σ' H'
  | _ => False
theorem GoV.later {r : Res Unit} {Q : L2.St → Hp → Prop} (m : Mono g H g1 H1) (h : GoV C r g H Q) : GoV C r g1 H1 Q := by
  cases r with
  | ok a s => exact fun g' H' σ' q => h g' H' σ' (m.trans q)
  | err x s => exact h
  | stuck => exact h
def rdGs (C : MC) (ts : List MG) : TGs := fun vs σ H Q => ∃ g s ws, C.rel g s σ H ∧ RVs C.T g H ws vs ∧ GoV C (gAll ts ws s) g H Q
structure PMgs (C : MC) (es : List Expr) (ts : List MG) : Prop where
  run : PGs C.X es (rdGs C ts)
theorem gms_nil : PMgs C [] [] := ⟨⟨fun pins s σ H vs us Q I r h => by
  obtain ⟨g, ms, ws, rl, rs, go⟩ := h
  cases rs with
  | nil => exact pgs_nil.run pins s σ H [] us Q I r ⟨rfl, go g H σ (Mono.refl _ _) rl⟩
  | cons _ _ => exact go.elim⟩⟩
theorem gms_cons {e : Expr} {es : List Expr} {t : MG} {ts : List MG} (h1 : PMg C e t) (h2 : PMgs C es ts)
    (hs : (assignEach (e :: es) C.X.env).map (·.2) = assign e C.X.env :: (assignEach es C.X.env).map (·.2) := by rfl) : PMgs C (e :: es) (t :: ts) := ⟨⟨fun pins s σ H vs us Q I r h => by
  obtain ⟨g, ms, ws, rl, rs, go⟩ := h
  cases rs with
  | nil => exact go.elim
  | @cons m v mr vr rv rr =>
    refine (pgs_cons h1 h2.run hs).run pins s σ H _ us Q I r ⟨v, vr, rfl, g, ms, m, rl, rv, ?_⟩
    unfold gAll at go
    cases ht : t m ms with
    | ok a s1 =>
      rw [ht] at go
      exact fun g' H' σ' mo r' => ⟨g', s1, mr, r', rr.mono mo, go.later mo⟩
    | err x s1 => rw [ht] at go; exact go.elim
    | stuck => rw [ht] at go; exact go.elim⟩⟩
def gTupG (ts : List MG) : MG := fun w s => match w with
  | .tup ms => if ms.length = ts.length then (match gAll ts ms s with
    | .ok _ s1 => .ok () s1
    | _ => .stuck) else .stuck
  | _ => .stuck
theorem gm_tupG {es : List Expr} {k : Nat} {ts : List MG} {n : Nat} (hc : C.X.calm = true) (h : PMgs C es ts) (hl : ts.length = n := by rfl)
    (hn : (assignEach es C.X.env).length = n := by rfl) (hst : (assignEach es C.X.env).findIdx? (·.1) = none := by rfl) : PMg C (.Tuple es k pos) (gTupG ts) :=
  wkG (pg_tup hc h.run hn hst) fun v σ H Q ⟨g, s, w, r, rv, q⟩ => by
    unfold gTupG at q
    cases rv with
    | @tup pa ms vs e rs =>
      dsimp only at q
      by_cases hm : ms.length = ts.length
      · rw [if_pos hm] at q
        refine ⟨pa, vs, rfl, .inl (.inl e), by rw [← rs.length, hm, hl], g, s, ms, r, rs, ?_⟩
        cases hg : gAll ts ms s with
        | ok a s1 => rw [hg] at q; exact q
        | err x s1 => rw [hg] at q; exact q.elim
        | stuck => rw [hg] at q; exact q.elim
      · rw [if_neg hm] at q; exact q.elim
    | _ => exact q.elim
end
end Ma
/-! Ma74: runs of texts: str, f-strings, repr of ints. -/
namespace Ma
open L2 PySem.Spec PySem PyProof.Rows
theorem log2_lt_of {i : Int} {k : Nat} (hk : k ≤ 1920) (h : i.natAbs < 2 ^ k) : i.natAbs.log2 < 1920 := by
  by_cases h0 : i.natAbs = 0
  · rw [h0]; decide
  · exact Nat.lt_of_lt_of_le ((Nat.log2_lt h0).mpr h) hk
/-! ### what stood still stands -/
def Ext (B hp : List Cell) : Prop := ∀ (k : Nat) (c : Cell), B[k]? = some c → hp[k]? = some c
theorem Ext.refl (B : List Cell) : Ext B B := fun _ _ h => h
theorem Ext.trans {A B D : List Cell} (h : Ext A B) (h2 : Ext B D) : Ext A D := fun k c e => h2 k c (h k c e)
theorem Ext.app (B t : List Cell) : Ext B (B ++ t) := fun k c e => by rw [List.getElem?_append_left (List.getElem?_eq_some_iff.mp e).1]; exact e
theorem Ext.len {A B : List Cell} (h : Ext A B) : A.length ≤ B.length := by
  rcases Nat.eq_zero_or_pos A.length with e | e
  · omega
  · have := h (A.length - 1) _ (List.getElem?_eq_getElem (by omega))
    have := (List.getElem?_eq_some_iff.mp this).1
    omega
theorem Ext.set {A B : List Cell} (h : Ext A B) {n : Nat} {c : Cell} (hn : A.length ≤ n) : Ext A (B.set n c) := fun k d e => by
  have := (List.getElem?_eq_some_iff.mp e).1
  rw [List.getElem?_set_ne (by omega)]; exact h k d e
end Ma
/-! numbers as bytes, the highest one first -/
/-! Ma75: bytes. -/
namespace Ma
open L2 PySem.Spec PySem PyProof.Rows
section
variable {C : MC} {g g1 : Gh} {H H1 : Hp} {s : MS} {σ : L2.St} {ex ea eb ec o : Expr} {es : List Expr} {a b c : ME} {ma : MA} {pos p p2 apos cpos : Pos} {x n f : Str}
/-- len -/
def cMin (ms : List M) (s : MS) : Res M := match ms with
  | [.int i, .int j] => .ok (.int (if j < i then j else i)) s
  | _ => .stuck
theorem ok_min2 : CallOk C (fun xs H Q => ∃ i j, xs = [.int i, .int j] ∧ Q (.int (if j < i then j else i)) H) cMin := fun σ H g s ms xs Q r rs h => by
  unfold cMin at h
  split at h
  · cases rs with
    | cons r1 r2 => cases r2 with
      | cons r2 r3 => cases r3; cases r1; cases r2; exact ⟨_, _, rfl, h.same r (.int _)⟩
  · exact h.elim
end
end Ma
/-! Ma76: `is None`. -/
namespace Ma
open L2 PySem.Spec PySem PyProof.Rows
section
variable {C : MC} {g g1 : Gh} {H H1 : Hp} {s : MS} {σ : L2.St}
def isNon : M → Bool
  | .non => true
  | _ => false
theorem rv_non {T : Tab} {m : M} {x : V} (rv : RV T g H m x) : decide (x = V.non) = isNon m := by
  cases rv <;> first | rfl | exact decide_eq_false (fun z => by cases z)
def oIsN (neg : Bool) (x y : M) (s : MS) : Res M := match y with
  | .non => .ok (.bl (if neg then !isNon x else isNon x)) s
  | _ => .stuck
theorem ok_isN : Op2Ok C (compareOp .Is) (oIsN false) := Op2Ok.of op_isN fun σ H g s m1 m2 x y Q r r1 r2 h => by
  unfold oIsN at h
  split at h
  · cases r2
    refine ⟨rfl, ?_⟩
    rw [rv_non r1]
    exact h.same r (.bl _)
  · exact h.elim
theorem ok_isntN : Op2Ok C (compareOp .IsNot) (oIsN true) := Op2Ok.of op_notN fun σ H g s m1 m2 x y Q r r1 r2 h => by
  unfold oIsN at h
  split at h
  · cases r2
    refine ⟨rfl, ?_⟩
    rw [rv_non r1]
    exact h.same r (.bl _)
  · exact h.elim
end
end Ma
/-! Ma77: a dict of a tuple of pairs. -/
namespace Ma
open L2 PySem.Spec PySem PyProof.Rows
end Ma
/-! Ma78: a property that returns tuple(d.items()), and a dict of what it returns. -/
namespace Ma
open L2 PySem.W PySem.Spec PySem PyProof.Rows
end Ma
/-! Ma79: in a list of data; the head's facts of a property that returns a plain tuple. -/
namespace Ma
open L2 PySem.W PySem.Spec PySem PyProof.Rows
section
variable {C : MC} {g g1 : Gh} {H H1 : Hp} {s : MS} {σ : L2.St}
def oInL (neg : Bool) (x y : M) (s : MS) : Res M := match datT s.hp x, datT s.hp y with
  | some d, some (.list ds) => if (SeqAt.shaped d && SeqAt.shaped (.list ds)) = true then .ok (.bl (if neg then !(ds.any fun z => z.eqv d) else ds.any fun z => z.eqv d)) s else .stuck
  | _, _ => .stuck
theorem oInL_at {neg : Bool} {m1 m2 : M} {x y : V} {Q : VK} (h : Go C C.V1 σ (oInL neg m1 m2 s) g H Q) (r : C.rel g s σ H) (r1 : RV C.T g H m1 x) (r2 : RV C.T g H m2 y) :
    ∃ d ds, Dp C.X.K H x d ∧ Dp C.X.K H y (.list ds) ∧ SeqAt.shaped d = true ∧ SeqAt.shaped (.list ds) = true ∧ Q (.bl (if neg then !(ds.any fun z => z.eqv d) else ds.any fun z => z.eqv d)) H := by
  unfold oInL at h
  split at h
  · rename_i d ds h1 h2
    by_cases hs : (SeqAt.shaped d && SeqAt.shaped (.list ds)) = true
    · rw [if_pos hs] at h
      obtain ⟨s1, s2⟩ := Bool.and_eq_true_iff.mp hs
      exact ⟨d, ds, datT_dp r r1 h1, datT_dp r r2 h2, s1, s2, h.same r (.bl _)⟩
    · rw [if_neg hs] at h; exact h.elim
  · exact h.elim
theorem ok_inL (hu : C.X.A.units + 65 < cLine) : Op2Ok C (compareOp .In) (oInL false) := Op2Ok.of (L2.op_inD hu) fun σ H g s m1 m2 x y Q r r1 r2 h => oInL_at h r r1 r2
end
end Ma
/-! Ma80: sorted(..) of lists of data of one shape, any number; of the int keys of a dict. -/
namespace Ma
open L2 PySem.W PySem.Spec PySem PyProof.Rows
section
variable {X : Cx}
abbrev VD := V × PyData
/-- sorted(xs), xs a list that reads as data -/
def rSortD (K : PySem.W.Frag) : RC := fun vs H Q => ∃ (a : Addr) (bs : List VD), vs = [.ref a] ∧ SqL K H a (bs.map Prod.fst) ∧ (∀ b ∈ bs, Dp K H b.1 b.2) ∧ AllAlike (bs.map Prod.snd) ∧ Sortable (bs.map Prod.snd) ∧ (∀ b ∈ bs, b.2.depth ≤ 20) ∧
  ∀ p, H p = none → Q (.ref p) (upd H p (.lst ((bs.mergeSort (dataLe false Prod.snd)).map Prod.fst)))
theorem each_vals {us : List Value} {bs : List VD} (h : EachIs (fun u (b : VD) => RelV b.1 u) us bs) : Vals (bs.map Prod.fst) us := by
  induction h with
  | nil => exact .nil
  | cons h _ ih => exact .cons h ih
theorem vals_each : ∀ {us : List Value} {bs : List VD}, Vals (bs.map Prod.fst) us → EachIs (fun u (b : VD) => RelV b.1 u) us bs
  | _, [], h => by
    rw [List.map_nil] at h
    cases h
    exact .nil
  | _, b :: bs, h => by
    rw [List.map_cons] at h
    cases h with
    | cons r rs => exact .cons r (vals_each rs)
theorem each_and {α β : Type} {R S : α → β → Prop} {as : List α} {bs : List β} (h : EachIs R as bs) (k : ∀ a b, b ∈ bs → R a b → S a b) : EachIs S as bs := by
  induction h with
  | nil => exact .nil
  | cons h _ ih => exact .cons (k _ _ (List.mem_cons_self ..) h) (ih fun a b m r => k a b (List.mem_cons_of_mem _ m) r)
theorem cr_sortD (hu : X.A.units + 64 < cLine) : CallR X (.builtin "sorted") (rSortD X.K) := by
  intro pins s σ H vs us Q I r h
  obtain ⟨a, bs, rfl, hs, hd, hal, hk, hdep, q⟩ := h
  obtain ⟨its, rv, hl, hz⟩ := I.list hs
  rw [Vals.ref1 r]
  have e := vals_each rv
  have er : EachIs (fun v (b : VD) => ∃ as, Reads s.heap v b.2 as) its bs := each_and e fun u b hb ru => Dp.reads I _ _ _ (hd b hb) ru
  rw [List.length_map] at hz
  refine sorted_data (enc := Prod.snd) hl.isList e er hal hk hz (fun b hb => by have := hdep b hb; omega) fun out hlen ho => ?_
  obtain ⟨ep, he'⟩ := PyProof.Rows.sortedAll_at s.heap its out.toArray
  have hv := each_vals ho
  have hlen : ((bs.mergeSort (dataLe false Prod.snd)).map Prod.fst).length ≤ sizeLine := by
    rw [List.length_map, List.length_mergeSort]
    exact hz
  exact ⟨.ref _, upd H (s.heap.objs.size + 1) (.lst ((bs.mergeSort (dataLe false Prod.snd)).map Prod.fst)), I.laid (t' := s.toks) (fun _ _ => PyProof.Rows.sortedAll_old) (Nat.le_succ _) ⟨hlen, out, ep, hv, he'⟩, rfl, q _ (I.hok.fresh (Nat.le_succ _))⟩
end
end Ma
/-! Ma81: sorted(..) of data and of a dict's int keys, in the machine. -/
namespace Ma
open L2 PySem.W PySem.Spec PySem PyProof.Rows
section
variable {C : MC} {g g1 : Gh} {H H1 : Hp} {s : MS} {σ : L2.St} {T : Tab}
def rSortK : RC := fun xs H Q => ∃ (a : Addr) (kvs : List (Key × V)) (ks : List Int), xs = [.ref a] ∧ Rd H a (.dK kvs) ∧ kvs.map (·.1) = ks.map Sum.inl ∧ ks.length < 64 ∧
  ∀ (ys : List Int) (p : Addr), ys.Perm ks → ys.Pairwise (· ≤ ·) → H p = none → Q (.ref p) (upd H p (.lst (ys.map V.int)))
def isTupD : PyData → Bool
  | .tuple (_ :: _) => true
  | _ => false
def isOthD : PyData → Bool
  | .tuple _ => false
  | .none => false
  | _ => true
def sortOk (ds : List PyData) : Bool := ds.all (fun d => ds.all fun e => alike d e) && (ds.all isTupD || ds.all isOthD) && ds.all fun d => decide (d.depth ≤ 20)
def intKs : List (Key × M) → Option (List Int)
  | [] => some []
  | (.inl i, _) :: r => (intKs r).map (i :: ·)
  | _ => none
abbrev leI (a b : Int) : Bool := decide (a ≤ b)
abbrev MD := M × PyData
abbrev leMD : MD → MD → Bool := dataLe false Prod.snd
def cSortD (ms : List M) (s : MS) : Res M := match ms with
  | [x] => match lstOf s.hp x with
    | some xs => match datL xs with
      | some ds => if sortOk ds = true then .ok (.lst (((xs.zip ds).mergeSort leMD).map Prod.fst)) s else .stuck
      | none => .stuck
    | none => match dictOf s.hp x with
      | some kms => match intKs kms with
        | some ks => if ks.length < 64 then .ok (.lst ((ks.mergeSort leI).map M.int)) s else .stuck
        | none => .stuck
      | none => .stuck
  | _ => .stuck
theorem intKs_keys : ∀ {kms : List (Key × M)} {ks : List Int}, intKs kms = some ks → kms.map (·.1) = ks.map Sum.inl
  | [], _, h => by cases h; rfl
  | (.inl i, m) :: r, ks, h => by
    unfold intKs at h
    cases e : intKs r with
    | none => rw [e] at h; cases h
    | some ks' =>
      rw [e] at h
      cases h
      rw [List.map_cons, intKs_keys e]
      rfl
  | (.inr x, m) :: r, ks, h => by cases h
theorem datL_len : ∀ {ms : List M} {ds : List PyData}, datL ms = some ds → ds.length = ms.length
  | [], _, h => by cases h; rfl
  | m :: ms, ds, h => by
    unfold datL at h
    cases hd : dat m with
    | none => rw [hd] at h; cases h
    | some d =>
      cases hds : datL ms with
      | none => rw [hd, hds] at h; cases h
      | some es => rw [hd, hds] at h; cases h; rw [List.length_cons, List.length_cons, datL_len hds]
theorem dpAll_mem : ∀ {xs : List V} {ds : List PyData}, DpAll T.K H xs ds → ∀ b ∈ xs.zip ds, Dp T.K H b.1 b.2
  | _, _, .nil, b, h => by simp at h
  | _, _, .cons h r, b, hb => by
    rw [List.zip_cons_cons] at hb
    rcases List.mem_cons.mp hb with rfl | hb
    · exact h
    · exact dpAll_mem r b hb
theorem dpAll_len : ∀ {xs : List V} {ds : List PyData}, DpAll T.K H xs ds → xs.length = ds.length
  | _, _, .nil => rfl
  | _, _, .cons _ r => by rw [List.length_cons, List.length_cons, dpAll_len r]
/-- M, V and data beside one another -/
theorem sortOk_of {ds : List PyData} (h : sortOk ds = true) : AllAlike ds ∧ Sortable ds ∧ ∀ d ∈ ds, d.depth ≤ 20 := by
  unfold sortOk at h
  rw [Bool.and_eq_true, Bool.and_eq_true] at h
  obtain ⟨⟨h1, h2⟩, h3⟩ := h
  refine ⟨fun d hd e he => List.all_eq_true.mp (List.all_eq_true.mp h1 d hd) e he, ?_, fun d hd => of_decide_eq_true (List.all_eq_true.mp h3 d hd)⟩
  rcases Bool.or_eq_true_iff.mp h2 with h2 | h2
  · refine .inl fun d hd => ?_
    have := List.all_eq_true.mp h2 d hd
    unfold isTupD at this
    split at this
    · exact ⟨_, _, rfl⟩
    · cases this
  · refine .inr fun d hd => ?_
    have := List.all_eq_true.mp h2 d hd
    unfold isOthD at this
    constructor
    · intro e; rw [e] at this; cases this
    · intro xs e; rw [e] at this; cases this
theorem sort_rv : ∀ {zs : List ((M × V) × PyData)}, (∀ z ∈ zs, RV T g H z.1.1 z.1.2) → RVs T g H (zs.map fun z => z.1.1) (zs.map fun z => z.1.2)
  | [], _ => .nil
  | z :: zs, h => .cons (h z (List.mem_cons_self ..)) (sort_rv fun y hy => h y (List.mem_cons_of_mem _ hy))
theorem zip3 : ∀ {ms : List M} {vs : List V} {ds : List PyData}, RVs T g H ms vs → ds.length = ms.length → ∃ zs : List ((M × V) × PyData), (∀ z ∈ zs, RV T g H z.1.1 z.1.2) ∧ zs.map (fun z => (z.1.1, z.2)) = ms.zip ds ∧ zs.map (fun z => (z.1.2, z.2)) = vs.zip ds
  | _, _, [], .nil, _ => ⟨[], by simp, rfl, rfl⟩
  | _, _, _ :: _, .nil, h => by simp at h
  | _, _, [], .cons _ _, h => by simp at h
  | m :: _, v :: _, d :: ds, .cons r rs, h => by
    obtain ⟨zs, h1, h2, h3⟩ := zip3 rs (by simpa using h)
    refine ⟨((m, v), d) :: zs, fun z hz => ?_, by rw [List.map_cons, h2]; rfl, by rw [List.map_cons, h3]; rfl⟩
    rcases List.mem_cons.mp hz with rfl | hz
    · exact r
    · exact h1 z hz
abbrev leZ : ((M × V) × PyData) → ((M × V) × PyData) → Bool := dataLe false Prod.snd
theorem sort_beside {ms : List M} {vs : List V} {ds : List PyData} (r : RVs T g H ms vs) (h : ds.length = ms.length) :
    RVs T g H (((ms.zip ds).mergeSort leMD).map Prod.fst) (((vs.zip ds).mergeSort (dataLe false Prod.snd)).map Prod.fst) := by
  obtain ⟨zs, h1, h2, h3⟩ := zip3 r h
  have e1 : (zs.mergeSort leZ).map (fun z => (z.1.1, z.2)) = (ms.zip ds).mergeSort leMD := by
    rw [← h2]
    exact sort_maps _ fun a _ b _ => rfl
  have e2 : (zs.mergeSort leZ).map (fun z => (z.1.2, z.2)) = (vs.zip ds).mergeSort (dataLe false Prod.snd) := by
    rw [← h3]
    exact sort_maps _ fun a _ b _ => rfl
  rw [← e1, ← e2, List.map_map, List.map_map]
  exact sort_rv fun z hz => h1 z ((List.mergeSort_perm zs leZ).mem_iff.mp hz)
theorem sortI_one {l m : List Int} (h : l.Perm m) (hs : l.Pairwise (· ≤ ·)) : l = m.mergeSort leI := by
  refine List.Perm.eq_of_pairwise (le := fun a b => a ≤ b) (fun a b _ _ h1 h2 => by omega) hs ?_ (h.trans (List.mergeSort_perm m leI).symm)
  have := List.pairwise_mergeSort (le := leI) (fun a b c h1 h2 => by simp only [leI, decide_eq_true_eq] at *; omega) (fun a b => by simp only [leI, Bool.or_eq_true, decide_eq_true_eq]; omega) m
  exact this.imp fun h => of_decide_eq_true h
theorem ints_rv : ∀ ks : List Int, RVs T g H (ks.map M.int) (ks.map V.int)
  | [] => .nil
  | k :: ks => .cons (.int k) (ints_rv ks)
theorem ok_sortD : CallOk C (fun vs H Q => rSortD C.X.K vs H Q ∨ rSortK vs H Q) cSortD := fun σ H g s ms xs Q r rs h => by
  unfold cSortD at h
  split at h
  · rename_i x
    cases rs with
    | cons rv r2 =>
      cases r2
      split at h
      · rename_i ys hy
        obtain ⟨a, vs, rfl, e, ry⟩ := lstOf_at r hy rv
        split at h
        · rename_i ds hd
          split at h
          · rename_i hs
            obtain ⟨s1, s2, s3⟩ := sortOk_of hs
            have dp := datL_dp ry hd
            have hl := datL_len hd
            have hl2 : vs.length = ds.length := dpAll_len dp
            refine .inl ⟨a, vs.zip ds, rfl, ?_, ?_, ?_, ?_, fun b hb => s3 _ (List.of_mem_zip hb).2, fun p hn => h.newL r (sort_beside ry hl) hn⟩
            · rw [List.map_fst_zip (by omega)]
              exact SqL.of e
            · rw [C.hK]; exact dpAll_mem dp
            · rw [List.map_snd_zip (by omega)]; exact s1
            · rw [List.map_snd_zip (by omega)]; exact s2
          · exact h.elim
        · exact h.elim
      · split at h
        · rename_i kms hk
          obtain ⟨n, a, kvs, _, rfl, _, e, rf⟩ := dictOf_at r hk rv
          split at h
          · rename_i ks hi
            split at h
            · rename_i h64
              refine .inr ⟨a, kvs, ks, rfl, e, ?_, h64, fun ys p h1 h2 hn => ?_⟩
              · rw [← rf.keys]; exact intKs_keys hi
              · rw [sortI_one h1 h2]
                exact h.newL r (ints_rv _) hn
            · exact h.elim
          · exact h.elim
        · exact h.elim
  · exact h.elim
end
end Ma
/-! Ma82: set(..) of a list of ints, and sorted(..) of it; min(..) of one list or tuple of ints. -/
namespace Ma
open L2 PySem.W PySem.Spec PySem PyProof.Rows
abbrev setLed (w : World) : Obj := { cls := .type "set", dict := none, data := .set #[] 0 (.fresh 0 0 (!w.params.followText "set-order")) }
section
variable {prog : Program} {w : World} {A : Around} {E : Value → Shared → Prop} {s : Shared} {l : Addr} {items : Array Value} {ns : List Int}
/-- what set.__init__ leaves -/
def SetMade (w : World) (s : Shared) (ns : List Int) (r : Value) (s₂ : Shared) : Prop :=
  r = .none ∧ ∃ h' tk c, s₂ = { s with heap := h', toks := tk } ∧ SetR w h' s.heap.objs.size (fun j => decide (j ∈ ns)) c ∧ c ≤ ns.length ∧ ∀ b o, s.heap.get? b = some o → h'.get? b = some o
theorem set_initI {A2 : Around} (hh : A.handled = none) (hl : s.heap.IsList l items) (hi : IntsAre items.toList ns) (hb : ns.length + 1 < scanBound) :
    wpAny (model prog w) A (Builtin.«set.__init__» ⟨[.ref s.heap.objs.size, .ref l], []⟩)
      (fun fin s' => match fin with | .done f => wants (SetMade w s ns) E (.ok f) s' | .again c' => c'.quiet = true ∧ codeAny (model prog w) A2 c' (wants (SetMade w s ns) E) s')
      (fun e s' => wants (SetMade w s ns) E (.error e) s') { s with heap := s.heap.push (setLed w) } := by
  have hn : items.size = ns.length := by rw [← hi.length, Array.length_toList]
  have lt : l < s.heap.objs.size := by
    obtain ⟨o, e, _⟩ := id hl
    exact Heap.lt_size e
  have hS : (s.heap.push (setLed w)).get? s.heap.objs.size = some (setLed w) := Heap.get?_push_size s.heap rfl
  have sz : (s.heap.push (setLed w)).objs.size = s.heap.objs.size + 1 := Heap.size_push ..
  obtain ⟨⟨cl, od, dat, sl⟩, ho, hc, n, hd⟩ := id hl
  simp only at hc hd
  subst hc hd
  have ho1 := Heap.get?_push_of_some (setLed w) ho
  have hl1 : (s.heap.push (setLed w)).IsList l items := ⟨_, ho1, rfl, n, rfl⟩
  have q1 := PySem.F.sub_list_set
  have q2 := PySem.F.sub_list_frozenset
  have q3 : (Value.type "list" == Value.type "dict") = false := by decide
  unfold Builtin.«set.__init__» noKeywords Builtin.Frozenset.updateFrom
  generalize hPI : pyIter = PI
  wp_walk
  subst hPI
  refine wpAny_pyIter_list hl1 (wpAny_bind (wpAny_runValue ?_))
  have vals : ∀ (i : Nat) (v : Value), items[i]? = some v → ∃ k t, ns[i]? = some k ∧ v = .int k t := fun i v e => by
    have z : i < ns.length := hn ▸ (Array.getElem?_eq_some_iff.mp e).1
    obtain ⟨t, rfl⟩ := IntsAre.int_at hi i v (by rw [Array.getElem?_toList]; exact e)
    exact ⟨_, t, List.getElem?_eq_getElem z, by rw [List.getD_eq_getElem?_getD, List.getElem?_eq_getElem z]; rfl⟩
  have three : A.in1.handled = none := by simp [hh]
  have z1 : l ≠ (s.heap.push (setLed w)).objs.size := by rw [sz]; exact Nat.ne_of_lt (Nat.lt_succ_of_lt lt)
  have z2 : s.heap.objs.size ∉ [(s.heap.push (setLed w)).objs.size, l] := by
    rw [sz, List.mem_cons, List.mem_singleton, not_or]
    exact ⟨Nat.ne_of_lt (Nat.lt_succ_self _), Nat.ne_of_gt lt⟩
  refine set_update_ints ((Walks.list three _ l z1 items).toS) s.heap.objs.size z2 ns hn hb vals (items.size - 0) 0 { s with heap := (s.heap.push (setLed w)).push { cls := .type "list_iterator", data := .fields #[.ref l, .int 0 0] } } (by omega) (Nat.zero_le _) ⟨⟨_, Heap.get?_push_size _ rfl, rfl, rfl⟩, hl1.push _⟩ ?first fun s' c' hm hc' hS' => ?_
  case first =>
    have z3 : ((s.heap.push (setLed w)).push { cls := .type "list_iterator", data := .fields #[.ref l, .int 0 0] }).get? s.heap.objs.size = some (setLed w) := Heap.get?_push_of_some _ hS
    exact ⟨0, Nat.le_refl 0, setR_new_at z3⟩
  obtain ⟨h', g2, d', tk', os'⟩ := s'
  have e1 : g2 = s.gens := hm.gens
  have e2 : d' = s.drawn := hm.drawn
  have e3 : os' = s.os := hm.os
  subst e1 e2 e3
  refine wpAny_pure ?_
  show wpAny _ _ (ret Value.none) _ _ _
  refine wpAny_pure ⟨rfl, h', tk', c', rfl, hS', hn ▸ hc', fun b o e => ?_⟩
  have hb0 := Heap.lt_size e
  exact hm.heap b o (by rw [List.mem_cons, List.mem_singleton, not_or, sz]; exact ⟨Nat.ne_of_lt hb0, Nat.ne_of_lt (Nat.lt_succ_of_lt hb0)⟩) (Heap.get?_push_of_some _ (Heap.get?_push_of_some _ e))
theorem call_setI {Q : Value → Shared → Prop} (hh : A.handled = none) (hl : s.heap.IsList l items) (hi : IntsAre items.toList ns) (hb : ns.length + 1 < scanBound)
    (h : ∀ (h' : Heap) (tk c : Nat), SetR w h' s.heap.objs.size (fun j => decide (j ∈ ns)) c → c ≤ ns.length → (∀ b o, s.heap.get? b = some o → h'.get? b = some o) → Q (.ref s.heap.objs.size) { s with heap := h', toks := tk }) :
    wpAny (model prog w) A (call (.type "set") [.ref l]) Q E s := by
  obtain ⟨c0, tl, hmro⟩ := PySem.F.called_set.mro
  have b1 := PySem.F.called_set.notType
  have b2 := PySem.F.called_set.canCreate
  have b3 := PySem.F.called_set.made
  have b4 := PySem.F.called_set.sub
  have b5 := PySem.F.typeCall_set_1 (.ref l)
  have b6 := PySem.F.called_set.init.lookup
  have b7 := PySem.F.called_set.init.bind (.ref s.heap.objs.size)
  refine wpAny_call (codeAny_of_tree ?_)
  show wpAny _ _ (callAny (.type "set") _) _ _ _
  refine wpAny_pure ⟨Code.quiet_builtin _ (by decide +kernel), codeAny_builtin PySem.F.entry_type_call ?_⟩
  rw [Around.under_plain (weight_type_call_type "set" [.ref l] []) rfl]
  repeat (any_goals (first | assumption | wp_step))
  refine codeAny_mono (code_set_led1 (.ref l) (E := E) (Q₁ := fun obj s₁ => obj = .ref s.heap.objs.size ∧ s₁ = { s with heap := s.heap.push (setLed w) }) ⟨rfl, rfl⟩) fun r s₁ hr => ?_
  match r, hr with
  | .error e, hr => exact hr
  | .ok (.ret obj), hr =>
    obtain ⟨rfl, rfl⟩ := hr
    have b8 : Shared.TypeIs { s with heap := s.heap.push (setLed w) } (.ref s.heap.objs.size) "set" := ⟨setLed w, Heap.get?_push_size s.heap rfl, rfl⟩
    repeat (any_goals (first | assumption | wp_step))
    refine codeAny_mono (codeAny_call_builtin (R := wants (SetMade w s ns) E) PySem.F.called_set.init.plain PySem.F.entry_set_init (check_set_init_1 b8 (set_initI ?hd hl hi hb))) fun r₂ s₂ hr₂ => ?_
    case hd => first | exact hh | simp [hh]
    match r₂, hr₂ with
    | .error e, hr₂ => exact hr₂
    | .ok (.ret r), hr₂ =>
      obtain ⟨rfl, h', tk, c', rfl, z1, z2, z3⟩ := hr₂
      repeat (any_goals (first | assumption | wp_step))
      exact h _ _ _ z1 z2 z3
end
end Ma
/-! Ma83: sorted(set(..)) of ints, min(..), setdefault in the machine. -/
namespace Ma
open L2 PySem.W PySem.Spec PySem PyProof.Rows
/-! ### the one rising list of the same ints -/
def insS (k : Int) : List Int → List Int
  | [] => [k]
  | q :: r => if k < q then k :: q :: r else if k = q then q :: r else q :: insS k r
def ssI (ks : List Int) : List Int := ks.foldr insS []
theorem insS_mem {k x : Int} : ∀ {l : List Int}, x ∈ insS k l ↔ x = k ∨ x ∈ l
  | [] => by simp [insS]
  | q :: r => by
    unfold insS
    split
    · simp
    · split
      · rename_i h; subst h; simp
      · rw [List.mem_cons, insS_mem, List.mem_cons]
        constructor
        · rintro (h | h | h)
          · exact .inr (.inl h)
          · exact .inl h
          · exact .inr (.inr h)
        · rintro (h | h | h)
          · exact .inr (.inl h)
          · exact .inl h
          · exact .inr (.inr h)
theorem insS_up {k : Int} : ∀ {l : List Int}, l.Pairwise (· < ·) → (insS k l).Pairwise (· < ·)
  | [], _ => by simp [insS]
  | q :: r, h => by
    obtain ⟨h1, h2⟩ := List.pairwise_cons.mp h
    unfold insS
    split
    · rename_i hk
      refine List.pairwise_cons.mpr ⟨fun x hx => ?_, h⟩
      rcases List.mem_cons.mp hx with rfl | hx
      · exact hk
      · have := h1 x hx; omega
    · split
      · exact h
      · refine List.pairwise_cons.mpr ⟨fun x hx => ?_, insS_up h2⟩
        rcases insS_mem.mp hx with rfl | hx
        · omega
        · exact h1 x hx
theorem ssI_mem {x : Int} : ∀ {ks : List Int}, x ∈ ssI ks ↔ x ∈ ks
  | [] => by simp [ssI]
  | k :: ks => by
    show x ∈ insS k (ssI ks) ↔ _
    rw [insS_mem, ssI_mem, List.mem_cons]
theorem ssI_up : ∀ ks : List Int, (ssI ks).Pairwise (· < ·)
  | [] => .nil
  | k :: ks => insS_up (ssI_up ks)
theorem up_one : ∀ {l m : List Int}, l.Pairwise (· < ·) → m.Pairwise (· < ·) → (∀ x, x ∈ l ↔ x ∈ m) → l = m
  | [], [], _, _, _ => rfl
  | [], y :: m, _, _, h => absurd ((h y).mpr (by simp)) (by simp)
  | x :: l, [], _, _, h => absurd ((h x).mp (by simp)) (by simp)
  | x :: l, y :: m, hl, hm, h => by
    obtain ⟨a1, a2⟩ := List.pairwise_cons.mp hl
    obtain ⟨b1, b2⟩ := List.pairwise_cons.mp hm
    have e : x = y := by
      rcases List.mem_cons.mp ((h x).mp (by simp)) with e | hx
      · exact e
      · rcases List.mem_cons.mp ((h y).mpr (by simp)) with e | hy
        · exact e.symm
        · have := a1 y hy; have := b1 x hx; omega
    subst e
    refine congrArg (x :: ·) (up_one a2 b2 fun z => ?_)
    constructor
    · intro hz
      rcases List.mem_cons.mp ((h z).mp (by simp [hz])) with e | hz'
      · have := a1 z hz; omega
      · exact hz'
    · intro hz
      rcases List.mem_cons.mp ((h z).mpr (by simp [hz])) with e | hz'
      · have := b1 z hz; omega
      · exact hz'
/-! ### set(xs) -/
def rSetL (K : PySem.W.Frag) (w : World) : RC := fun vs H Q => ∃ (a : Addr) (ns : List Int), vs = [.ref a] ∧ SqL K H a (ns.map V.int) ∧ ns.length < 60 ∧
  ∀ p c, H p = none → c ≤ ns.length → Q (.ref p) (upd H p (SetO w p (fun j => decide (j ∈ ns)) c))
section
variable {C : MC} {g g1 : Gh} {H H1 : Hp} {s : MS} {σ : L2.St} {T : Tab} {ex o e2 : Expr} {a b c : ME} {x y : Str}
def intsM : List M → Option (List Int)
  | [] => some []
  | .int i :: ms => (intsM ms).map (i :: ·)
  | _ => none
theorem intsM_map : ∀ ns : List Int, intsM (ns.map M.int) = some ns
  | [] => rfl
  | n :: ns => by show (intsM (ns.map M.int)).map _ = _; rw [intsM_map]; rfl
theorem intsM_at : ∀ {ms : List M} {vs : List V} {ns : List Int}, RVs T g H ms vs → intsM ms = some ns → vs = ns.map V.int
  | _, _, _, .nil, h => by cases h; rfl
  | m :: ms, v :: vs, ns, .cons r rs, h => by
    cases r with
    | int i =>
      simp only [intsM] at h
      cases e : intsM ms with
      | none => rw [e] at h; cases h
      | some ns' => rw [e] at h; cases h; rw [List.map_cons, intsM_at rs e]
    | _ => cases h
/-! ### min(xs), one list or tuple of ints -/
/-! ### d.setdefault(k, v) -/
end
end Ma
/-! Ma84: the head's run, looked at in three parts (each by itself wants less room). -/
/-! Ma85: comprehensions with a test, with a heap that grows; sorted lists of tuples of ints. -/
namespace Ma
open L2 PySem.W PySem.Spec PySem PyProof.Rows
theorem lc_if {α : Type} {em f : α → M} {p : α → Bool} {vs : List Nat} {tg : MG} {tt : MT} {el : ME} : ∀ {xs : List α} {acc : List M} {s : MS}, acc.length + xs.length ≤ big →
    (∀ x ∈ xs, ∃ s2 e3, tg (em x) ⟨wipeM s.env vs, s.hp⟩ = .ok () s2 ∧ tt s2 = .ok (p x) ⟨e3, s.hp⟩ ∧ (p x = true → ∃ e4, el ⟨e3, s.hp⟩ = .ok (f x) ⟨e4, s.hp⟩)) →
    lcLoop vs tg tt el (xs.map em) acc s = .ok (acc ++ (xs.filter p).map f) s
  | [], acc, s, _, _ => by rw [List.map_nil, lcLoop]; simp
  | x :: xs, acc, s, hl, h => by
    rw [List.length_cons] at hl
    obtain ⟨s2, e3, a1, a2, a4⟩ := h x List.mem_cons_self
    have hb : acc.length < big := by omega
    rw [List.map_cons, lcLoop, a1]
    dsimp only
    rw [a2]
    cases hp1 : p x with
    | false =>
      dsimp only
      rw [List.filter_cons_of_neg (by rw [hp1]; decide)]
      exact lc_if (xs := xs) (by omega) fun y hy => h y (List.mem_cons_of_mem _ hy)
    | true =>
      dsimp only
      obtain ⟨e4, c1⟩ := a4 hp1
      rw [c1]
      dsimp only
      rw [if_pos hb, List.filter_cons_of_pos hp1, List.map_cons]
      refine (lc_if (xs := xs) (by simp only [List.length_append, List.length_cons, List.length_nil]; omega) fun y hy => h y (List.mem_cons_of_mem _ hy)).trans ?_
      rw [List.append_assoc]
      rfl
theorem mlc_if {α : Type} {em f : α → M} {p : α → Bool} {vs : List Nat} {it : MI} {tg : MG} {tt : MT} {el : ME} {xs : List α} {s s1 : MS} (hi : it s = .ok (xs.map em) s1) (hl : xs.length ≤ big)
    (h : ∀ x ∈ xs, ∃ s2 e3, tg (em x) ⟨wipeM s1.env vs, s1.hp⟩ = .ok () s2 ∧ tt s2 = .ok (p x) ⟨e3, s1.hp⟩ ∧ (p x = true → ∃ e4, el ⟨e3, s1.hp⟩ = .ok (f x) ⟨e4, s1.hp⟩)) :
    mLc vs it tg tt el s = .ok (.lst ((xs.filter p).map f)) s1 := by
  unfold mLc
  rw [hi]
  show Res.bind (lcLoop vs tg tt el (xs.map em) [] s1) _ = _
  rw [lc_if (acc := []) (by simpa using hl) h]
  rfl
/-! ### tuples of ints, sorted -/
abbrev tupI (l : List Int) : M := .tup (l.map M.int)
abbrev tupD (l : List Int) : PyData := .tuple (l.map PyData.int)
theorem datLInts : ∀ l : List Int, datL (l.map M.int) = some (l.map PyData.int)
  | [] => rfl
  | i :: l => by
    show (match dat (.int i), datL (l.map M.int) with | some d, some ds => some (d :: ds) | _, _ => none) = _
    rw [datLInts l]
    rfl
theorem datLTups : ∀ L : List (List Int), datL (L.map tupI) = some (L.map tupD)
  | [] => rfl
  | l :: L => by
    show (match dat (tupI l), datL (L.map tupI) with | some d, some ds => some (d :: ds) | _, _ => none) = _
    rw [datLTups L, show dat (tupI l) = some (tupD l) by show (datL (l.map M.int)).map _ = _; rw [datLInts]; rfl]
    rfl
theorem tups_ok {L : List (List Int)} (h : ∀ l ∈ L, l ≠ []) : sortOk (L.map tupD) = true := by
  unfold sortOk
  rw [Bool.and_eq_true, Bool.and_eq_true, Bool.or_eq_true]
  refine ⟨⟨?_, .inl ?_⟩, ?_⟩
  · refine List.all_eq_true.mpr fun d hd => List.all_eq_true.mpr fun e he => ?_
    obtain ⟨a, _, rfl⟩ := List.mem_map.mp hd
    obtain ⟨b, _, rfl⟩ := List.mem_map.mp he
    exact alike_ints a b
  · refine List.all_eq_true.mpr fun d hd => ?_
    obtain ⟨a, ha, rfl⟩ := List.mem_map.mp hd
    cases a with
    | nil => exact absurd rfl (h _ ha)
    | cons x a => rfl
  · refine List.all_eq_true.mpr fun d hd => ?_
    obtain ⟨a, ha, rfl⟩ := List.mem_map.mp hd
    show decide (PyData.depthAll (a.map PyData.int) + 1 ≤ 20) = true
    rw [depth_ints]
    decide
theorem sortD_tups {L1 L2 : List (List Int)} (hp : L1.Perm L2) (hs : L2.Pairwise (· < ·)) (hn : ∀ l ∈ L2, l ≠ []) {s : MS} : cSortD [.lst (L1.map tupI)] s = .ok (.lst (L2.map tupI)) s := by
  unfold cSortD
  dsimp only
  rw [show lstOf s.hp (.lst (L1.map tupI)) = some (L1.map tupI) from rfl]
  dsimp only
  rw [datLTups]
  dsimp only
  rw [if_pos (tups_ok fun l hl => hn l (hp.mem_iff.mp hl))]
  have ez : ∀ L : List (List Int), (L.map tupI).zip (L.map tupD) = L.map fun l => (tupI l, tupD l) := fun L => by
    induction L with
    | nil => rfl
    | cons l L ih => rw [List.map_cons, List.map_cons, List.zip_cons_cons, ih]; rfl
  have e2 : (L1.mergeSort (dataLe false tupD)).map (fun l => (tupI l, tupD l)) = (L1.map fun l => (tupI l, tupD l)).mergeSort leMD := sort_maps _ fun a _ b _ => rfl
  have lt_iff : ∀ a b : List Int, dataLt (tupD a) (tupD b) = decide (a < b) := fun a b => (dataLt_tuple _ _).trans (dataLt_ints a b)
  have le_iff : ∀ a b : List Int, dataLe false tupD a b = true ↔ ¬ b < a := fun a b => by
    rw [dataLe_eq]
    show (!dataLt (tupD b) (tupD a)) = true ↔ _
    rw [lt_iff]
    simp
  have e3 : L2 = L1.mergeSort (dataLe false tupD) := by
    refine List.Perm.eq_of_pairwise (le := fun a b => dataLe false tupD a b = true) (fun a b _ _ h1 h2 => ?_) (hs.imp fun {a b} h => (le_iff a b).mpr (List.lt_asymm h)) (sort_pairwise (sortLe_total _ _ _) L1) (hp.symm.trans (List.mergeSort_perm L1 _).symm)
    exact List.le_antisymm ((le_iff a b).mp h1) ((le_iff b a).mp h2)
  rw [ez, ← e2, ← e3, List.map_map]
  rfl
end Ma
/-! Ma86: how long a text of data is; repr of long data. -/
namespace Ma
open L2 PySem.W PySem.Spec PySem PyProof.Rows
end Ma
/-! Ma87: sets of ints as values: set(xs), in, not in. -/
namespace Ma
open L2 PySem.W PySem.Spec PySem PyProof.Rows
end Ma
/-! Ma88: the truth of lists, tuples, dicts; in, not in of a tuple of ints. -/
namespace Ma
open L2 PySem.W PySem.Spec PySem PyProof.Rows
section
variable {C : MC} {g g1 : Gh} {H H1 : Hp} {s : MS} {σ : L2.St} {T : Tab} {ea : Expr} {a : ME}
def oInT (neg : Bool) (o : M → M → MS → Res M) (x y : M) (s : MS) : Res M := match y with
  | .tup ms => match x, intsM ms with
    | .int k, some ks => .ok (.bl (if neg then !decide (k ∈ ks) else decide (k ∈ ks))) s
    | _, _ => .stuck
  | _ => o x y s
theorem inV_ints (k : Int) : ∀ ks : List Int, inV (.int k) (ks.map V.int) = decide (k ∈ ks)
  | [] => by simp [inV]
  | j :: ks => by
    have := inV_ints k ks
    unfold inV at this ⊢
    rw [List.map_cons, List.any_cons, this]
    by_cases e : j = k
    · subst e; simp [eqV]
    · have : ¬ k = j := fun z => e z.symm
      simp [eqV, e, this]
theorem flat_ints (ks : List Int) : (ks.map V.int).all flatV = true := by
  rw [List.all_eq_true]
  intro x hx
  obtain ⟨k, _, rfl⟩ := List.mem_map.mp hx
  rfl
theorem op_inT {o : M → M → MS → Res M} (h : Op2Ok C (compareOp .In) o) : Op2Ok C (compareOp .In) (oInT false o) := by
  intro pins sh σ H g ms m1 m2 x y v u Q I r r1 r2 l1 l2 q
  unfold oInT at q
  split at q
  · rename_i zs
    split at q
    · rename_i k ks hi
      cases r2 with
      | @tup a _ vs e rs =>
        cases r1
        have ev := intsM_at rs hi
        subst ev
        refine op_in_seq pins sh σ H _ _ v u Q I l1 l2 ⟨a, _, rfl, .inr (SqT.of e), rfl, flat_ints ks, ?_⟩
        rw [inV_ints]
        exact q.ret r (.bl _)
    · exact q.elim
  · exact h pins sh σ H g ms m1 m2 x y v u Q I r r1 r2 l1 l2 q
end
end Ma
/-! Ma89: repr of texts, truths, None, in the machine. -/
namespace Ma
open L2 PySem.Spec PySem PyProof.Rows
section
variable {C : MC} {g g1 : Gh} {H H1 : Hp} {s : MS} {σ : L2.St} {T : Tab}
def rReprS : RC := fun xs H Q => (∃ x : Str, xs = [.str x] ∧ (reprText x).length ≤ sizeLine ∧ Q (.str (reprText x)) H) ∨ (∃ b : Bool, xs = [.bl b] ∧ Q (.str (if b then "True" else "False")) H) ∨ (xs = [.non] ∧ Q (.str "None") H)
theorem call_reprSO {X : Cx} : CallR X (.builtin "repr") rReprS := by
  intro pins s σ H xs us Q I r h
  rcases h with ⟨x, rfl, hz, q⟩ | ⟨b, rfl, q⟩ | ⟨rfl, q⟩
  · obtain ⟨u, rfl, t, rfl⟩ := vals1 r
    exact PySem.P.repr_of_str ⟨.str _, H, I.tok _, ⟨_, rfl⟩, q⟩ hz
  · obtain ⟨u, rfl, hu⟩ := vals1 r
    cases hu
    exact PySem.P.repr_of_bool ⟨.str _, H, I.tok _, ⟨_, rfl⟩, q⟩
  · obtain ⟨u, rfl, hu⟩ := vals1 r
    cases hu
    exact PySem.P.repr_of_none ⟨.str _, H, I.tok _, ⟨_, rfl⟩, q⟩
def cReprS (o : List M → MS → Res M) (ms : List M) (s : MS) : Res M := match ms with
  | [.str x] => if (reprText x).length ≤ sizeLine then .ok (.str (reprText x)) s else .stuck
  | [.bl b] => .ok (.str (if b then "True" else "False")) s
  | [.non] => .ok (.str "None") s
  | ms => o ms s
theorem ok_reprS {R : RC} {o : List M → MS → Res M} (ho : CallOk C R o) : CallOk C (fun xs H Q => rReprS xs H Q ∨ R xs H Q) (cReprS o) := fun σ H g s ms xs Q r rs h => by
  unfold cReprS at h
  split at h
  case h_1 x =>
    by_cases hb : (reprText x).length ≤ sizeLine
    · rw [if_pos hb] at h
      cases rs with
      | cons r1 r2 => cases r2; cases r1; exact .inl (.inl ⟨x, rfl, hb, h.same r (.str _)⟩)
    · rw [if_neg hb] at h; exact h.elim
  case h_2 b =>
    cases rs with
    | cons r1 r2 => cases r2; cases r1; exact .inl (.inr (.inl ⟨b, rfl, h.same r (.str _)⟩))
  case h_3 =>
    cases rs with
    | cons r1 r2 => cases r2; cases r1; exact .inl (.inr (.inr ⟨rfl, h.same r (.str _)⟩))
  case h_4 => exact .inr (ho σ H g s ms xs Q r rs h)
theorem call_reprB {X : Cx} (hg : X.A.guards = some []) (hu : X.A.units + 65 < cLine) : CallR X (.builtin "repr") (fun xs H Q => rReprS xs H Q ∨ ((∃ i, xs = [.int i] ∧ i.natAbs.log2 < 1920 ∧ Q (.str (toString i)) H) ∨ rReprD X.K xs H Q)) := CallR.alt call_reprSO (call_reprA hg hu)
end
end Ma
/-! Ma90: d.get(k), d.get(k, x), in the machine. -/
namespace Ma
open L2 PySem.W PySem.Spec PySem PyProof.Rows
end Ma
/-! Ma91: zip of tuples; len of a set; a tuple from its end to its start. -/
namespace Ma
open L2 HT PySem.W PySem.Spec PySem PyProof.Rows
/-! ### t[::-1] -/
section
variable {C : MC} {g g1 : Gh} {H H1 : Hp} {s : MS} {σ : L2.St} {T : Tab} {ex e2 : Expr} {a : ME} {ma : MA} {pos p tpos : Pos}
theorem RVs.rev : ∀ {ms : List M} {vs : List V}, RVs T g H ms vs → RVs T g H ms.reverse vs.reverse
  | _, _, .nil => .nil
  | _, _, .cons r t => by
    rw [List.reverse_cons, List.reverse_cons]
    exact (RVs.rev t).app (.cons r .nil)
/-! ### zip -/
/-! ### len of a set -/
end
end Ma
/-! Ma92: repr of a dict of plain keys and values. -/
namespace Ma
open L2 PySem.W PySem.Spec PySem PyProof.Rows
/-- a plain value -/
def flD : M → Option PyData
  | .non => some .none
  | .bl b => some (.bool b)
  | .int i => some (.int i)
  | .str x => some (.str x)
  | _ => none
def kyD : Key → PyData
  | .inl i => .int i
  | .inr x => .str x
def kvD : List (Key × M) → Option (List (PyData × PyData))
  | [] => some []
  | (k, m) :: r => match flD m, kvD r with
    | some d, some ds => some ((kyD k, d) :: ds)
    | _, _ => none
section
variable {C : MC} {g g1 : Gh} {H H1 : Hp} {s : MS} {σ : L2.St} {T : Tab} {hp : Heap}
theorem flD_reads {m : M} {x : V} {u : Value} {d : PyData} (h : flD m = some d) (rv : RV T g H m x) (r : RelV x u) : Reads hp u d [] := by
  cases rv <;> first
    | (cases h; cases r; exact .none)
    | (cases h; cases r; exact .bool _)
    | (cases h; obtain ⟨t, rfl⟩ := r; exact .int _ _)
    | (cases h; obtain ⟨t, rfl⟩ := r; exact .str _ _)
    | cases h
theorem key_reads {k : Key} {u : Value} (h : keyIs k u = true) : Reads hp u (kyD k) [] := by
  rcases keyIs_shape h with ⟨i, t, rfl, rfl⟩ | ⟨x, t, rfl, rfl⟩
  · exact .int _ _
  · exact .str _ _
theorem kvD_reads {P : Program} {w : World} : ∀ {kms : List (Key × M)} {ds : List (PyData × PyData)} {kvs : List (Key × V)} {vs : List (Key × Value)} {es : List DictEntry}, kvD kms = some ds → RFs T g H kms kvs → KV kvs vs → Pairs (mixKind P w) es vs →
    ReadsAll hp (es.map (·.key)) (ds.map (·.1)) [] ∧ ReadsAll hp (es.map (·.val)) (ds.map (·.2)) []
  | [], _, _, _, _, h, .nil, k, p => by
    cases h; cases k; cases p
    exact ⟨.nil, .nil⟩
  | (k, m) :: r, _, _, _, _, h, .cons rv rs, kv, p => by
    unfold kvD at h
    split at h
    · rename_i d ds h1 h2
      cases h
      cases kv with
      | cons k1 k2 => cases p with
        | cons p1 p2 p3 =>
          obtain ⟨a, b⟩ := kvD_reads h2 rs k2 p3
          obtain ⟨q1, q2⟩ := k1
          have e1 := p1
          rw [← q1] at e1
          have e1 := key_reads (hp := hp) (show keyIs k _ = true from e1)
          have e2 := flD_reads (hp := hp) h1 rv q2
          rw [← p2] at e2
          exact ⟨.cons (as := []) (bs := []) e1 a, .cons (as := []) (bs := []) e2 b⟩
    · cases h
end
end Ma
/-! Ma93: sorted of a tuple; a sum of lists as a box. -/
namespace Ma
open L2 PySem.W PySem.Spec PySem PyProof.Rows
section
variable {prog : Program} {w : World} {A : Around} {E : Value → Shared → Prop} {s : Shared}
theorem collect_tup {l : Addr} {vs : List Value} {Q : List Value → Shared → Prop} (hl : IsTup s.heap l vs.toArray) (h : Q vs { s with heap := (s.heap.push (seqObj "list" #[] 0)).update s.heap.objs.size (Obj.mapSeq (· ++ vs.toArray)) }) (hz : vs.length ≤ sizeLine) :
    wpAny (model prog w) A (collect (.ref l)) Q E s := by
  obtain ⟨o, ho, hc, n, hd⟩ := id hl
  unfold collect
  refine wpAny_bind (wpAny_runValue (codeAny_builtin entry_proto_collect' ?_))
  show wpAny _ _ (do again (.builtin "list.__iadd__" ⟨[← newList [], .ref l], []⟩)) _ _ s
  refine wpAny_bind (wpAny_newList (wpAny_pure ⟨Code.quiet_builtin _ (by decide +kernel), codeAny_builtin entry_list_iadd' ?_⟩))
  show wpAny _ _ (Builtin.List.listExtendWith (.ref s.heap.objs.size) (.ref l) (.ref s.heap.objs.size)) _ _ { s with heap := s.heap.push (seqObj "list" #[] 0) }
  unfold Builtin.List.listExtendWith
  have ho' : (s.heap.push (seqObj "list" #[] 0)).get? l = some o := Heap.get?_push_of_some _ ho
  refine wpAny_bind (wpAny_typeOf (T := "tuple") ⟨o, ho', hc⟩ ?_)
  have ht : (Value.type "tuple" == Value.type "tuple") = true := by rfl
  rw [if_pos (by rw [ht]; simp)]
  refine wpAny_bind (listItems_at ho' hd ?_)
  refine wpAny_bind (listItems_at (xs := #[]) (n := 0) (Heap.get?_push_size _ rfl) rfl ?_)
  rw [if_neg (by simp)]
  refine wpAny_bind (listUpdate_at (xs := #[]) (n := 0) (Heap.get?_push_size _ rfl) rfl ?_ (Nat.zero_le _) (by show (#[] ++ vs.toArray).size ≤ sizeLine + 1; simp only [Array.size_append, List.size_toArray, List.length_nil]; omega))
  refine wpAny_pure ?_
  show wpAny (model prog w) A (do
      let o ← load s.heap.objs.size
      match o.data with
      | .seq xs _ => pure xs.toList
      | _ => unsupported "internal:collect") Q E { s with heap := (s.heap.push (seqObj "list" #[] 0)).update s.heap.objs.size (Obj.mapSeq (· ++ vs.toArray)) }
  refine wpAny_bind (wpAny_load (get?_update_seq (Heap.get?_push_size _ rfl) _) ?_)
  show wpAny _ _ (pure ((#[] : Array Value) ++ vs.toArray).toList) Q E _
  rw [show ((#[] : Array Value) ++ vs.toArray).toList = vs by simp]
  exact wpAny_pure h
theorem sortedT_vals {κ : PyProof.Rows.KeyKind} {l : Addr} {vs : List Value} {Q : Value → Shared → Prop} (hl : IsTup s.heap l vs.toArray) (S : SortsAt prog w A.in1.in1 { s with heap := sortingHeap (copyHeap s.heap vs) (s.heap.objs.size + 1) vs } κ vs) (hL : vs.length ≤ sizeLine)
    (h : Q (.ref (s.heap.objs.size + 1)) { s with heap := sortedAll s.heap vs (sortVals κ false vs vs).toArray }) : wpAny (model prog w) A (call (.builtin "sorted") [.ref l]) Q E s := by
  refine call_function_entry_kw kind_sorted plain_sorted entry_sorted (args_sorted1 _) ?_
  unfold Builtin.«sorted»
  refine wpAny_bind (m := checkCount "sorted" 1 1 _) (wpAny_pure ?_)
  refine wpAny_bind (collect_tup hl ?_ hL)
  refine wpAny_bind (wpAny_newList ?_ hL)
  have hsz : ((s.heap.push (seqObj "list" #[] 0)).update s.heap.objs.size (Obj.mapSeq (· ++ vs.toArray))).objs.size = s.heap.objs.size + 1 := by rw [Heap.size_update, size_push']
  show wpAny _ _ _ _ _ { s with heap := copyHeap s.heap vs }
  rw [hsz]
  refine wpAny_bind (wpAny_holding (wpAny_call_entry_kw slot_list_sort ⟨_, copyHeap_at s.heap vs, rfl⟩ entry_list_sort ?body (args_list_sort _)))
  case body =>
    show wpAny (model prog w) A.in1.in1 (Builtin.«list.sort» ⟨[.ref (s.heap.objs.size + 1)], []⟩) _ _ _
    refine wpAny_mono (list_sort_vals (P := fun f s' => f = .done (.ret .none) ∧ Q (.ref (s.heap.objs.size + 1)) s') (s := { s with heap := copyHeap s.heap vs }) (copyHeap_at s.heap vs) S hL ⟨rfl, h⟩) (fun f s' hf => ?_) fun _ _ e => e
    obtain ⟨rfl, hq⟩ := hf
    exact ⟨_, rfl, wpAny_pure ⟨_, rfl, hq⟩⟩
theorem sortedT_data {β : Type} {vs : List Value} {bs : List β} {enc : β → PyData} {R : Value → β → Prop} {l : Addr} {Q : Value → Shared → Prop} (hl : IsTup s.heap l vs.toArray) (e : EachIs R vs bs) (er : EachIs (fun v b => ∃ as, Reads s.heap v (enc b) as) vs bs) (hal : AllAlike (bs.map enc)) (hk : Sortable (bs.map enc)) (hL : bs.length ≤ sizeLine)
    (hu : ∀ b, b ∈ bs → A.units + 2 + (enc b).depth < cLine) (h : ∀ out, out.length = bs.length → EachIs R out (bs.mergeSort (dataLe false enc)) → Q (.ref (s.heap.objs.size + 1)) { s with heap := sortedAll s.heap vs (List.toArray out) }) :
    wpAny (model prog w) A (call (.builtin "sorted") [.ref l]) Q E s := by
  have er2 : EachIs (fun v b => ∃ as, Reads (sortingHeap (copyHeap s.heap vs) (s.heap.objs.size + 1) vs) v (enc b) as) vs bs := er.mono fun _ _ ⟨as, r⟩ => ⟨as, PyProof.Rows.Reads.keeps (fun _ _ => sorting_copy_old) r⟩
  exact sortedT_vals hl (SortsAt.data (s := { s with heap := sortingHeap (copyHeap s.heap vs) (s.heap.objs.size + 1) vs }) (each_map (R := fun v d => ∃ as, Reads (sortingHeap (copyHeap s.heap vs) (s.heap.objs.size + 1) vs) v d as) enc er2) hal hk (bound_map hu)) (by rw [e.length]; exact hL) (h _ (by rw [sortVals_length false rfl]; exact e.length) (sortVals_data false e er2 hal))
end
section
variable {X : Cx}
def rSortTD (K : PySem.W.Frag) : RC := fun vs H Q => ∃ (a : Addr) (bs : List VD), vs = [.ref a] ∧ SqT K H a (bs.map Prod.fst) ∧ (∀ b ∈ bs, Dp K H b.1 b.2) ∧ AllAlike (bs.map Prod.snd) ∧ Sortable (bs.map Prod.snd) ∧ (∀ b ∈ bs, b.2.depth ≤ 20) ∧
  ∀ p, H p = none → Q (.ref p) (upd H p (.lst ((bs.mergeSort (dataLe false Prod.snd)).map Prod.fst)))
theorem cr_sortTD (hu : X.A.units + 64 < cLine) : CallR X (.builtin "sorted") (rSortTD X.K) := by
  intro pins s σ H vs us Q I r h
  obtain ⟨a, bs, rfl, hs, hd, hal, hk, hdep, q⟩ := h
  obtain ⟨its, rv, hl, hz⟩ := I.tuple hs
  rw [Vals.ref1 r]
  have e := vals_each rv
  have er : EachIs (fun v (b : VD) => ∃ as, Reads s.heap v b.2 as) its bs := each_and e fun u b hb ru => Dp.reads I _ _ _ (hd b hb) ru
  rw [List.length_map] at hz
  refine sortedT_data (enc := Prod.snd) hl e er hal hk hz (fun b hb => by have := hdep b hb; omega) fun out hlen ho => ?_
  obtain ⟨ep, he'⟩ := PyProof.Rows.sortedAll_at s.heap its out.toArray
  have hv := each_vals ho
  have hlen : ((bs.mergeSort (dataLe false Prod.snd)).map Prod.fst).length ≤ sizeLine := by
    rw [List.length_map, List.length_mergeSort]
    exact hz
  exact ⟨.ref _, upd H (s.heap.objs.size + 1) (.lst ((bs.mergeSort (dataLe false Prod.snd)).map Prod.fst)), I.laid (t' := s.toks) (fun _ _ => PyProof.Rows.sortedAll_old) (Nat.le_succ _) ⟨hlen, out, ep, hv, he'⟩, rfl, q _ (I.hok.fresh (Nat.le_succ _))⟩
end
section
variable {C : MC} {g g1 : Gh} {H H1 : Hp} {s : MS} {σ : L2.St} {T : Tab}
/-- sorted, of a tuple too -/
def cSortT (o : List M → MS → Res M) (ms : List M) (s : MS) : Res M := match ms with
  | [.tup xs] => match datL xs with
    | some ds => if sortOk ds = true then .ok (.lst (((xs.zip ds).mergeSort leMD).map Prod.fst)) s else .stuck
    | none => .stuck
  | ms => o ms s
theorem ok_sortT {R : RC} {o : List M → MS → Res M} (ho : CallOk C R o) : CallOk C (fun vs H Q => rSortTD C.X.K vs H Q ∨ R vs H Q) (cSortT o) := fun σ H g s ms xs Q r rs h => by
  unfold cSortT at h
  split at h
  · rename_i ys
    cases rs with
    | cons rv r2 =>
      cases r2
      cases rv with
      | @tup a _ vs e ry =>
        split at h
        · rename_i ds hd
          split at h
          · rename_i hs
            obtain ⟨s1, s2, s3⟩ := sortOk_of hs
            have dp := datL_dp ry hd
            have hl := datL_len hd
            have hl2 : vs.length = ds.length := dpAll_len dp
            refine .inl ⟨a, vs.zip ds, rfl, ?_, ?_, ?_, ?_, fun b hb => s3 _ (List.of_mem_zip hb).2, fun p hn => h.newL r (sort_beside ry hl) hn⟩
            · rw [List.map_fst_zip (by omega)]
              exact .inl (.inl e)
            · rw [C.hK]; exact dpAll_mem dp
            · rw [List.map_snd_zip (by omega)]; exact s1
            · rw [List.map_snd_zip (by omega)]; exact s2
          · exact h.elim
        · exact h.elim
  · exact .inr (ho σ H g s ms xs Q r rs h)
end
end Ma
/-! Ma94: sorted(set(t)) of a tuple of ints. -/
namespace Ma
open L2 PySem.W PySem.Spec PySem PyProof.Rows
end Ma
/-! Ma95: sorted(set(xs)) of a long list of ints with few different ones. -/
namespace Ma
open L2 PySem.W PySem.Spec PySem PyProof.Rows
theorem len_sub : ∀ {l m : List Int}, l.Nodup → (∀ x ∈ l, x ∈ m) → l.length ≤ m.length
  | [], m, _, _ => Nat.zero_le _
  | a :: l, m, h, hs => by
    obtain ⟨h1, h2⟩ := List.nodup_cons.mp h
    have ha := hs a List.mem_cons_self
    have := len_sub (l := l) (m := m.erase a) h2 fun x hx => by
      have : x ≠ a := fun e => h1 (e ▸ hx)
      exact (List.mem_erase_of_ne this).mpr (hs x (List.mem_cons_of_mem _ hx))
    have hl := List.length_erase_of_mem ha
    have hp : 0 < m.length := List.length_pos_of_mem ha
    simp only [List.length_cons]
    omega
theorem setR_le {w : World} {h : Heap} {a : Addr} {ns : List Int} {n : Nat} (R : SetR w h a (fun j => decide (j ∈ ns)) n) : n ≤ (ssI ns).length := by
  obtain ⟨o, es, ep, t, _, _, _, _, nd, mem, _, _, sz, _, _⟩ := R
  have := len_sub nd (m := ssI ns) fun x hx => ssI_mem.mpr (of_decide_eq_true ((mem x).mpr hx))
  rw [List.length_map, Array.length_toList] at this
  omega
def rSetD (K : PySem.W.Frag) (w : World) : RC := fun vs H Q => ∃ (a : Addr) (ns : List Int), vs = [.ref a] ∧ SqL K H a (ns.map V.int) ∧ ns.length < 4000 ∧
  ∀ p c, H p = none → c ≤ (ssI ns).length → Q (.ref p) (upd H p (SetO w p (fun j => decide (j ∈ ns)) c))
theorem cr_setD {X : Cx} (hc : X.calm = true) : CallR X (.type "set") (rSetD X.K X.w) := by
  intro pins s σ H vs us Q I r h
  obtain ⟨a, ns, rfl, hs, hl, q⟩ := h
  obtain ⟨its, rv, pl, hz⟩ := I.list hs
  rw [Vals.ref1 r]
  have hi : IntsAre its.toArray.toList ns := by simpa using rv.ints
  refine call_setI (I.ok.hd hc) pl.isList hi (by unfold scanBound; omega) fun h' tk c R hcn k => ?_
  exact ⟨.ref _, upd H s.heap.objs.size (SetO X.w s.heap.objs.size (fun j => decide (j ∈ ns)) c), I.laid (t' := tk) k (Nat.le_refl _) (setO_new R), rfl, q _ c (I.hok.fresh (Nat.le_refl _)) (setR_le R)⟩
section
variable {C : MC} {g g1 : Gh} {H H1 : Hp} {s : MS} {σ : L2.St} {T : Tab} {ex o e2 : Expr} {a b c : ME} {x y : Str}
def mSetD (a : ME) : ME := fun s => (a s).bind fun m s1 => match lstOf s1.hp m with
  | some ms => match intsM ms with
    | some ns => if ns.length < 4000 ∧ (ssI ns).length < 60 then .ok (.lst ((ssI ns).map M.int)) s1 else .stuck
    | none => .stuck
  | none => .stuck
theorem em_setD {p1 p2 p3 p4 : Pos} (hc : C.X.calm = true) (hm1 : C.X.mg "sorted" = none) (hm2 : C.X.mg "set" = none) (ha : PMe C ex a) (hg1 : Gl C.X "sorted" := by rfl) (hg2 : Gl C.X "set" := by rfl)
    (he : starEach [Expr.Call (.Name "set" p1) [ex] [] p2] C.X.env = (false, eval (Expr.Call (.Name "set" p1) [ex] [] p2) C.X.env) :: starEach [] C.X.env := by rfl) (hpl : (backTo p4 (starEach ([] : List Expr) C.X.env)).any (·.1) = false := by rfl)
    (he' : starEach [ex] C.X.env = (false, eval ex C.X.env) :: starEach [] C.X.env := by rfl) (hpl' : (backTo p2 (starEach ([] : List Expr) C.X.env)).any (·.1) = false := by rfl)
    (hv1 : bootBuiltins "sorted" = some (.builtin "sorted") := by first | rfl | decide +kernel) (hv2 : bootBuiltins "set" = some (.type "set") := by first | rfl | decide +kernel) :
    PMe C (.Call (.Name "sorted" p3) [.Call (.Name "set" p1) [ex] [] p2] [] p4) (mSetD a) :=
  wkE (pe_callB (cr_sortedSet hc) hg1 hm1 hv1 (pa_cons (pe_callTy (cr_setD hc) hg2 hm2 hv2 (pa_cons ha pa_nil he') (he := he') (hpl := hpl')) pa_nil he) (he := he) (hpl := hpl)) fun σ H Q h => by
    obtain ⟨g, s, r, q⟩ := rdE_bind h
    refine ⟨g, s, r, q.imp ?_⟩
    rintro v H1 ⟨m, s1, g1, r1, rv, q1⟩
    split at q1
    · rename_i ms hl
      split at q1
      · rename_i ns hi
        split at q1
        · rename_i h60
          obtain ⟨h60, h61⟩ := h60
          obtain ⟨p, vs, rfl, e, rs⟩ := lstOf_at r1 hl rv
          have ev := intsM_at rs hi
          subst ev
          refine ⟨p, ns, rfl, SqL.of e, h60, fun p1 c hn hcn => ?_⟩
          have r2 : C.rel g1 s1 σ (upd H1 p1 (SetO C.X.w p1 (fun j => decide (j ∈ ns)) c)) := r1.laid hn (fun _ z => by unfold SetO at z; cases z)
          refine ⟨p1, _, c, rfl, upd_same, by omega, fun ks p2 h1 h2 _ hn2 => ?_⟩
          have ek : ks = ssI ns := up_one h1 (ssI_up ns) fun k => by rw [h2 k, ssI_mem, decide_eq_true_eq]
          rw [ek]
          exact (q1.later (mono_laid r1.h hn)).newL r2 (ints_rv _) hn2
        · exact q1.elim
      · exact q1.elim
    · exact q1.elim
end
end Ma
/-! Ma96: defs with keyword-only parameters, called with and without keywords. -/
namespace Ma
open L2 PySem.Spec PySem PyProof.Rows
/-! ### arguments by keywords -/
abbrev PMk (C : MC) (e : List Keyword) (m : MA) : Prop := L2.PK C.X e (rdA C m)
theorem wkK {X : Cx} {e : List Keyword} {t t' : TA} (h : L2.PK X e t) (k : ∀ σ H Q, t' σ H Q → t σ H Q) : L2.PK X e t' := ⟨fun pos pins s σ H Q I q => h.run pos pins s σ H Q I (k _ _ _ q)⟩
/-- n by position, then k by keywords -/
def mCat (n k : Nat) (a b : MA) : MA := fun s => (a s).bind fun xs s1 => if xs.length = n then (b s1).bind fun ys s2 => if ys.length = k then .ok (xs ++ ys) s2 else .stuck else .stuck
theorem mcat_of {n k : Nat} {a b : MA} {s s1 s2 : MS} {xs ys : List M} (h : a s = .ok xs s1) (h2 : b s1 = .ok ys s2) (l1 : xs.length = n := by rfl) (l2 : ys.length = k := by rfl) : mCat n k a b s = .ok (xs ++ ys) s2 := by
  unfold mCat; rw [h]; show (if xs.length = n then _ else _) = _; rw [if_pos l1, h2]; exact if_pos l2
theorem bind_if {α β : Type} {c : Prop} [Decidable c] {a : Res α} {f : α → MS → Res β} : (if c then a else .stuck).bind f = if c then a.bind f else .stuck := by split <;> rfl
theorem bind_as {α β γ : Type} {r : Res α} {f : α → MS → Res β} {g : β → MS → Res γ} : (r.bind f).bind g = r.bind fun x s => (f x s).bind g := by cases r <;> rfl
theorem mcat_fn {n k : Nat} {a b : MA} {F : Fn} {s : MS} : mFn (mCat n k a b) F s = (a s).bind fun xs s1 => if xs.length = n then (b s1).bind fun ys s2 => if ys.length = k then upF s2.env (F (xs ++ ys) s2.hp) else .stuck else .stuck := by
  unfold mFn mCat
  rw [bind_as]
  congr 1
  funext xs s1
  rw [bind_if]
  split
  · rw [bind_as]
    congr 1
    funext ys s2
    rw [bind_if]
    rfl
  · rfl
section
variable {C : MC} {a : ME} {m : MA} {ea : Expr} {nm : Option Str} {kpos : Pos} {kws : List Keyword}
theorem ak_nil : PMk C [] mNil := wkK L2.pk_nil fun σ H Q ⟨g, s, r, q⟩ => q.ret r .nil
theorem ak_cons (ha : PMe C ea a) (hb : PMk C kws m) : PMk C (⟨nm, ea, kpos⟩ :: kws) (mCons a m) :=
  wkK (L2.pk_cons ha hb) fun σ H Q h => by
    obtain ⟨g, s, r, q⟩ := rdE_bind h
    refine ⟨g, s, r, q.imp ?_⟩
    rintro x H1 ⟨m, s1, g1, r1, rv, q1⟩
    refine ⟨g1, s1, r1, (Go.bind (R := C.Vn) q1).imp ?_⟩
    rintro xs H2 ⟨ms, s2, g2, mo2, r2, rvs, q2⟩
    exact q2.ret r2 (.cons (rv.mono mo2) rvs)
end
/-! ### in the parameters' order -/
def pickL {α : Type} (sp : List (Bool × Nat)) (as ds : List α) : List α := sp.filterMap fun q => if q.1 = true then as[q.2]? else ds[q.2]?
theorem vls_at {xs : List V} {us : List Value} (r : Vals xs us) (i : Nat) : (xs[i]? = none ∧ us[i]? = none) ∨ ∃ x u, xs[i]? = some x ∧ us[i]? = some u ∧ RelV x u := by
  cases h : xs[i]? with
  | none => exact .inl ⟨rfl, r.none_of h⟩
  | some x =>
    obtain ⟨u, e1, e2⟩ := r.get h
    exact .inr ⟨x, u, rfl, e1, e2⟩
theorem vals_pick {as ds : List V} {us es : List Value} (r : Vals as us) (q : Vals ds es) : ∀ sp : List (Bool × Nat), Vals (pickL sp as ds) (pickL sp us es)
  | [] => .nil
  | (b, i) :: sp => by
    have ih := vals_pick r q sp
    unfold pickL at ih ⊢
    rw [List.filterMap_cons, List.filterMap_cons]
    cases b with
    | true =>
      rcases vls_at r i with ⟨e1, e2⟩ | ⟨x, u, e1, e2, e3⟩
      · simp only [if_pos, e1, e2]
        exact ih
      · simp only [if_pos, e1, e2]
        exact .cons e3 ih
    | false =>
      rcases vls_at q i with ⟨e1, e2⟩ | ⟨x, u, e1, e2, e3⟩
      · simp only [Bool.false_eq_true, if_false, e1, e2]
        exact ih
      · simp only [Bool.false_eq_true, if_false, e1, e2]
        exact .cons e3 ih
section
variable {T : Tab} {g : Gh} {H : Hp}
theorem rvls_at {xs : List M} {us : List V} (r : RVs T g H xs us) (i : Nat) : (xs[i]? = none ∧ us[i]? = none) ∨ ∃ x u, xs[i]? = some x ∧ us[i]? = some u ∧ RV T g H x u := by
  cases h : xs[i]? with
  | none =>
    refine .inl ⟨rfl, ?_⟩
    rw [List.getElem?_eq_none_iff] at h ⊢
    rw [← r.length]
    exact h
  | some x =>
    obtain ⟨u, e1, e2⟩ := r.get h
    exact .inr ⟨x, u, rfl, e1, e2⟩
theorem rvs_pick {as ds : List M} {us es : List V} (r : RVs T g H as us) (q : RVs T g H ds es) : ∀ sp : List (Bool × Nat), RVs T g H (pickL sp as ds) (pickL sp us es)
  | [] => .nil
  | (b, i) :: sp => by
    have ih := rvs_pick r q sp
    unfold pickL at ih ⊢
    rw [List.filterMap_cons, List.filterMap_cons]
    cases b with
    | true =>
      rcases rvls_at r i with ⟨e1, e2⟩ | ⟨x, u, e1, e2, e3⟩
      · simp only [if_pos, e1, e2]
        exact ih
      · simp only [if_pos, e1, e2]
        exact .cons e3 ih
    | false =>
      rcases rvls_at q i with ⟨e1, e2⟩ | ⟨x, u, e1, e2, e3⟩
      · simp only [Bool.false_eq_true, if_false, e1, e2]
        exact ih
      · simp only [Bool.false_eq_true, if_false, e1, e2]
        exact .cons e3 ih
end
/-- called with n by position and k by keywords; dms: what lacks -/
def kwF (sp : List (Bool × Nat)) (dms : List M) (F : Fn) : Fn := fun args hp => F (pickL sp args dms) hp
section
variable {P : Program} {w : World} {mg : Str → Option Value} {base : Heap} {T : Tab}
structure FnKw (P : Program) (w : World) (mg : Str → Option Value) (base : Heap) (T : Tab) (k : Nat) (f : Addr) (n : Nat) (ks : List Str) (F : Fn) : Prop where
  run : ∀ (A : Around) (outer : List Env) (s : Shared) (H : Hp) (us ws : List Value) (vs zs : List V) (Q : VK) (E : XK), RoomG k A → Env0 P w T.K mg base A outer s H → Vals vs us → Vals zs ws → vs.length = n → zs.length = ks.length → spP T F (vs ++ zs) H Q E →
    codeAny (model P w) A (.call (.ref f) ⟨us, ks.zip ws⟩) (CR (L2.CX P w) outer P w H s Q E) s
theorem FnKw.of {k : Nat} {f : Addr} {fd : FuncData} {ps ks : List Str} {F : Fn} {n : Nat} {sp : List (Bool × Nat)} {mv : List Value} {dvs : List V} {dms : List M} (G : FnG P w mg base T k f fd ps F)
    (hb : KBn T.K fd ps n ks (fun us ws => pickL sp (us ++ ws) mv) (fun vs zs => pickL sp (vs ++ zs) dvs)) (hdm : ∀ g H, RVs T g H dms dvs)
    (hlen : ∀ vs zs : List V, vs.length = n → zs.length = ks.length → (pickL sp (vs ++ zs) dvs).length = ps.length) : FnKw P w mg base T k f n ks (kwF sp dms F) := by
  refine ⟨fun A outer s H us ws vs zs Q E hr e0 rv rz l1 l2 ⟨g, hp, args, rh, rs, go⟩ => ?_⟩
  have r2 := hb.rel rv rz
  exact G.run A outer s H ⟨us, ks.zip ws⟩ _ _ Q E hr e0 (hb.to s us ws (e0.mod.kin.keeps fun b o q => (e0.bs b o q).1) (rv.length.symm.trans l1) (rz.length.symm.trans l2)) r2 ⟨hlen vs zs l1 l2, g, hp, pickL sp args dms, rh, rvs_pick rs (hdm g H) sp, go⟩
/-- what the text's name x holds, called with keywords -/
structure KnKw (P : Program) (w : World) (mg : Str → Option Value) (base : Heap) (T : Tab) (x : Str) (k : Nat) (n : Nat) (ks : List Str) (F : Fn) : Prop where
  ex : ∃ f : Addr, FnKw P w mg base T k f n ks F ∧ mg x = some (.ref f) ∧ PySem.W.keepIn T.K (.ref f) = true
end
section
variable {C : MC} {k n : Nat} {F : Fn} {x : Str} {p pos : Pos} {ex : Expr} {es : List Expr} {kws : List Keyword} {ks : List Str} {ma mk : MA}
theorem em_knW (G : KnKw C.X.prog C.X.w C.X.mg C.X.base C.T x k n ks F) (hr : RoomG k C.X.A) (tk : Takes C.X C.W) (ha : PMa C (ex :: es) ma) (hkw : PMk C kws mk)
    (hg : Gl C.X x := by rfl) (hdb : (x == ("__debug__" : Str)) = false := by decide) (hall : (backToKw pos (keywordEach kws C.X.env)).all (·.1.isSome) = true := by rfl) (hks : (backToKw pos (keywordEach kws C.X.env)).filterMap (·.1) = ks := by rfl)
    (he : starEach (ex :: es) C.X.env = (false, eval ex C.X.env) :: starEach es C.X.env := by rfl)
    (hpl : ((backTo pos (starEach (ex :: es) C.X.env)).any (·.1) || (backToKw pos (keywordEach kws C.X.env)).any (·.1.isNone)) = false := by rfl) :
    PMe C (.Call (.Name x p) (ex :: es) kws pos) (mFn (mCat n ks.length ma mk) F) := by
  obtain ⟨f, G, hm, hk⟩ := G.ex
  refine ⟨fun pins sh σ H Q I h => wpAny_Call_Name_kw (ld_glob I hg hm ?_ hdb)⟩
  obtain ⟨g, s, r, q⟩ := h
  rw [mcat_fn] at q
  have h2 : rdA C ma σ H fun vs H1 => ∃ xs s1 g1, Mono g H g1 H1 ∧ C.rel g1 s1 σ H1 ∧ RVs C.T g1 H1 xs vs ∧ Go C C.V1 σ (if xs.length = n then (mk s1).bind fun ys s2 => if ys.length = ks.length then upF s2.env (F (xs ++ ys) s2.hp) else .stuck else .stuck) g1 H1 Q := ⟨g, s, r, Go.bind (R := C.Vn) q⟩
  refine PySem.W.callWith_KW (h₀ := C.X.base) I.ok.mod.kin (C.hK ▸ hk) hall (thn (ha.run pos pins sh σ H _ I h2) fun us s1 hh => ?_) hpl he
  obtain ⟨vs, H1, I1, rv, xs, t1, g1, mo1, r1, rs, q1⟩ := hh
  by_cases l1 : xs.length = n
  · rw [if_pos l1] at q1
    have h3 : rdA C mk σ H1 fun zs H2 => ∃ ys s2 g2, Mono g1 H1 g2 H2 ∧ C.rel g2 s2 σ H2 ∧ RVs C.T g2 H2 ys zs ∧ Go C C.V1 σ (if ys.length = ks.length then upF s2.env (F (xs ++ ys) s2.hp) else .stuck) g2 H2 Q := ⟨g1, t1, r1, Go.bind (R := C.Vn) q1⟩
    refine thn (hkw.run pos pins s1 σ H1 _ I1 h3) fun ws s2 hh => ?_
    obtain ⟨zs, H2, I2, rz, ys, t2, g2, mo2, r2, rs2, q2⟩ := hh
    by_cases l2 : ys.length = ks.length
    · rw [if_pos l2] at q2
      refine ⟨I2.kIn, ?_⟩
      rw [hks]
      have e0 : Env0 C.X.prog C.X.w C.T.K C.X.mg C.X.base C.X.A C.X.stack s2 H2 := C.hK ▸ I2.env0
      refine wpAny_call (codeAny_mono (G.run C.X.A C.X.stack s2 H2 us ws vs zs Q _ hr e0 rv rz (rs.length.symm.trans l1) (rs2.length.symm.trans l2) (sp_up r2 ((rs.mono mo2).app rs2) q2)) fun res s' hq => ?_)
      cases res with
      | error x => exact tk x s' (XE.of_call I2 (fun _ _ _ z => z) hq)
      | ok fl =>
        cases fl with
        | ret u => exact I2.after hq
        | next => exact hq.elim
        | brk => exact hq.elim
        | cont => exact hq.elim
    · rw [if_neg l2] at q2; exact q2.elim
  · rw [if_neg l1] at q1; exact q1.elim
end
/-! ### such defs -/
section
variable {P : Program} {w : World} {mg : Str → Option Value} {base : Heap} {T : Tab}
theorem fnG_d {x qual : Str} {st : Stmt} {f : Addr} {fd : FuncData} {N ps : List Str} {k : Nat} {b : MStm} {dvs : List V} {kws : List (Str × V)} (F : L2.FunD T.K x qual (defArgs st) (defBody st) (defScope st) dvs kws f fd) (S : FnScope N ps (defScope st))
    (hb : ∀ (cdv : Value) (A : Around) (outer : List Env) (s : Shared) (H : Hp) (E : XK) (g : Gh), RoomG k (A.deeper (envOfC qual (defScope st) s.heap.objs.size f cdv)) → PMb (cAt P w mg base T N qual (defScope st) f cdv A outer s H E g) (defBody st) b) :
    FnG P w mg base T (k + 1) f fd ps (bodyF ps.length N.length b) := by
  refine ⟨fun A outer s H args us vs Q E hr e0 hbd r hsp => ?_⟩
  obtain ⟨oc, od, dV, kV, doc, pm, an, cdv, ct, osl, rfl, lk, hcd, _, _⟩ := F.ex
  obtain ⟨hl, g, hp, as, rh, rs, go⟩ := hsp
  have inK : T.K.In s.heap := e0.mod.kin.keeps (fun b o q => (e0.bs b o q).1)
  have nl : s.heap.NoLimit := e0.mod.nolimit.keeps (fun b o q => (e0.bs b o q).1)
  have kinds : ∀ y ∈ ps.zip us, (defScope st).names.lookup y.1 = some .local ∨ ((defScope st).names.lookup y.1 = some .cell ∧ ((cellsFrom (s.heap.objs.size + 1) (defScope st).names []).lookup y.1).isSome = true) := by
    rintro ⟨n, v⟩ hy
    exact (S.par n (List.of_mem_zip hy).1).imp id fun q => ⟨q, PySem.W.cellsFrom_some _ _ _ (.inl q)⟩
  refine codeAny_call_function hr.depth (inK _ _ lk) rfl S.co S.gen rfl (PySem.W.codeRec_of inK hcd) (hbd _ _ _ _ (wpAny_newFunctionEnv_cells S.kind kinds fun env he s1 ic => ?_))
  subst he
  refine ⟨nl.keeps ic.toInCall.keep, codeAny_func ?_⟩
  have J : Inv (cAt P w mg base T N qual (defScope st) f cdv A outer s H E g).X [] (L2.start N vs) H s1 := inv_start S hr.hd e0 hl r ic
  have hbody := hb cdv A outer s H E g (hr.down _)
  have hnl : ps.length ≤ N.length := by
    have := congrArg List.length S.pre
    rw [List.length_take] at this
    omega
  have fin : ∀ {σ' : L2.St} {H' : Hp} {v : V} {u : Value} {s' : Shared}, Inv (cAt P w mg base T N qual (defScope st) f cdv A outer s H E g).X [] σ' H' s' → RelV v u → Q v H' → CE outer P w H s Q u s' :=
    fun J rv q => ⟨_, _, J.os, J.bare, J.base, J.hok, rv, q⟩
  let D : Ends := { nx := fun _ H' => Q .non H', rt := Q }
  have start_rel : Rel T ⟨g, H⟩ g ⟨as.map some ++ List.replicate (N.length - ps.length) none, hp⟩ (L2.start N vs) H := by
    refine ⟨rh, ?_, fun i m v h1 h2 => ?_⟩
    · unfold L2.start
      simp [rs.length, hl]
    · have h1 : (as.map some ++ List.replicate (N.length - ps.length) none)[i]? = some (some m) := h1
      unfold L2.start at h2
      by_cases hi : i < as.length
      · rw [List.getElem?_append_left (by simpa using hi), List.getElem?_map] at h1
        rw [List.getElem?_append_left (by simpa [← rs.length] using hi), List.getElem?_map] at h2
        cases ha : as[i]? with
        | none => rw [ha] at h1; cases h1
        | some m' =>
          rw [ha] at h1
          cases h1
          obtain ⟨x, hx, rx⟩ := rs.get ha
          rw [hx] at h2
          cases h2
          exact ⟨x, rfl, rx⟩
      · rw [List.getElem?_append_right (by simpa using Nat.le_of_not_lt hi), List.getElem?_replicate] at h1
        split at h1 <;> cases h1
  have goal : rdS (cAt P w mg base T N qual (defScope st) f cdv A outer s H E g) b D (L2.start N vs) H := by
    refine ⟨g, ⟨as.map some ++ List.replicate (N.length - ps.length) none, hp⟩, start_rel, ?_⟩
    unfold bodyF at go
    cases hm : b ⟨as.map some ++ List.replicate (N.length - ps.length) none, hp⟩ with
    | stuck => rw [hm] at go; exact go.elim
    | err x s1 => rw [hm] at go; exact fun g' H' σ' cls d mo rl xr => go g' H' cls d rl.h xr
    | ok fl s1 =>
      rw [hm] at go
      cases fl with
      | nx => exact fun g' H' σ' mo rl => go g' H' .non rl.h .non
      | rt m => exact fun g' H' σ' v mo rl rv => go g' H' v rl.h rv
      | bk => exact go.elim
      | ct => exact go.elim
  refine wpAny_mono (hbody.run [] s1 (L2.start N vs) H D J goal) (fun fl s' hs => ?_) fun e s' hs => hs
  cases fl with
  | ret u =>
    obtain ⟨v, σ', H', J', rv, q⟩ := hs
    exact fin J' rv q
  | next =>
    obtain ⟨σ', H', J', q⟩ := hs
    exact fin (v := V.non) (u := Value.none) J' rfl q
  | brk => exact hs.elim fun _ z => z.elim fun _ y => y.2.elim
  | cont => exact hs.elim fun _ z => z.elim fun _ y => y.2.elim
theorem fnW_k {x qual : Str} {st : Stmt} {f : Addr} {fd : FuncData} {N ps ks : List Str} {k : Nat} {b : MStm} {kws ms : List (Str × V)} {dms : List M} {sp : List (Bool × Nat)} (F : L2.FunD T.K x qual (defArgs st) (defBody st) (defScope st) [] kws f fd) (S : FnScope N ps (defScope st))
    (n : Nat) (hk : kws ≠ []) (hms : ∀ q ∈ ms, q ∈ kws) (hdm : ∀ g H, RVs T g H dms (ms.map (·.2)))
    (hlen : ∀ vs zs : List V, vs.length = n → zs.length = ks.length → (pickL sp (vs ++ zs) (ms.map (·.2))).length = ps.length)
    (h : ∀ (D : Addr) (doc pm : Value) (an : Option Addr) (cdv ct : Value) (us mv ws : List Value), us.length = n → mv.length = ms.length → ws.length = ks.length →
      L2.KwChain D ((ms.map (·.1)).zip mv) (bindArgs (PySem.W.fnOf x qual (defArgs st) (defBody st) (defScope st) .none (.ref D) doc pm an cdv ct) ⟨us, ks.zip ws⟩) (ps.zip (pickL sp (us ++ ws) mv)))
    (hb : ∀ (cdv : Value) (A : Around) (outer : List Env) (s : Shared) (H : Hp) (E : XK) (g : Gh), RoomG k (A.deeper (envOfC qual (defScope st) s.heap.objs.size f cdv)) → PMb (cAt P w mg base T N qual (defScope st) f cdv A outer s H E g) (defBody st) b) :
    FnKw P w mg base T (k + 1) f n ks (kwF sp dms (bodyF ps.length N.length b)) := by
  obtain ⟨mv, hbn⟩ := F.kbinds0 n ks ms (fun {_} us mv ws => pickL sp (us ++ ws) mv) hk hms (fun r1 r2 r3 => vals_pick (r1.append r3) r2 sp) h
  exact FnKw.of (fnG_d F S hb) hbn hdm hlen
end
end Ma
/-! Ma97: zip of two lists. -/
namespace Ma
open L2 PySem.Spec PySem PyProof.Rows
end Ma
/-! Ma99: a comprehension whose list is changed afterwards. -/
namespace Ma
open L2 PySem.Spec PySem PyProof.Rows
end Ma
/-! Ma100: a list that takes the items of a tuple. -/
namespace Ma
open L2 PySem
end Ma
/-! Ma101: max(xs, key=len) of a list of tuples. -/
namespace Ma
open L2 PySem.Spec PySem PyProof.Rows
end Ma
/-! Ma102: min(xs), max(xs) of a list of data. -/
namespace Ma
open L2 PySem.Spec PySem PyProof.Rows
end Ma
/-! Ma103: sum(xs) of a list of ints. -/
namespace Ma
open L2 PySem.Spec PySem PyProof.Rows
end Ma
/-! Ma104: repr of a list in which dicts of plain keys and values lie beside data. -/
namespace Ma
open L2 PySem.W PySem.Spec PySem PyProof.Rows
section
variable {prog : Program} {w : World} {h₀ : Heap}
/-- each value reads, and what bears a dict is not the modules' -/
inductive EachR (h₀ : Heap) : List Value → List PyData → Prop
  | nil : EachR h₀ [] []
  | cons {v : Value} {vs : List Value} {d : PyData} {ds : List PyData} {as : List Addr} : Reads h₀ v d as → (d.hasDict = true → sysModules ∉ as) → EachR h₀ vs ds → EachR h₀ (v :: vs) (d :: ds)
theorem EachR.all {vs : List Value} {ds : List PyData} (e : EachR h₀ vs ds) : ∃ as, ReadsAll h₀ vs ds as := by
  induction e with
  | nil => exact ⟨[], .nil⟩
  | cons r _ _ ih =>
    obtain ⟨bs, q⟩ := ih
    exact ⟨_, .cons r q⟩
end
section
variable {C : MC} {g g1 : Gh} {H H1 : Hp} {s : MS} {σ : L2.St} {T : Tab}
inductive EachV (K : PySem.W.Frag) (H : Hp) : List V → List PyData → Prop
  | nil : EachV K H [] []
  | dat {v : V} {vs : List V} {d : PyData} {ds : List PyData} : Dp K H v d → d.hasDict = false → EachV K H vs ds → EachV K H (v :: vs) (d :: ds)
  | dict {a : Addr} {vs : List V} {ds : List PyData} {kms : List (Key × M)} {kvs : List (Key × V)} {kd : List (PyData × PyData)} {T : Tab} {g : Gh} : Rd H a (.dK kvs) → RFs T g H kms kvs → kvD kms = some kd → EachV K H vs ds → EachV K H (.ref a :: vs) (.dict kd :: ds)
theorem EachV.reads {X : Cx} {pins : List (Addr × Obj)} {s : Shared} (I : Inv X pins σ H s) {vs : List V} {ds : List PyData} (e : EachV X.K H vs ds) : ∀ {us : List Value}, Vals vs us → EachR s.heap us ds := by
  induction e with
  | nil =>
    intro us h
    cases h
    exact .nil
  | dat d h _ ih =>
    intro us hv
    cases hv with
    | cons r rs =>
      obtain ⟨as, q⟩ := Dp.reads I _ _ _ d r
      exact .cons q (fun z => by rw [h] at z; cases z) (ih rs)
  | @dict a vs ds kms kvs kd T g hr rf hk _ ih =>
    intro us hv
    cases hv with
    | cons r rs =>
      rename_i u us'
      obtain rfl : u = .ref a := r
      obtain ⟨hz, hs, ws, kv, o, es, ep, ho, he, hd, ha, hp, nd⟩ := dk_rd I.hok hr
      obtain ⟨k1, k2⟩ := kvD_reads (hp := s.heap) hk rf kv hp
      have R : Reads s.heap (.ref a) (.dict kd) (a :: [] ++ []) := .dict ho he.1 hd k1 k2
      refine .cons R (fun _ z => ?_) (ih rs)
      have e : sysModules = a := by simpa using z
      rw [← e] at hs
      simp at hs
end
end Ma
/-! Ma105: module constants that are tuples of ints and texts: in, not in; abs. -/
namespace PySem.SeqAt
open PySem.Spec PyProof PySem PyProof.Rows
theorem str_eq_declines_dict (b : Str) (u : Tok) (l : Addr) (es : Array DictEntry) (n : Nat) (dd : Option Addr) (sl : Array (Option Value)) :
    Meets (Builtin.«str.__eq__» ⟨[.str b u, .ref l], []⟩) (fun _ R s => s.heap.get? l = some { cls := .type "dict", dict := dd, data := .dict es n, slots := sl } ∧ R (.ok (.ret .notImplemented)) s) :=
  .of_wp fun prog w A R s h => by obtain ⟨hp, g, d, tk, os⟩ := s; obtain ⟨hl, h⟩ := h; wp_walk using wpAny_loadPart' hl, wpAny_load hl; exact ⟨_, rfl, h⟩
theorem dict_eq_declines_str (l : Addr) (es : Array DictEntry) (n : Nat) (dd : Option Addr) (sl : Array (Option Value)) (b : Str) (u : Tok) :
    Meets (Builtin.«dict.__eq__» ⟨[.ref l, .str b u], []⟩) (fun _ R s => s.heap.get? l = some { cls := .type "dict", dict := dd, data := .dict es n, slots := sl } ∧ R (.ok (.ret .notImplemented)) s) :=
  .of_wp fun prog w A R s h => by
    obtain ⟨hl, h⟩ := h
    have hI : ∀ {R' : Bool → Shared → Prop} {E' : Value → Shared → Prop}, R' false s → wpAny (model prog w) A.in1 (isSubtype (.type "str") (.type "dict")) R' E' s := fun hr => wpAny_of_eq F.sub_str_dict hr
    obtain ⟨hp, g, d, tk, os⟩ := s
    wp_walk using wpAny_loadPart' hl, wpAny_load hl, hI
    exact ⟨_, rfl, h⟩
theorem EqAt.str_dict {A : Around} {s : Shared} {l : Addr} {o : Obj} {es : Array DictEntry} {n : Nat} (b : Str) (u : Tok) (ho : s.heap.get? l = some o) (hc : o.cls = .type "dict") (hd : o.data = .dict es n) (hu : A.units < cLine) : EqAt A s (.str b u) (.ref l) false := fun prog w E Q h => by
  obtain ⟨cls, dd, data, sl⟩ := o
  simp only at hc hd
  subst hc hd
  unfold eqBool
  refine wpAny_holding ?_
  refine wpAny_ite_split (fun hab => absurd (eq_of_beq hab) nofun) (fun _ => ?_)
  refine wpAny_bind ?_
  exact rc_eq_decline_or (k := false) (typeIs_str s b u) ⟨_, ho, rfl⟩ (by decide) F.sub_dict_str F.slot_str_eq F.slot_dict_eq_refl
    (fun _ hq => call_meets F.slot_str_eq (typeIs_str s b u) F.entry_str_eq (F.args_str_eq_2 _ _) (str_eq_declines_dict b u l es n dd sl) ⟨ho, hq⟩)
    (fun _ hq => call_meets F.slot_dict_eq_refl ⟨_, ho, rfl⟩ F.entry_dict_eq (F.args_dict_eq_2 _ _) (dict_eq_declines_str l es n dd sl b u) ⟨ho, hq⟩)
    (fun _ hq => wpAny_of_eq (rfl : isSame (.str b u) (.ref l) = pure false) hq) (.inr hu) (wpAny_truthy_bool h)
end PySem.SeqAt
namespace Ma
open L2 PySem.W PySem.Spec PySem PyProof.Rows
def vOf : M → V
  | .int i => .int i
  | .str x => .str x
  | _ => .non
def dOf : M → PyData
  | .int i => .int i
  | .str x => .str x
  | _ => .none
def flK : M → Bool
  | .int _ => true
  | .str _ => true
  | _ => false
/-- the module's name x holds a tuple of ints and texts -/
structure KTup (mg : Str → Option Value) (T : Tab) (x : Str) (ks : List M) : Prop where
  ex : ∃ a, mg x = some (.ref a) ∧ ∀ H, SqT T.K H a (ks.map vOf)
  fl : ks.all flK = true
theorem rv_flK {T : Tab} {g : Gh} {H : Hp} : ∀ {ks : List M}, ks.all flK = true → RVs T g H ks (ks.map vOf)
  | [], _ => .nil
  | k :: ks, h => by
    rw [List.all_cons, Bool.and_eq_true] at h
    refine .cons ?_ (rv_flK h.2)
    cases k with
    | int i => exact .int i
    | str x => exact .str x
    | _ => cases h.1
theorem reads_flK {h : Heap} : ∀ {ks : List M} {us : List Value}, ks.all flK = true → Vals (ks.map vOf) us → ∃ as, ReadsAll h us (ks.map dOf) as
  | [], _, _, r => by cases r; exact ⟨_, .nil⟩
  | k :: ks, us, hf, r => by
    rw [List.all_cons, Bool.and_eq_true] at hf
    cases r with
    | cons r1 r2 =>
      obtain ⟨bs, q⟩ := reads_flK (h := h) hf.2 r2
      cases k with
      | int i => obtain ⟨t, rfl⟩ := r1; exact ⟨_, .cons (.int i t) q⟩
      | str x => obtain ⟨t, rfl⟩ := r1; exact ⟨_, .cons (.str x t) q⟩
      | _ => cases hf.1
def flS : M → Bool
  | .str _ => true
  | _ => false
section
variable {C : MC} {g g1 : Gh} {H H1 : Hp} {s : MS} {σ : L2.St} {ea : Expr} {a : ME} {pos p : Pos} {x : Str} {ks : List M}
/-- in a tuple of the module -/
def oInK (neg : Bool) (ks : List M) (x y : M) (s : MS) : Res M := match dictOf s.hp x with
  | some _ => if ks.all flS = true then .ok (.bl neg) s else .stuck
  | none => match datT s.hp x with
    | some d => if (SeqAt.shaped d && SeqAt.shaped (.tuple (ks.map dOf))) = true then .ok (.bl (if neg then !((ks.map dOf).any fun z => z.eqv d) else (ks.map dOf).any fun z => z.eqv d)) s else .stuck
    | none => .stuck
theorem strs_flS : ∀ {ks : List M} {us : List Value}, ks.all flS = true → Vals (ks.map vOf) us → ∀ u ∈ us, ∃ b t, u = .str b t
  | [], _, _, r => fun u hu => by cases r; cases hu
  | k :: ks, us, hf, r => fun u hu => by
    rw [List.all_cons, Bool.and_eq_true] at hf
    cases r with
    | cons r1 r2 =>
      rcases List.mem_cons.mp hu with rfl | hu
      · cases k with
        | str x => obtain ⟨t, rfl⟩ := r1; exact ⟨_, _, rfl⟩
        | _ => cases hf.1
      · exact strs_flS hf.2 r2 u hu
/-- where the tuple stands at the address A -/
def Op2A (C : MC) (A : Addr) (op : Value → Value → Sem Value) (o : M → M → MS → Res M) : Prop :=
  ∀ (pins : List (Addr × Obj)) (sh : Shared) (σ : L2.St) (H : Hp) (g : Gh) (ms : MS) (m1 : M) (x : V) (v : Value) (Q : VK), Inv C.X pins σ H sh → C.rel g ms σ H → RV C.T g H m1 x → RelV x v → Go C C.V1 σ (o m1 (.raw A) ms) g H Q →
    wpAny (model C.X.prog C.X.w) C.X.A (op v (.ref A)) (EP C.X pins σ Q) C.X.xe sh
theorem op_inK {A : Addr} (neg : Bool) (hu : C.X.A.units + 65 < cLine) (hq : ∀ H, SqT C.T.K H A (ks.map vOf)) (hf : ks.all flK = true) : Op2A C A (compareOp (if neg then .NotIn else .In)) (oInK neg ks) := by
  intro pins sh σ H g ms m1 x v Q I r r1 l1 q
  have hq' := hq H
  rw [← C.hK] at hq'
  obtain ⟨its, rv, pl, hz⟩ := I.tuple hq'
  unfold oInK at q
  split at q
  · rename_i kms hd
    by_cases hs : ks.all flS = true
    · rw [if_pos hs] at q
      obtain ⟨n, a, kvs, rfl, rfl, e1, e2, rf⟩ := dictOf_at r hd r1
      obtain rfl : v = .ref a := l1
      obtain ⟨hz2, hs2, ws, kv, o, es, ep, ho, he, hdd, ha, hp, nd⟩ := dk_rd I.hok e2
      have eqs : ∀ y, y ∈ its.toArray → SeqAt.EqAt C.X.A.in1 sh y (.ref a) ((fun _ => false) y) := fun y hy => by
        obtain ⟨b, t, rfl⟩ := strs_flS hs rv y (by simpa using hy)
        exact SeqAt.EqAt.str_dict b t ho he.1 hdd (by show C.X.A.units + 1 < _; omega)
      have an : its.toArray.any (fun _ => false) = false := by simp
      cases neg with
      | true => exact SeqAt.notIn_tupleAt (fun _ => false) pl eqs ⟨.bl _, H, I, rfl, by rw [an]; exact q.ret r (.bl _)⟩
      | false => exact SeqAt.in_tupleAt (fun _ => false) pl eqs ⟨.bl _, H, I, rfl, by rw [an]; exact q.ret r (.bl _)⟩
    · rw [if_neg hs] at q; exact q.elim
  · split at q
    · rename_i d hd
      by_cases hs : (SeqAt.shaped d && SeqAt.shaped (.tuple (ks.map dOf))) = true
      · rw [if_pos hs] at q
        obtain ⟨s1, s2⟩ := Bool.and_eq_true_iff.mp hs
        obtain ⟨as, rx⟩ := Dp.reads I d x v (datT_dp r r1 hd) l1
        obtain ⟨bs, rt⟩ := reads_flK (h := sh.heap) hf rv
        obtain ⟨o, ho, hc, n, hdd⟩ := pl
        have rc : Reads sh.heap (.ref A) (.tuple (ks.map dOf)) bs := .tuple ho hc hdd (by simpa using rt)
        cases neg with
        | true => exact SeqAt.notIn_tuple_reads rc rx (SeqAt.canLay_of_shaped s2) (SeqAt.canLay_of_shaped s1) (room_in_shaped s1 hu) ⟨.bl _, H, I, rfl, q.ret r (.bl _)⟩
        | false => exact SeqAt.in_tuple_reads rc rx (SeqAt.canLay_of_shaped s2) (SeqAt.canLay_of_shaped s1) (room_in_shaped s1 hu) ⟨.bl _, H, I, rfl, q.ret r (.bl _)⟩
      · rw [if_neg hs] at q; exact q.elim
    · exact q.elim
def oInKA (A : Addr) (neg : Bool) (ks : List M) (x y : M) (s : MS) : Res M := match y with
  | .raw B => if B = A then oInK neg ks x y s else .stuck
  | _ => .stuck
theorem op_inKA {A : Addr} (neg : Bool) (hu : C.X.A.units + 65 < cLine) (hq : ∀ H, SqT C.T.K H A (ks.map vOf)) (hf : ks.all flK = true) : Op2Ok C (compareOp (if neg then .NotIn else .In)) (oInKA A neg ks) := by
  intro pins sh σ H g ms m1 m2 x y v u Q I r r1 r2 l1 l2 q
  unfold oInKA at q
  split at q
  · rename_i B
    by_cases e : B = A
    · rw [if_pos e] at q
      subst e
      cases r2
      obtain rfl : u = .ref B := l2
      exact op_inK neg hu hq hf pins sh σ H g ms m1 x v Q I r r1 l1 q
    · rw [if_neg e] at q; exact q.elim
  · exact q.elim
/-- e (not) in a tuple of the module -/
def mInK (neg : Bool) (ks : List M) (a : ME) : ME := fun s => (a s).bind fun x s1 => oInK neg ks x .non s1
theorem mInK_eq {A : Addr} {neg : Bool} : m2 (oInKA A neg ks) a (mc (.raw A)) = mInK neg ks a := by
  funext s
  unfold m2 mInK
  cases a s with
  | ok m s1 =>
    show oInKA A neg ks m (.raw A) s1 = oInK neg ks m .non s1
    unfold oInKA
    dsimp only
    rw [if_pos rfl]
    rfl
  | err e s1 => rfl
  | stuck => rfl
theorem tm_notInK (k : KTup C.X.mg C.T x ks) (hu : C.X.A.units + 65 < cLine) (ha : PMe C ea a) (hg : Gl C.X x := by rfl) (hdb : (x == ("__debug__" : Str)) = false := by decide)
    (hm : behindInMarks .NotIn (.Name x p) = false := by with_unfolding_all rfl) : PMt C (.Compare ea [.NotIn] [.Name x p] pos) (mB (mInK true ks a)) := by
  obtain ⟨A, h1, h2⟩ := k.ex
  have hb : PMe C (.Name x p) (mc (.raw A)) := wkE (pe_glob (v := .ref A) hg h1 rfl hdb) fun σ H Q ⟨g, s, r, q⟩ => q.ret r (.raw _)
  have := tm_cmp (pos := pos) (op_inKA (ks := ks) true hu h2 k.fl) ha hb hm
  rw [mInK_eq] at this
  exact this
/-! ### a walk over it -/
def iK (ks : List M) : MI := fun s => .ok ks s
theorem im_K {tg : Expr} (k : KTup C.X.mg C.T x ks) (hg : Gl C.X x := by rfl) (hdb : (x == ("__debug__" : Str)) = false := by decide) : PMi C tg (.Name x p) (iK ks) := by
  obtain ⟨A, h1, h2⟩ := k.ex
  have hb : PMe C (.Name x p) (mc (.raw A)) := wkE (pe_glob (v := .ref A) hg h1 rfl hdb) fun σ H Q ⟨g, s, r, q⟩ => q.ret r (.raw _)
  refine ⟨fun pins s σ H R I h => ?_⟩
  obtain ⟨g, ms, r, q⟩ := h
  refine wpAny_mono (ld_glob I hg h1 ?_ hdb) (fun _ _ z => z) (fun _ _ z => z)
  have hq : ∀ H, SqT C.X.K H A (ks.map vOf) := fun H => by rw [C.hK]; exact h2 H
  obtain ⟨its, rv, pl, hz⟩ := I.tuple (hq H)
  refine wpAny_pyIter_tuple (show s.heap.IsTuple A its.toArray from pl) ?_
  have fp1 : ∀ b ∈ [s.heap.objs.size], FpOk C.X pins H b := fun b hb => by
    have e : b = s.heap.objs.size := by simpa using hb
    subst e
    exact I.fpOk (Nat.le_refl _) (I.hok.fresh (Nat.le_refl _))
  exact ⟨s.heap.objs.size, [s.heap.objs.size], _, _, H, rfl, I.kept (t' := s.toks) fun b o e => Heap.get?_push_of_some _ e, turn_tuple A _, ⟨_, Heap.get?_push_size _ rfl, rfl, rfl⟩, fp1,
    q g H _ (Mono.refl _ _) r (wk_of ((rv_flK (T := C.T) (g := g) (H := H) k.fl).length ▸ walk_tup (K := C.X.K) (a := A) (xs := ks.map vOf)) (fun g2 H2 mo2 => hq H2) (rv_flK k.fl))⟩
end
section
variable {C : MC}
/-- abs(e) -/
def cAbs (ms : List M) (s : MS) : Res M := match ms with
  | [.int i] => .ok (.int (if i < 0 then -i else i)) s
  | _ => .stuck
theorem ok_abs : CallOk C (fun xs H Q => ∃ i, xs = [V.int i] ∧ Q (.int (if i < 0 then -i else i)) H) cAbs := fun σ H g s ms xs Q r rs h => by
  unfold cAbs at h
  split at h
  · cases rs with
    | cons rv r2 =>
      cases r2
      cases rv
      exact ⟨_, rfl, h.same r (.int _)⟩
  · exact h.elim
end
end Ma
/-! Ma106: a list from its end to its start. -/
namespace Ma
open L2 HT PySem.W PySem.Spec PySem PyProof.Rows
def tRevL (K : PySem.W.Frag) (te : TE) : TE := fun σ H Q => te σ H fun x H1 => ∃ a xs, x = .ref a ∧ SqL K H1 a xs ∧ ∀ p, H1 p = none → Q (.ref p) (upd H1 p (.lst xs.reverse))
theorem pe_revL {X : Cx} {e : Expr} {te : TE} {k : Nat} {p1 p2 p3 pos : Pos} (he : PE X e te) : PE X (.Subscript e (.Slice none none (some (.UnaryOp .USub (.Constant (.int 1) k p1) p2)) p3) pos) (tRevL X.K te) := by
  refine ⟨fun pins sh σ H Q I h => Subscript_ (thn (he.run pins sh σ H _ I h) fun v s1 ⟨x, H1, I1, r1, q1⟩ => ?_)⟩
  obtain ⟨a, xs, rfl, hx, q⟩ := q1
  cases r1
  have hst : PO X (some (.UnaryOp .USub (.Constant (.int 1) k p1) p2)) (tPart (tUn (rU fun i => .int (-i)) (tC (.int 1)))) := po_some (pe_un un_neg pe_int)
  refine wpAny_Slice (thn (po_none.run pins s1 σ H1 (fun o G => o = none ∧ G = H1) I1 ⟨rfl, rfl⟩) fun vl s2 ⟨l, H2, I2, pl, el, e2⟩ => ?_)
  subst el e2
  refine thn (po_none.run pins s2 σ H2 (fun o G => o = none ∧ G = H2) I2 ⟨rfl, rfl⟩) fun vu s3 ⟨uu, H3, I3, pu, eu, e3⟩ => ?_
  subst eu e3
  refine thn (hst.run pins s3 σ H3 (fun o G => o = some (-1) ∧ G = H3) I3 ⟨1, rfl, -1, rfl, rfl, rfl⟩) fun vs s4 ⟨o, H4, I4, ps, eo, e4⟩ => ?_
  subst eo e4
  cases pl; cases pu
  obtain ⟨tk, rfl⟩ : ∃ tk, vs = .int (-1) tk := by cases ps; exact ⟨_, rfl⟩
  have I5 : Inv X pins σ H4 { s4 with heap := s4.heap.push { cls := .type "slice", data := .fields #[.none, .none, .int (-1) tk] } } := I4.kept (t' := s4.toks) fun b ob z => Heap.get?_push_of_some _ z
  obtain ⟨its, r, ht, hz⟩ := I5.list hx
  have hlen := r.length
  show wpAny (model X.prog X.w) X.A (subscriptTail e (.Slice none none (some (.UnaryOp .USub (.Constant (.int 1) k p1) p2)) p3) (.ref a) (.ref s4.heap.objs.size)) (EP X pins σ Q) X.xe { s4 with heap := s4.heap.push { cls := .type "slice", data := .fields #[.none, .none, .int (-1) tk] } }
  refine tail_any (ops := [.ref a, .ref s4.heap.objs.size]) (Heap.IsList.typeIs ht.isList) list_getitem_lookup ?_ (by with_unfolding_all rfl)
  refine wpAny_getItem_list_slice ht.isList (Heap.IsSliceOf.new _ _ _ _) .none .none (.int (-1) tk) (by decide) ?_ (by rw [List.size_toArray]; omega)
  rw [PySem.W.krv_pick]
  refine ⟨.ref _, _, I5.laid (t' := s4.toks) (o := .lst xs.reverse) (fun b ob z => Heap.get?_push_of_some _ z) (Nat.le_refl _) ?_, rfl, q _ (I5.hok.fresh (Nat.le_refl _))⟩
  exact ⟨by rw [List.length_reverse]; exact hz, its.reverse, 0, r.reverse, Heap.get?_push_size _ rfl⟩
section
variable {C : MC} {g g1 : Gh} {H H1 : Hp} {s : MS} {σ : L2.St} {T : Tab} {ex e2 : Expr} {a : ME} {ma : MA} {pos p tpos : Pos}
def mRevL (a : ME) : ME := fun s => (a s).bind fun m s1 => match seqL s1.hp m with
  | some ms => .ok (.lst ms.reverse) s1
  | none => .stuck
theorem em_revL {k : Nat} {p1 p2 p3 : Pos} (ha : PMe C ex a) : PMe C (.Subscript ex (.Slice none none (some (.UnaryOp .USub (.Constant (.int 1) k p1) p2)) p3) pos) (mRevL a) :=
  wkE (pe_revL ha) fun σ H Q h => by
    obtain ⟨g, s, r, q⟩ := rdE_bind h
    refine ⟨g, s, r, q.imp ?_⟩
    rintro x H1 ⟨m, s1, g1, r1, rv, q1⟩
    split at q1
    · rename_i ms hms
      obtain ⟨q, vs, rfl, hq, rs⟩ := seqL_at r1 hms rv
      exact ⟨q, vs, rfl, hq, fun p hp => q1.newL r1 rs.rev hp⟩
    · exact q1.elim
end
end Ma
/-! Ma107: sorted(xs, key=f) and sorted(xs, key=f, reverse=True) by a def of the text whose keys are ints. -/
namespace Ma
open L2 PySem.W PySem.Spec PySem PySem.Calls PyProof.Rows
section
variable {C : MC} {g : Gh} {H : Hp} {σ : L2.St} {k : Nat} {f : Addr} {F : Fn} {pins : List (Addr × Obj)} {sh s : Shared} {env : List (Option M)} {hp hp' : List Cell}
theorem FpOk.at {H H' : Hp} {X : Cx} {b : Addr} (f : FpOk X pins H b) (h : H' b = none) : FpOk X pins H' b := ⟨h, f.2⟩
/-! ### the expression -/
theorem as1 (a v : Value) : argsOk "sorted" ⟨[a], [(Str.ofString "key", v)]⟩ := by unfold argsOk; kernel_rfl
theorem al1 (a v : Value) : argsOk "list.sort" ⟨[a], [(Str.ofString "key", v)]⟩ := by unfold argsOk; kernel_rfl
variable {ex : Expr} {a : ME} {fn : Str} {p p2 p3 pos kp kp2 : Pos} {j : Nat} {b : Bool}
/-! ### key=abs -/
def absI (i : Int) : Int := if i < 0 then -i else i
def sortAb (ns : List Int) : List Int := ns.mergeSort fun p q => decide (absI p ≤ absI q)
def mSrtAb (a : ME) : ME := fun s => (a s).bind fun m s1 => match lstOf s1.hp m with
  | some ms => match intsM ms with
    | some ns => .ok (.lst ((sortAb ns).map M.int)) s1
    | none => .stuck
  | none => .stuck
theorem each_ri : ∀ {us : List Value} {ns : List Int}, Vals (ns.map V.int) us → EachIs (fun u (n : Int) => RelV (.int n) u) us ns
  | [], [], .nil => .nil
  | _ :: _, _ :: _, .cons q e => .cons q (each_ri e)
theorem each_ro : ∀ {us : List Value} {ns : List Int}, EachIs (fun u (n : Int) => RelV (.int n) u) us ns → Vals (ns.map V.int) us
  | [], [], .nil => .nil
  | _ :: _, _ :: _, .cons q e => .cons q (each_ro e)
theorem sortAb_run {l : Addr} {ns : List Int} {s1 : MS} {Q : VK} (hu : C.X.A.units + 65 < cLine) (I : Inv C.X pins σ H s) (r : C.rel g s1 σ H) (hs : SqL C.X.K H l (ns.map V.int)) (h : Go C C.V1 σ (.ok (.lst ((sortAb ns).map M.int)) s1) g H Q) :
    wpAny (model C.X.prog C.X.w) C.X.A (call (.builtin "sorted") [.ref l] [(Str.ofString "key", .builtin "abs")]) (EP C.X pins σ Q) C.X.xe s := by
  obtain ⟨its, rv, pl, hz⟩ := I.list hs
  have hl : ns.length ≤ sizeLine := by simpa using hz
  refine sorted_key_data (b := false) (β := Int) (R := fun u n => RelV (.int n) u) (bs := ns) (fun i => .int (absI i)) pl.isList (each_ri rv) (AllAlike.of fun _ _ => by simp [alike]) (Sortable.others fun _ => ⟨by simp, fun _ => by simp⟩) hl (fun _ _ => by
    show C.X.A.units + 2 + 0 < cLine
    omega) (as1 _ _) (fun _ => al1 _ _) (fun x => ksk_t4 _ _) (fun v x hR _ h0 tk _ => ?_) fun out c h' tk kp _ hD hlen eo => ?_
  · obtain ⟨t, rfl⟩ := hR
    exact call_abs_int fun u tk => ⟨_, tk, rfl, fun _ _ z => z, .int _ _⟩
  · rw [dataLe_int] at eo
    have vo := each_ro eo
    have hn : H (s.heap.objs.size + 1) = none := I.hok.fresh (by omega)
    refine ⟨.ref _, upd H (s.heap.objs.size + 1) (.lst ((sortAb ns).map V.int)), I.laid (t' := tk) (o := .lst ((sortAb ns).map V.int)) kp (Nat.le_succ _) ⟨?_, _, c, vo, hD⟩, rfl, h.newL r (RVs.ints _) hn⟩
    rw [List.length_map]
    unfold sortAb
    rw [List.length_mergeSort]
    exact hl
theorem em_sortAb (hu : C.X.A.units + 65 < cLine) (hm1 : C.X.mg "sorted" = none) (hm2 : C.X.mg "abs" = none) (ha : PMe C ex a) (hg1 : Gl C.X "sorted" := by rfl) (hg2 : Gl C.X "abs" := by rfl)
    (he1 : starEach [ex] C.X.env = (false, eval ex C.X.env) :: starEach [] C.X.env := by rfl)
    (he : backTo pos (starEach [ex] C.X.env) = (false, eval ex C.X.env) :: backTo pos (starEach [] C.X.env) := by rfl) (hpl : (backTo pos (starEach [ex] C.X.env)).any (·.1) = false := by rfl)
    (hall : (backToKw pos (keywordEach [⟨some "key", .Name "abs" p2, kp⟩] C.X.env)).all (·.1.isSome) = true := by rfl) (hnone : (backToKw pos (keywordEach [⟨some "key", .Name "abs" p2, kp⟩] C.X.env)).any (·.1.isNone) = false := by rfl)
    (hks : (backToKw pos (keywordEach [⟨some "key", .Name "abs" p2, kp⟩] C.X.env)).filterMap (·.1) = [Str.ofString "key"] := by rfl)
    (hv1 : bootBuiltins "sorted" = some (.builtin "sorted") := by first | rfl | decide +kernel) (hv2 : bootBuiltins "abs" = some (.builtin "abs") := by first | rfl | decide +kernel) :
    PMe C (.Call (.Name "sorted" p) [ex] [⟨some "key", .Name "abs" p2, kp⟩] pos) (mSrtAb a) := by
  refine ⟨fun pins s σ H Q I h => ?_⟩
  refine wpAny_Call_Name_kw (ld_blt I hg1 hm1 hv1 ?_)
  refine PyProof.Rows.callWith_kw (thn ((pa_cons ha pa_nil he1).run pos pins s σ H (fun vs H1 => ∃ x, vs = [x] ∧ ∃ m s1 g1, C.rel g1 s1 σ H1 ∧ RV C.T g1 H1 m x ∧ Go C C.V1 σ (match lstOf s1.hp m with | some ms => (match intsM ms with | some ns => Res.ok (.lst ((sortAb ns).map M.int)) s1 | none => .stuck) | none => .stuck) g1 H1 Q) I ?_) fun us s1 ⟨vs, H1, I1, r1, q1⟩ => ?_) he hpl hall hnone
  · have h' := rdE_bind h
    obtain ⟨g, s0, r, q⟩ := h'
    refine ⟨g, s0, r, q.imp ?_⟩
    rintro v H1 ⟨m, s1, g1, r1, rv, q1⟩
    exact ⟨v, rfl, m, s1, g1, r1, rv, q1⟩
  obtain ⟨x, rfl, m, s2, g1, r2, rv, q2⟩ := q1
  obtain ⟨u, rfl, lu⟩ := r1.one
  show wpAny _ _ (evalAll ((do let v ← eval (.Name "abs" p2) C.X.env; standAt pos; pure v) :: [])) _ _ s1
  refine wpAny_evalAll_cons (wpAny_bind (ld_blt I1 hg2 hm2 hv2 (wpAny_bind (wpAny_standAt (wpAny_pure ?_)))))
  refine wpAny_evalAll_nil ?_
  rw [hks]
  split at q2
  · rename_i ms hl
    split at q2
    · rename_i ns hn
      obtain ⟨l, vs, rfl, e, rs⟩ := lstOf_at r2 hl rv
      obtain rfl : u = .ref l := lu
      have ev := intsM_at rs hn
      subst ev
      exact sortAb_run hu I1 r2 (SqL.of e) q2
    · exact q2.elim
  · exact q2.elim
end
end Ma
/-! Ma108: i // j of either sign; in, not in of a tuple of data. -/
namespace Ma
open L2 PySem.Spec PySem PyProof.Rows
def CDivS (_ j : Int) : Prop := j ≠ 0 ∧ j.natAbs < 18446744073709551616
theorem op_fdivS {X : Cx} : OpR X (binaryOp .FloorDiv) (rI CDivS fun i j => .int (i.fdiv j)) := opI fun _ j _ _ _ _ _ hc q => floordiv_int hc.1 q (.inl (PyProof.noPylong_of_log2 (by
  have h : j.natAbs.log2 < 64 := PySem.Flt.log2_lt_of (n := j.natAbs) (k := 64) (by decide) (by have := hc.2; omega)
  omega)))
def oFdv := oInt (fun _ j => decide (j ≠ 0 ∧ j.natAbs < 18446744073709551616)) fun i j => .int (i.fdiv j)
theorem ok_fdv {C : MC} : Op2Ok C (binaryOp .FloorDiv) oFdv := Op2Ok.of op_fdivS fun σ H g s m1 m2 x y Q r r1 r2 h => by
  obtain ⟨i, j, rfl, rfl, hc, q⟩ := oInt_at h r1 r2
  have hc := of_decide_eq_true hc
  exact ⟨i, j, rfl, rfl, hc, q.same r (.int _)⟩
def rInTD (K : PySem.W.Frag) : R2 := fun x y H Q => ∃ d ds, Dp K H x d ∧ Dp K H y (.tuple ds) ∧ SeqAt.shaped d = true ∧ SeqAt.shaped (.tuple ds) = true ∧ Q (.bl (ds.any fun z => PyData.eqv z d)) H
theorem op_inTD {X : Cx} (hu : X.A.units + 65 < cLine) : OpR X (compareOp .In) (rInTD X.K) := by
  intro pins s σ H x y v u Q I rx ry h
  obtain ⟨d, ds, hd, he, sd, se, q⟩ := h
  obtain ⟨as, r1⟩ := Dp.reads I d x v hd rx
  obtain ⟨bs, r2⟩ := Dp.reads I (.tuple ds) y u he ry
  exact SeqAt.in_tuple_reads r2 r1 (SeqAt.canLay_of_shaped se) (SeqAt.canLay_of_shaped sd) (room_in_shaped sd hu) ⟨.bl _, H, I, rfl, q⟩
section
variable {C : MC} {g g1 : Gh} {H H1 : Hp} {s : MS} {σ : L2.St}
def oInTs (neg : Bool) (x y : M) (s : MS) : Res M := match datT s.hp x, datT s.hp y with
  | some d, some (.tuple ds) => if (SeqAt.shaped d && SeqAt.shaped (.tuple ds)) = true then .ok (.bl (if neg then !(ds.any fun z => z.eqv d) else ds.any fun z => z.eqv d)) s else .stuck
  | _, _ => .stuck
theorem oInTs_at {neg : Bool} {m1 m2 : M} {x y : V} {Q : VK} (h : Go C C.V1 σ (oInTs neg m1 m2 s) g H Q) (r : C.rel g s σ H) (r1 : RV C.T g H m1 x) (r2 : RV C.T g H m2 y) :
    ∃ d ds, Dp C.X.K H x d ∧ Dp C.X.K H y (.tuple ds) ∧ SeqAt.shaped d = true ∧ SeqAt.shaped (.tuple ds) = true ∧ Q (.bl (if neg then !(ds.any fun z => z.eqv d) else ds.any fun z => z.eqv d)) H := by
  unfold oInTs at h
  split at h
  · rename_i d ds h1 h2
    by_cases hs : (SeqAt.shaped d && SeqAt.shaped (.tuple ds)) = true
    · rw [if_pos hs] at h
      obtain ⟨s1, s2⟩ := Bool.and_eq_true_iff.mp hs
      exact ⟨d, ds, datT_dp r r1 h1, datT_dp r r2 h2, s1, s2, h.same r (.bl _)⟩
    · rw [if_neg hs] at h; exact h.elim
  · exact h.elim
theorem ok_inTs (hu : C.X.A.units + 65 < cLine) : Op2Ok C (compareOp .In) (oInTs false) := Op2Ok.of (op_inTD hu) fun σ H g s m1 m2 x y Q r r1 r2 h => oInTs_at h r r1 r2
end
end Ma
namespace Lw
open L2 Ma PySem.Spec PySem PyProof.Rows
structure Bt (P : Program) (w : World) (mg : Str → Option Value) (T : Tab) : Prop where
  b_abs : mg "abs" = none
  b_all : mg "all" = none
  b_bool : mg "bool" = none
  b_dict : mg "dict" = none
  b_int : mg "int" = none
  b_isinstance : mg "isinstance" = none
  b_len : mg "len" = none
  b_list : mg "list" = none
  b_max : mg "max" = none
  b_min : mg "min" = none
  b_range : mg "range" = none
  b_repr : mg "repr" = none
  b_set : mg "set" = none
  b_sorted : mg "sorted" = none
  b_tuple : mg "tuple" = none
  c_SMALL_BOUND : ∃ t, mg "SMALL_BOUND" = some (.int 1000000000000000 t)
  kc_Formula : KnC mg T "Formula"
  ke_NotBound : KnE mg T "NotBound"
  ke_NotFormula : KnE mg T "NotFormula"
  ke_NotInteger : KnE mg T "NotInteger"
  ke_NotScan : KnE mg T "NotScan"
  ke_TooLarge : KnE mg T "TooLarge"
  f__plus : FldK T ["Formula"] [] "_plus"
  f__times : FldK T ["Formula"] [] "_times"
  fc_Formula__plus : FldC T "Formula" "_plus"
  fc_Formula__times : FldC T "Formula" "_times"
  kt_SCANS : KTup mg T "SCANS" [.str "up", .str "down", .str "far", .str "near"]
  kt_STEPS : KTup mg T "STEPS" [.int 4294967296, .int 65536, .int 256, .int 16, .int 4, .int 2]
  ra_NotBound : RaiF T "NotBound"
  ra_NotFormula : RaiF T "NotFormula"
  ra_NotInteger : RaiF T "NotInteger"
  ra_NotScan : RaiF T "NotScan"
  ra_TooLarge : RaiF T "TooLarge"
  x : Cx0 T IS XS isi
theorem sc__law_cell_at : FnScope ["_law_script", "_law_k"] ["_law_script", "_law_k"] (defScope s__law_cell_at) := ⟨rfl, rfl, rfl, by decide +kernel, rfl, by decide +kernel, by decide +kernel⟩
def m__law_cell_at : MStm := (sSeq (sIf (mB (m2 oLt (mv 1) (mCall (mCons (mv 0) mNil) (cLenD cLen)))) (sRet (m2 (oIxD oIx) (mv 0) (mv 1))) sNx) (sRet (mc (.int 0))))
def F__law_cell_at : Fn := posF 2 [] (bodyF 2 2 m__law_cell_at)
theorem d__law_cell_at {P : Program} {w : World} {mg : Str → Option Value} {base : Heap} {T : Tab} (B : Bt P w mg T)  {f : Addr} {cdv : Value} {A : Around} {outer : List Env} {s : Shared} {H : Hp} {E : XK} {g : Gh}  (hr : RoomG 0 (A.deeper (envOfC "_law_cell_at" (defScope s__law_cell_at) s.heap.objs.size f cdv))) :
    PMb (cAt P w mg base T ["_law_script", "_law_k"] "_law_cell_at" (defScope s__law_cell_at) f cdv A outer s H E g) (defBody s__law_cell_at) m__law_cell_at :=
  have nd := sc__law_cell_at.nd
  have hu := hr.toRoom.units
  have hu2 := room65 hr
  have hgd := hr.gs
  (bm_cons (sm_if (tm_cmp ok_lt (em_v 1) (em_callG (callG_lenD (CallG.of call_len ok_len)) B.b_len (am_cons (em_v 0) am_nil)) (nomark _)) (bm_one (sm_ret (em_ixG (ixG_dict (room1 hu) ixG_seq) (em_v 0) (em_v 1) ⟨fun _ _ => rfl, fun _ _ => rfl⟩))) bm_nil) (bm_one (sm_ret em_int)))
theorem k__law_cell_at {P : Program} {w : World} {mg : Str → Option Value} {base : Heap} {T : Tab} (B : Bt P w mg T)  {f : Addr} {fd : FuncData} (F : Fun T.K "_law_cell_at" "_law_cell_at" s__law_cell_at f fd) (hm : mg "_law_cell_at" = some (.ref f)) : Kn P w mg base T "_law_cell_at" 1 F__law_cell_at :=
  ⟨f, FnP.of (dms := []) (fnG_of F sc__law_cell_at fun cdv A outer s H E g hr => d__law_cell_at B  hr) (F.binds (fun _ _ _ _ _ _ us hl => match us, hl with | [_, _], _ => rfl)) .nil (fun _ _ => .nil), hm, F.kp⟩
theorem sc__law_pen : FnScope ["_law_cell"] ["_law_cell"] (defScope s__law_pen) := ⟨rfl, rfl, rfl, by decide +kernel, rfl, by decide +kernel, by decide +kernel⟩
def m__law_pen : MStm := (sRet (mLstB (mCons (mCall (mCons (mc (.int 0)) (mCons (m2 oSub (mv 0) (m2 oPow (mc (.int 10)) (mc (.int 18)))) mNil)) cMax) (mCons (m2 oMod (mCall (mCons (mv 0) mNil) cInt) (mc (.int 2147483629))) (mCons (mc (.int 1)) mNil)))))
def F__law_pen : Fn := posF 1 [] (bodyF 1 1 m__law_pen)
theorem d__law_pen {P : Program} {w : World} {mg : Str → Option Value} {base : Heap} {T : Tab} (B : Bt P w mg T)  {f : Addr} {cdv : Value} {A : Around} {outer : List Env} {s : Shared} {H : Hp} {E : XK} {g : Gh}  (hr : RoomG 0 (A.deeper (envOfC "_law_pen" (defScope s__law_pen) s.heap.objs.size f cdv))) :
    PMb (cAt P w mg base T ["_law_cell"] "_law_pen" (defScope s__law_pen) f cdv A outer s H E g) (defBody s__law_pen) m__law_pen :=
  have nd := sc__law_pen.nd
  have hu := hr.toRoom.units
  have hu2 := room65 hr
  have hgd := hr.gs
  (bm_one (sm_ret (em_lstB (am_cons (em_callB (call_max2 rfl) ok_max2 B.b_max (am_cons em_int (am_cons (em_bin ok_sub (em_v 0) (em_bin ok_pow em_int em_int)) am_nil))) (am_cons (em_bin ok_mod (em_callT call_int1 ok_int B.b_int (am_cons (em_v 0) am_nil)) em_int) (am_cons em_int am_nil))))))
theorem k__law_pen {P : Program} {w : World} {mg : Str → Option Value} {base : Heap} {T : Tab} (B : Bt P w mg T)  {f : Addr} {fd : FuncData} (F : Fun T.K "_law_pen" "_law_pen" s__law_pen f fd) (hm : mg "_law_pen" = some (.ref f)) : Kn P w mg base T "_law_pen" 1 F__law_pen :=
  ⟨f, FnP.of (dms := []) (fnG_of F sc__law_pen fun cdv A outer s H E g hr => d__law_pen B  hr) (F.binds (fun _ _ _ _ _ _ us hl => match us, hl with | [_], _ => rfl)) .nil (fun _ _ => .nil), hm, F.kp⟩
theorem sc__law_draw : FnScope ["_law_pen_here", "_law_many", "_law_stirred", "_law_digit"] ["_law_pen_here", "_law_many"] (defScope s__law_draw) := ⟨rfl, rfl, rfl, by decide +kernel, rfl, by decide +kernel, by decide +kernel⟩
def m__law_draw : MStm := (sSeq (sIf (mB (m2 oGt (m2 (oIxD oIx) (mv 0) (mc (.int 0))) (mc (.int 0)))) (sSeq (sSet 3 (m2 oMod (mCall (mCons (m2 (oIxD oIx) (mv 0) (mc (.int 0))) mNil) cInt) (mv 1))) (sSeq (sAsg (m2 oDivW (m2 (oIxD oIx) (mv 0) (mc (.int 0))) (mv 1)) (gSub (mv 0) (mc (.int 0)) (fSetD fSetL))) (sRet (mv 3)))) sNx) (sSeq (sAsg (m2 oAdd (m2 (oIxD oIx) (mv 0) (mc (.int 2))) (mc (.int 1))) (gSub (mv 0) (mc (.int 2)) (fSetD fSetL))) (sSeq (sAsg (m2 oMod (mCall (mCons (m2 oAdd (m2 oAdd (m2 oMul (m2 (oIxD oIx) (mv 0) (mc (.int 1))) (mc (.int 48271))) (m2 oMul (mc (.int 7919)) (m2 (oIxD oIx) (mv 0) (mc (.int 2))))) (mc (.int 11))) mNil) cInt) (mc (.int 2147483647))) (gSub (mv 0) (mc (.int 1)) (fSetD fSetL))) (sSeq (sSet 2 (m2 oMod (mCall (mCons (m2 oAdd (m2 oAdd (m2 oMul (m2 (oIxD oIx) (mv 0) (mc (.int 1))) (m2 (oIxD oIx) (mv 0) (mc (.int 1)))) (m2 oMul (mc (.int 40014)) (m2 (oIxD oIx) (mv 0) (mc (.int 1))))) (m2 (oIxD oIx) (mv 0) (mc (.int 2)))) mNil) cInt) (mc (.int 2147483563)))) (sRet (m2 oMod (mCall (mCons (m2 oDivW (m2 oMod (mCall (mCons (m2 oMul (mv 2) (mc (.int 16807))) mNil) cInt) (mc (.int 2147483647))) (mc (.int 64))) mNil) cInt) (mv 1)))))))
def F__law_draw : Fn := posF 2 [] (bodyF 2 4 m__law_draw)
theorem d__law_draw {P : Program} {w : World} {mg : Str → Option Value} {base : Heap} {T : Tab} (B : Bt P w mg T)  {f : Addr} {cdv : Value} {A : Around} {outer : List Env} {s : Shared} {H : Hp} {E : XK} {g : Gh}  (hr : RoomG 0 (A.deeper (envOfC "_law_draw" (defScope s__law_draw) s.heap.objs.size f cdv))) :
    PMb (cAt P w mg base T ["_law_pen_here", "_law_many", "_law_stirred", "_law_digit"] "_law_draw" (defScope s__law_draw) f cdv A outer s H E g) (defBody s__law_draw) m__law_draw :=
  have nd := sc__law_draw.nd
  have hu := hr.toRoom.units
  have hu2 := room65 hr
  have hgd := hr.gs
  (bm_cons (sm_if (tm_cmp ok_gt (em_ixG (ixG_dict (room1 hu) ixG_seq) (em_v 0) em_int ⟨fun _ _ => rfl, fun _ _ => rfl⟩) em_int (nomark _)) (bm_cons (sm_set 3 nd rfl (Or.inl rfl) (em_bin ok_mod (em_callT call_int1 ok_int B.b_int (am_cons (em_ixG (ixG_dict (room1 hu) ixG_seq) (em_v 0) em_int ⟨fun _ _ => rfl, fun _ _ => rfl⟩) am_nil)) (em_v 1))) (bm_cons (sm_asg (em_bin ok_divW (em_ixG (ixG_dict (room1 hu) ixG_seq) (em_v 0) em_int ⟨fun _ _ => rfl, fun _ _ => rfl⟩) (em_v 1)) (gm_subG (setG_dict (room1 hu) (setG_list set_list)) (em_v 0) em_int)) (bm_one (sm_ret (em_v 3))))) bm_nil) (bm_cons (sm_asg (em_bin ok_add (em_ixG (ixG_dict (room1 hu) ixG_seq) (em_v 0) em_int ⟨fun _ _ => rfl, fun _ _ => rfl⟩) em_int) (gm_subG (setG_dict (room1 hu) (setG_list set_list)) (em_v 0) em_int)) (bm_cons (sm_asg (em_bin ok_mod (em_callT call_int1 ok_int B.b_int (am_cons (em_bin ok_add (em_bin ok_add (em_bin ok_mul (em_ixG (ixG_dict (room1 hu) ixG_seq) (em_v 0) em_int ⟨fun _ _ => rfl, fun _ _ => rfl⟩) em_int) (em_bin ok_mul em_int (em_ixG (ixG_dict (room1 hu) ixG_seq) (em_v 0) em_int ⟨fun _ _ => rfl, fun _ _ => rfl⟩))) em_int) am_nil)) em_int) (gm_subG (setG_dict (room1 hu) (setG_list set_list)) (em_v 0) em_int)) (bm_cons (sm_set 2 nd rfl (Or.inl rfl) (em_bin ok_mod (em_callT call_int1 ok_int B.b_int (am_cons (em_bin ok_add (em_bin ok_add (em_bin ok_mul (em_ixG (ixG_dict (room1 hu) ixG_seq) (em_v 0) em_int ⟨fun _ _ => rfl, fun _ _ => rfl⟩) (em_ixG (ixG_dict (room1 hu) ixG_seq) (em_v 0) em_int ⟨fun _ _ => rfl, fun _ _ => rfl⟩)) (em_bin ok_mul em_int (em_ixG (ixG_dict (room1 hu) ixG_seq) (em_v 0) em_int ⟨fun _ _ => rfl, fun _ _ => rfl⟩))) (em_ixG (ixG_dict (room1 hu) ixG_seq) (em_v 0) em_int ⟨fun _ _ => rfl, fun _ _ => rfl⟩)) am_nil)) em_int)) (bm_one (sm_ret (em_bin ok_mod (em_callT call_int1 ok_int B.b_int (am_cons (em_bin ok_divW (em_bin ok_mod (em_callT call_int1 ok_int B.b_int (am_cons (em_bin ok_mul (em_v 2) em_int) am_nil)) em_int) em_int) am_nil)) (em_v 1))))))))
theorem k__law_draw {P : Program} {w : World} {mg : Str → Option Value} {base : Heap} {T : Tab} (B : Bt P w mg T)  {f : Addr} {fd : FuncData} (F : Fun T.K "_law_draw" "_law_draw" s__law_draw f fd) (hm : mg "_law_draw" = some (.ref f)) : Kn P w mg base T "_law_draw" 1 F__law_draw :=
  ⟨f, FnP.of (dms := []) (fnG_of F sc__law_draw fun cdv A outer s H E g hr => d__law_draw B  hr) (F.binds (fun _ _ _ _ _ _ us hl => match us, hl with | [_, _], _ => rfl)) .nil (fun _ _ => .nil), hm, F.kp⟩
theorem sc__law_pick : FnScope ["_law_pen_here", "_law_things"] ["_law_pen_here", "_law_things"] (defScope s__law_pick) := ⟨rfl, rfl, rfl, by decide +kernel, rfl, by decide +kernel, by decide +kernel⟩
def m__law_pick : MStm := (sRet (m2 (oIxD oIx) (mv 1) (mFn (mCons (mv 0) (mCons (mCall (mCons (mv 1) mNil) (cLenD cLen)) mNil)) F__law_draw)))
def F__law_pick : Fn := posF 2 [] (bodyF 2 2 m__law_pick)
theorem d__law_pick {P : Program} {w : World} {mg : Str → Option Value} {base : Heap} {T : Tab} (B : Bt P w mg T) (h__law_draw : Kn P w mg base T "_law_draw" 1 F__law_draw) {f : Addr} {cdv : Value} {A : Around} {outer : List Env} {s : Shared} {H : Hp} {E : XK} {g : Gh}  (hr : RoomG 1 (A.deeper (envOfC "_law_pick" (defScope s__law_pick) s.heap.objs.size f cdv))) :
    PMb (cAt P w mg base T ["_law_pen_here", "_law_things"] "_law_pick" (defScope s__law_pick) f cdv A outer s H E g) (defBody s__law_pick) m__law_pick :=
  have nd := sc__law_pick.nd
  have hu := hr.toRoom.units
  have hu2 := room65 hr
  have hgd := hr.gs
  (bm_one (sm_ret (em_ixG (ixG_dict (room1 hu) ixG_seq) (em_v 1) (em_kn h__law_draw (hr.less (by decide)) cAt_takes (am_cons (em_v 0) (am_cons (em_callG (callG_lenD (CallG.of call_len ok_len)) B.b_len (am_cons (em_v 1) am_nil)) am_nil))) ⟨fun _ _ => rfl, fun _ _ => rfl⟩)))
theorem k__law_pick {P : Program} {w : World} {mg : Str → Option Value} {base : Heap} {T : Tab} (B : Bt P w mg T) (h__law_draw : Kn P w mg base T "_law_draw" 1 F__law_draw) {f : Addr} {fd : FuncData} (F : Fun T.K "_law_pick" "_law_pick" s__law_pick f fd) (hm : mg "_law_pick" = some (.ref f)) : Kn P w mg base T "_law_pick" 2 F__law_pick :=
  ⟨f, FnP.of (dms := []) (fnG_of F sc__law_pick fun cdv A outer s H E g hr => d__law_pick B h__law_draw hr) (F.binds (fun _ _ _ _ _ _ us hl => match us, hl with | [_, _], _ => rfl)) .nil (fun _ _ => .nil), hm, F.kp⟩
theorem sc__law_numbers : FnScope ["_law_pen_here", "_law_times", "_law_plus"] ["_law_pen_here"] (defScope s__law_numbers) := ⟨rfl, rfl, rfl, by decide +kernel, rfl, by decide +kernel, by decide +kernel⟩
def m__law_numbers : MStm := (sSeq (sSet 1 (mFn (mCons (mv 0) (mCons (mLst (mCons (mc (.int 1)) (mCons (mc (.int 1)) (mCons (mc (.int 1)) (mCons (mc (.int 0)) (mCons (mNeg (mc (.int 1))) (mCons (mc (.int 2)) (mCons (mNeg (mc (.int 2))) (mCons (mc (.int 3)) (mCons (mNeg (mc (.int 3))) (mCons (m2 oSub (mFn (mCons (mv 0) (mCons (mc (.int 99)) mNil)) F__law_draw) (mc (.int 49))) (mCons (m2 oSub (m2 oPow (mc (.int 10)) (mc (.int 15))) (mc (.int 1))) (mCons (m2 oSub (mc (.int 1)) (m2 oPow (mc (.int 10)) (mc (.int 15)))) mNil))))))))))))) mNil)) F__law_pick)) (sSeq (sSet 2 (mFn (mCons (mv 0) (mCons (mLst (mCons (mc (.int 0)) (mCons (mc (.int 1)) (mCons (mNeg (mc (.int 1))) (mCons (m2 oSub (mFn (mCons (mv 0) (mCons (mc (.int 30)) mNil)) F__law_draw) (mc (.int 15))) (mCons (mFn (mCons (mv 0) (mCons (m2 oPow (mc (.int 10)) (mc (.int 12))) mNil)) F__law_draw) (mCons (m2 oSub (m2 oPow (mc (.int 10)) (mc (.int 15))) (mc (.int 1))) (mCons (m2 oSub (mc (.int 1)) (m2 oPow (mc (.int 10)) (mc (.int 15)))) mNil)))))))) mNil)) F__law_pick)) (sRet (mTup (mCons (mv 1) (mCons (mv 2) mNil))))))
def F__law_numbers : Fn := posF 1 [] (bodyF 1 3 m__law_numbers)
theorem d__law_numbers {P : Program} {w : World} {mg : Str → Option Value} {base : Heap} {T : Tab} (B : Bt P w mg T) (h__law_pick : Kn P w mg base T "_law_pick" 2 F__law_pick) (h__law_draw : Kn P w mg base T "_law_draw" 1 F__law_draw) {f : Addr} {cdv : Value} {A : Around} {outer : List Env} {s : Shared} {H : Hp} {E : XK} {g : Gh}  (hr : RoomG 2 (A.deeper (envOfC "_law_numbers" (defScope s__law_numbers) s.heap.objs.size f cdv))) :
    PMb (cAt P w mg base T ["_law_pen_here", "_law_times", "_law_plus"] "_law_numbers" (defScope s__law_numbers) f cdv A outer s H E g) (defBody s__law_numbers) m__law_numbers :=
  have nd := sc__law_numbers.nd
  have hu := hr.toRoom.units
  have hu2 := room65 hr
  have hgd := hr.gs
  (bm_cons (sm_set 1 nd rfl (Or.inl rfl) (em_kn h__law_pick (hr.less (by decide)) cAt_takes (am_cons (em_v 0) (am_cons (em_lst (am_cons em_int (am_cons em_int (am_cons em_int (am_cons em_int (am_cons (em_neg em_int) (am_cons em_int (am_cons (em_neg em_int) (am_cons em_int (am_cons (em_neg em_int) (am_cons (em_bin ok_sub (em_kn h__law_draw (hr.less (by decide)) cAt_takes (am_cons (em_v 0) (am_cons em_int am_nil))) em_int) (am_cons (em_bin ok_sub (em_bin ok_pow em_int em_int) em_int) (am_cons (em_bin ok_sub em_int (em_bin ok_pow em_int em_int)) am_nil))))))))))))) am_nil)))) (bm_cons (sm_set 2 nd rfl (Or.inl rfl) (em_kn h__law_pick (hr.less (by decide)) cAt_takes (am_cons (em_v 0) (am_cons (em_lst (am_cons em_int (am_cons em_int (am_cons (em_neg em_int) (am_cons (em_bin ok_sub (em_kn h__law_draw (hr.less (by decide)) cAt_takes (am_cons (em_v 0) (am_cons em_int am_nil))) em_int) (am_cons (em_kn h__law_draw (hr.less (by decide)) cAt_takes (am_cons (em_v 0) (am_cons (em_bin ok_pow em_int em_int) am_nil))) (am_cons (em_bin ok_sub (em_bin ok_pow em_int em_int) em_int) (am_cons (em_bin ok_sub em_int (em_bin ok_pow em_int em_int)) am_nil)))))))) am_nil)))) (bm_one (sm_ret (em_tup (am_cons (em_v 1) (am_cons (em_v 2) am_nil)))))))
theorem k__law_numbers {P : Program} {w : World} {mg : Str → Option Value} {base : Heap} {T : Tab} (B : Bt P w mg T) (h__law_pick : Kn P w mg base T "_law_pick" 2 F__law_pick) (h__law_draw : Kn P w mg base T "_law_draw" 1 F__law_draw) {f : Addr} {fd : FuncData} (F : Fun T.K "_law_numbers" "_law_numbers" s__law_numbers f fd) (hm : mg "_law_numbers" = some (.ref f)) : Kn P w mg base T "_law_numbers" 3 F__law_numbers :=
  ⟨f, FnP.of (dms := []) (fnG_of F sc__law_numbers fun cdv A outer s H E g hr => d__law_numbers B h__law_pick h__law_draw hr) (F.binds (fun _ _ _ _ _ _ us hl => match us, hl with | [_], _ => rfl)) .nil (fun _ _ => .nil), hm, F.kp⟩
theorem sc__law_bounds : FnScope ["_law_pen_here", "_law_pair", "_law_middle", "_law_some", "_law_one", "_law_other", "_law_small", "_law_great", "_law_least", "_law_most"] ["_law_pen_here", "_law_pair"] (defScope s__law_bounds) := ⟨rfl, rfl, rfl, by decide +kernel, rfl, by decide +kernel, by decide +kernel⟩
def m__law_bounds : MStm := (sSeq (sSet 2 (mIf (mB (m2 (oEqK true (oEqD true)) (m2 (oIxD oIx) (mv 1) (mc (.int 0))) (mc (.int 1)))) (m2 oFdv (m2 (oIxD oIx) (mv 1) (mc (.int 1))) (m2 oSub (mc (.int 1)) (m2 (oIxD oIx) (mv 1) (mc (.int 0))))) (mc (.int 0)))) (sSeq (sSet 2 (mCall (mCons (mNeg (m2 oPow (mc (.int 10)) (mc (.int 14)))) (mCons (mCall (mCons (m2 oPow (mc (.int 10)) (mc (.int 14))) (mCons (mv 2) mNil)) cMin) mNil)) cMax)) (sSeq (sPar2 4 5 (mCons (m2 oSub (m2 oAdd (mv 2) (mFn (mCons (mv 0) (mCons (mc (.int 9)) mNil)) F__law_draw)) (mc (.int 4))) (mCons (m2 oSub (m2 oAdd (mv 2) (mFn (mCons (mv 0) (mCons (mc (.int 25)) mNil)) F__law_draw)) (mc (.int 12))) mNil))) (sSeq (sPar2 6 7 (mCons (mCall (mCons (mv 4) (mCons (mv 5) mNil)) cMin) (mCons (mCall (mCons (mv 4) (mCons (mv 5) mNil)) cMax) mNil))) (sSeq (sSet 3 (mLstB (mCons (mTup (mCons (mc .non) (mCons (mc .non) mNil))) (mCons (mTup (mCons (mv 6) (mCons (mc .non) mNil))) (mCons (mTup (mCons (mc .non) (mCons (mv 7) mNil))) (mCons (mTup (mCons (mv 6) (mCons (mv 7) mNil))) (mCons (mTup (mCons (mv 6) (mCons (mv 6) mNil))) (mCons (mTup (mCons (m2 oAdd (mv 7) (mc (.int 1))) (mCons (m2 oSub (mv 6) (mc (.int 1))) mNil))) mNil)))))))) (sSeq (sExpr (mAppend (mv 3) (mTup (mCons (mv 4) (mCons (m2 oSub (m2 (oIxD oIx) (mv 1) (mc (.int 1))) (mv 4)) mNil))))) (sSeq (sAsg (mFn (mCons (mv 0) (mCons (mv 3) mNil)) F__law_pick) (gUnpN [8, 9])) (sRet (mIf (mOr (mB (m2 (oIsN false) (mv 9) (mc .non))) (mB (m2 oLt (mCall (mCons (mv 9) mNil) cAbs) (m2 oPow (mc (.int 10)) (mc (.int 15)))))) (mTup (mCons (mv 8) (mCons (mv 9) mNil))) (mTup (mCons (mv 8) (mCons (mc .non) mNil))))))))))))
def F__law_bounds : Fn := posF 2 [] (bodyF 2 10 m__law_bounds)
theorem d__law_bounds {P : Program} {w : World} {mg : Str → Option Value} {base : Heap} {T : Tab} (B : Bt P w mg T) (h__law_draw : Kn P w mg base T "_law_draw" 1 F__law_draw) (h__law_pick : Kn P w mg base T "_law_pick" 2 F__law_pick) {f : Addr} {cdv : Value} {A : Around} {outer : List Env} {s : Shared} {H : Hp} {E : XK} {g : Gh}  (hr : RoomG 2 (A.deeper (envOfC "_law_bounds" (defScope s__law_bounds) s.heap.objs.size f cdv))) :
    PMb (cAt P w mg base T ["_law_pen_here", "_law_pair", "_law_middle", "_law_some", "_law_one", "_law_other", "_law_small", "_law_great", "_law_least", "_law_most"] "_law_bounds" (defScope s__law_bounds) f cdv A outer s H E g) (defBody s__law_bounds) m__law_bounds :=
  have nd := sc__law_bounds.nd
  have hu := hr.toRoom.units
  have hu2 := room65 hr
  have hgd := hr.gs
  (bm_cons (sm_set 2 nd rfl (Or.inl rfl) (em_if (tm_cmp (op_neK (room0 hu) (ok_neD hu)) (em_ixG (ixG_dict (room1 hu) ixG_seq) (em_v 1) em_int ⟨fun _ _ => rfl, fun _ _ => rfl⟩) em_int (nomark _)) (em_bin ok_fdv (em_ixG (ixG_dict (room1 hu) ixG_seq) (em_v 1) em_int ⟨fun _ _ => rfl, fun _ _ => rfl⟩) (em_bin ok_sub em_int (em_ixG (ixG_dict (room1 hu) ixG_seq) (em_v 1) em_int ⟨fun _ _ => rfl, fun _ _ => rfl⟩))) em_int)) (bm_cons (sm_set 2 nd rfl (Or.inl rfl) (em_callB (call_max2 rfl) ok_max2 B.b_max (am_cons (em_neg (em_bin ok_pow em_int em_int)) (am_cons (em_callB (call_min2 rfl) ok_min2 B.b_min (am_cons (em_bin ok_pow em_int em_int) (am_cons (em_v 2) am_nil))) am_nil)))) (bm_cons (sm_par2 4 5 rfl nd (am_cons (em_bin ok_sub (em_bin ok_add (em_v 2) (em_kn h__law_draw (hr.less (by decide)) cAt_takes (am_cons (em_v 0) (am_cons em_int am_nil)))) em_int) (am_cons (em_bin ok_sub (em_bin ok_add (em_v 2) (em_kn h__law_draw (hr.less (by decide)) cAt_takes (am_cons (em_v 0) (am_cons em_int am_nil)))) em_int) am_nil))) (bm_cons (sm_par2 6 7 rfl nd (am_cons (em_callB (call_min2 rfl) ok_min2 B.b_min (am_cons (em_v 4) (am_cons (em_v 5) am_nil))) (am_cons (em_callB (call_max2 rfl) ok_max2 B.b_max (am_cons (em_v 4) (am_cons (em_v 5) am_nil))) am_nil))) (bm_cons (sm_set 3 nd rfl (Or.inl rfl) (em_lstB (am_cons (em_tup (am_cons em_non (am_cons em_non am_nil))) (am_cons (em_tup (am_cons (em_v 6) (am_cons em_non am_nil))) (am_cons (em_tup (am_cons em_non (am_cons (em_v 7) am_nil))) (am_cons (em_tup (am_cons (em_v 6) (am_cons (em_v 7) am_nil))) (am_cons (em_tup (am_cons (em_v 6) (am_cons (em_v 6) am_nil))) (am_cons (em_tup (am_cons (em_bin ok_add (em_v 7) em_int) (am_cons (em_bin ok_sub (em_v 6) em_int) am_nil))) am_nil)))))))) (bm_cons (sm_expr (em_append (em_v 3) (em_tup (am_cons (em_v 4) (am_cons (em_bin ok_sub (em_ixG (ixG_dict (room1 hu) ixG_seq) (em_v 1) em_int ⟨fun _ _ => rfl, fun _ _ => rfl⟩) (em_v 4)) am_nil))))) (bm_cons (sm_asg (em_kn h__law_pick (hr.less (by decide)) cAt_takes (am_cons (em_v 0) (am_cons (em_v 3) am_nil))) (gm_unpN (is := [8, 9]) rfl (pgs_cons (pg_name (i := 8) nd rfl (Or.inl rfl)) (pgs_cons (pg_name (i := 9) nd rfl (Or.inl rfl)) pgs_nil)))) (bm_one (sm_ret (em_if (tm_w (wm_or (tm_cmp ok_isN (em_v 9) em_non (nomark _)) (wm_or1 (tm_cmp ok_lt (em_callB call_abs ok_abs B.b_abs (am_cons (em_v 9) am_nil)) (em_bin ok_pow em_int em_int) (nomark _))))) (em_tup (am_cons (em_v 8) (am_cons (em_v 9) am_nil))) (em_tup (am_cons (em_v 8) (am_cons em_non am_nil)))))))))))))
theorem k__law_bounds {P : Program} {w : World} {mg : Str → Option Value} {base : Heap} {T : Tab} (B : Bt P w mg T) (h__law_draw : Kn P w mg base T "_law_draw" 1 F__law_draw) (h__law_pick : Kn P w mg base T "_law_pick" 2 F__law_pick) {f : Addr} {fd : FuncData} (F : Fun T.K "_law_bounds" "_law_bounds" s__law_bounds f fd) (hm : mg "_law_bounds" = some (.ref f)) : Kn P w mg base T "_law_bounds" 3 F__law_bounds :=
  ⟨f, FnP.of (dms := []) (fnG_of F sc__law_bounds fun cdv A outer s H E g hr => d__law_bounds B h__law_draw h__law_pick hr) (F.binds (fun _ _ _ _ _ _ us hl => match us, hl with | [_, _], _ => rfl)) .nil (fun _ _ => .nil), hm, F.kp⟩
theorem sc_is_integer : FnScope ["thing"] ["thing"] (defScope s_is_integer) := ⟨rfl, rfl, rfl, by decide +kernel, rfl, by decide +kernel, by decide +kernel⟩
def m_is_integer : MStm := (sRet (mAndV (mCall (mCons (mv 0) (mCons (mc (.ty "int")) mNil)) (cIsi IS XS isi)) (mNotV (mCall (mCons (mv 0) (mCons (mc (.ty "bool")) mNil)) (cIsi IS XS isi)))))
def F_is_integer : Fn := posF 1 [] (bodyF 1 1 m_is_integer)
theorem d_is_integer {P : Program} {w : World} {mg : Str → Option Value} {base : Heap} {T : Tab} (B : Bt P w mg T)  {f : Addr} {cdv : Value} {A : Around} {outer : List Env} {s : Shared} {H : Hp} {E : XK} {g : Gh}  (hr : RoomG 0 (A.deeper (envOfC "is_integer" (defScope s_is_integer) s.heap.objs.size f cdv))) :
    PMb (cAt P w mg base T ["thing"] "is_integer" (defScope s_is_integer) f cdv A outer s H E g) (defBody s_is_integer) m_is_integer :=
  have nd := sc_is_integer.nd
  have hu := hr.toRoom.units
  have hu2 := room65 hr
  have hgd := hr.gs
  (bm_one (sm_ret (em_and (em_callB call_isA (ok_isK B.x) B.b_isinstance (am_cons (em_v 0) (am_cons (em_ty B.b_int) am_nil))) (em_one (em_not (em_callB call_isA (ok_isK B.x) B.b_isinstance (am_cons (em_v 0) (am_cons (em_ty B.b_bool) am_nil))))))))
theorem k_is_integer {P : Program} {w : World} {mg : Str → Option Value} {base : Heap} {T : Tab} (B : Bt P w mg T)  {f : Addr} {fd : FuncData} (F : Fun T.K "is_integer" "is_integer" s_is_integer f fd) (hm : mg "is_integer" = some (.ref f)) : Kn P w mg base T "is_integer" 1 F_is_integer :=
  ⟨f, FnP.of (dms := []) (fnG_of F sc_is_integer fun cdv A outer s H E g hr => d_is_integer B  hr) (F.binds (fun _ _ _ _ _ _ us hl => match us, hl with | [_], _ => rfl)) .nil (fun _ _ => .nil), hm, F.kp⟩
theorem sc_is_small : FnScope ["thing"] ["thing"] (defScope s_is_small) := ⟨rfl, rfl, rfl, by decide +kernel, rfl, by decide +kernel, by decide +kernel⟩
def m_is_small : MStm := (sRet (mAndV (mFn (mCons (mv 0) mNil) F_is_integer) (mChain oLt oLt (mNeg (mc (.int 1000000000000000))) (mv 0) (mc (.int 1000000000000000)))))
def F_is_small : Fn := posF 1 [] (bodyF 1 1 m_is_small)
theorem d_is_small {P : Program} {w : World} {mg : Str → Option Value} {base : Heap} {T : Tab} (B : Bt P w mg T) (h_is_integer : Kn P w mg base T "is_integer" 1 F_is_integer) {f : Addr} {cdv : Value} {A : Around} {outer : List Env} {s : Shared} {H : Hp} {E : XK} {g : Gh}  (hr : RoomG 1 (A.deeper (envOfC "is_small" (defScope s_is_small) s.heap.objs.size f cdv))) :
    PMb (cAt P w mg base T ["thing"] "is_small" (defScope s_is_small) f cdv A outer s H E g) (defBody s_is_small) m_is_small :=
  have nd := sc_is_small.nd
  have hu := hr.toRoom.units
  have hu2 := room65 hr
  have hgd := hr.gs
  (bm_one (sm_ret (em_and (em_kn h_is_integer (hr.less (by decide)) cAt_takes (am_cons (em_v 0) am_nil)) (em_one (em_chain ok_lt ok_lt (em_neg (em_gi B.c_SMALL_BOUND)) (em_v 0) (em_gi B.c_SMALL_BOUND))))))
theorem k_is_small {P : Program} {w : World} {mg : Str → Option Value} {base : Heap} {T : Tab} (B : Bt P w mg T) (h_is_integer : Kn P w mg base T "is_integer" 1 F_is_integer) {f : Addr} {fd : FuncData} (F : Fun T.K "is_small" "is_small" s_is_small f fd) (hm : mg "is_small" = some (.ref f)) : Kn P w mg base T "is_small" 2 F_is_small :=
  ⟨f, FnP.of (dms := []) (fnG_of F sc_is_small fun cdv A outer s H E g hr => d_is_small B h_is_integer hr) (F.binds (fun _ _ _ _ _ _ us hl => match us, hl with | [_], _ => rfl)) .nil (fun _ _ => .nil), hm, F.kp⟩
theorem sc_Formula___init__ : FnScope ["self", "times", "plus"] ["self", "times", "plus"] (defScope s_Formula___init__) := ⟨rfl, rfl, rfl, by decide +kernel, rfl, by decide +kernel, by decide +kernel⟩
def m_Formula___init__ : MStm := (sSeq (sIf (mOr (mNot (mB (mFn (mCons (mv 1) mNil) F_is_integer))) (mNot (mB (mFn (mCons (mv 2) mNil) F_is_integer)))) (sRai "NotInteger" (mCons (mc (.str "times and plus are integers")) mNil)) sNx) (sSeq (sIf (mOr (mNot (mB (mFn (mCons (mv 1) mNil) F_is_small))) (mNot (mB (mFn (mCons (mv 2) mNil) F_is_small)))) (sRai "TooLarge" (mCons (mc (.str "times and plus have at most 15 digits")) mNil)) sNx) (sSeq (sPut "Formula" "_times" (mv 0) (mv 1)) (sPut "Formula" "_plus" (mv 0) (mv 2)))))
def F_Formula___init__ : Fn := posF 3 [] (bodyF 3 3 m_Formula___init__)
theorem d_Formula___init__ {P : Program} {w : World} {mg : Str → Option Value} {base : Heap} {T : Tab} (B : Bt P w mg T) (h_is_integer : Kn P w mg base T "is_integer" 1 F_is_integer) (h_is_small : Kn P w mg base T "is_small" 2 F_is_small) {f : Addr} {cdv : Value} {A : Around} {outer : List Env} {s : Shared} {H : Hp} {E : XK} {g : Gh}  (hr : RoomG 2 (A.deeper (envOfC "Formula.__init__" (defScope s_Formula___init__) s.heap.objs.size f cdv))) :
    PMb (cAt P w mg base T ["self", "times", "plus"] "Formula.__init__" (defScope s_Formula___init__) f cdv A outer s H E g) (defBody s_Formula___init__) m_Formula___init__ :=
  have nd := sc_Formula___init__.nd
  have hu := hr.toRoom.units
  have hu2 := room65 hr
  have hgd := hr.gs
  (bm_cons (sm_if (tm_w (wm_or (tm_not (tm_val (em_kn h_is_integer (hr.less (by decide)) cAt_takes (am_cons (em_v 1) am_nil)))) (wm_or1 (tm_not (tm_val (em_kn h_is_integer (hr.less (by decide)) cAt_takes (am_cons (em_v 2) am_nil))))))) (bm_one (sm_raiK B.ke_NotInteger B.ra_NotInteger rfl cAt_takes (am_cons em_str am_nil))) bm_nil) (bm_cons (sm_if (tm_w (wm_or (tm_not (tm_val (em_kn h_is_small (hr.less (by decide)) cAt_takes (am_cons (em_v 1) am_nil)))) (wm_or1 (tm_not (tm_val (em_kn h_is_small (hr.less (by decide)) cAt_takes (am_cons (em_v 2) am_nil))))))) (bm_one (sm_raiK B.ke_TooLarge B.ra_TooLarge rfl cAt_takes (am_cons em_str am_nil))) bm_nil) (bm_cons (sm_put B.fc_Formula__times (em_v 0) (em_v 1)) (bm_one (sm_put B.fc_Formula__plus (em_v 0) (em_v 2))))))
theorem k_Formula___init__ {P : Program} {w : World} {mg : Str → Option Value} {base : Heap} {T : Tab} (B : Bt P w mg T) (h_is_integer : Kn P w mg base T "is_integer" 1 F_is_integer) (h_is_small : Kn P w mg base T "is_small" 2 F_is_small) {f : Addr} {fd : FuncData} (F : L2.FunD T.K "__init__" "Formula.__init__" (defArgs s_Formula___init__) (defBody s_Formula___init__) (defScope s_Formula___init__) [V.int 1, V.int 0] [] f fd) : FnP P w mg base T 3 f F_Formula___init__ :=
  fnP_d (dms := []) F sc_Formula___init__ 3 2 (by simp) rfl (fun _ _ => .nil) (fun _ _ _ _ _ _ _ us its hl hi => match us, hl, its, hi with | [_, _, _], _, [_, _], _ => ⟨_, rfl, rfl⟩) fun cdv A outer s H E g hr => d_Formula___init__ B h_is_integer h_is_small hr
theorem sc_check_formula : FnScope ["formula"] ["formula"] (defScope s_check_formula) := ⟨rfl, rfl, rfl, by decide +kernel, rfl, by decide +kernel, by decide +kernel⟩
def m_check_formula : MStm := (sIf (mNot (mB (mCall (mCons (mv 0) (mCons (mc (.cls "Formula")) mNil)) (cIsi IS XS isi)))) (sRai "NotFormula" (mCons (mc (.str "a formula is asked for")) mNil)) sNx)
def F_check_formula : Fn := posF 1 [] (bodyF 1 1 m_check_formula)
theorem d_check_formula {P : Program} {w : World} {mg : Str → Option Value} {base : Heap} {T : Tab} (B : Bt P w mg T)  {f : Addr} {cdv : Value} {A : Around} {outer : List Env} {s : Shared} {H : Hp} {E : XK} {g : Gh}  (hr : RoomG 0 (A.deeper (envOfC "check_formula" (defScope s_check_formula) s.heap.objs.size f cdv))) :
    PMb (cAt P w mg base T ["formula"] "check_formula" (defScope s_check_formula) f cdv A outer s H E g) (defBody s_check_formula) m_check_formula :=
  have nd := sc_check_formula.nd
  have hu := hr.toRoom.units
  have hu2 := room65 hr
  have hgd := hr.gs
  (bm_one (sm_if (tm_not (tm_val (em_callB call_isA (ok_isK B.x) B.b_isinstance (am_cons (em_v 0) (am_cons (em_kc B.kc_Formula) am_nil))))) (bm_one (sm_raiK B.ke_NotFormula B.ra_NotFormula rfl cAt_takes (am_cons em_str am_nil))) bm_nil))
theorem k_check_formula {P : Program} {w : World} {mg : Str → Option Value} {base : Heap} {T : Tab} (B : Bt P w mg T)  {f : Addr} {fd : FuncData} (F : Fun T.K "check_formula" "check_formula" s_check_formula f fd) (hm : mg "check_formula" = some (.ref f)) : Kn P w mg base T "check_formula" 1 F_check_formula :=
  ⟨f, FnP.of (dms := []) (fnG_of F sc_check_formula fun cdv A outer s H E g hr => d_check_formula B  hr) (F.binds (fun _ _ _ _ _ _ us hl => match us, hl with | [_], _ => rfl)) .nil (fun _ _ => .nil), hm, F.kp⟩
theorem sc_check_scan : FnScope ["scan"] ["scan"] (defScope s_check_scan) := ⟨rfl, rfl, rfl, by decide +kernel, rfl, by decide +kernel, by decide +kernel⟩
def m_check_scan : MStm := (sIf (mB (mInK true [.str "up", .str "down", .str "far", .str "near"] (mv 0))) (sRai "NotScan" (mCons (mc (.str "the scans are up, down, far and near")) mNil)) sNx)
def F_check_scan : Fn := posF 1 [] (bodyF 1 1 m_check_scan)
theorem d_check_scan {P : Program} {w : World} {mg : Str → Option Value} {base : Heap} {T : Tab} (B : Bt P w mg T)  {f : Addr} {cdv : Value} {A : Around} {outer : List Env} {s : Shared} {H : Hp} {E : XK} {g : Gh}  (hr : RoomG 0 (A.deeper (envOfC "check_scan" (defScope s_check_scan) s.heap.objs.size f cdv))) :
    PMb (cAt P w mg base T ["scan"] "check_scan" (defScope s_check_scan) f cdv A outer s H E g) (defBody s_check_scan) m_check_scan :=
  have nd := sc_check_scan.nd
  have hu := hr.toRoom.units
  have hu2 := room65 hr
  have hgd := hr.gs
  (bm_one (sm_if (tm_notInK B.kt_SCANS hu2 (em_v 0)) (bm_one (sm_raiK B.ke_NotScan B.ra_NotScan rfl cAt_takes (am_cons em_str am_nil))) bm_nil))
theorem k_check_scan {P : Program} {w : World} {mg : Str → Option Value} {base : Heap} {T : Tab} (B : Bt P w mg T)  {f : Addr} {fd : FuncData} (F : Fun T.K "check_scan" "check_scan" s_check_scan f fd) (hm : mg "check_scan" = some (.ref f)) : Kn P w mg base T "check_scan" 1 F_check_scan :=
  ⟨f, FnP.of (dms := []) (fnG_of F sc_check_scan fun cdv A outer s H E g hr => d_check_scan B  hr) (F.binds (fun _ _ _ _ _ _ us hl => match us, hl with | [_], _ => rfl)) .nil (fun _ _ => .nil), hm, F.kp⟩
theorem sc_check_bounds : FnScope ["low", "high", "bound"] ["low", "high"] (defScope s_check_bounds) := ⟨rfl, rfl, rfl, by decide +kernel, rfl, by decide +kernel, by decide +kernel⟩
def m_check_bounds : MStm := (sForI (iSeq (mTup (mCons (mv 0) (mCons (mv 1) mNil)))) (gSet 2) (sIf (mAnd (mB (m2 (oIsN true) (mv 2) (mc .non))) (mNot (mB (mFn (mCons (mv 2) mNil) F_is_small)))) (sRai "NotBound" (mCons (mc (.str "a bound is None or an integer with at most 15 digits")) mNil)) sNx))
def F_check_bounds : Fn := posF 2 [] (bodyF 2 3 m_check_bounds)
theorem d_check_bounds {P : Program} {w : World} {mg : Str → Option Value} {base : Heap} {T : Tab} (B : Bt P w mg T) (h_is_small : Kn P w mg base T "is_small" 2 F_is_small) {f : Addr} {cdv : Value} {A : Around} {outer : List Env} {s : Shared} {H : Hp} {E : XK} {g : Gh}  (hr : RoomG 2 (A.deeper (envOfC "check_bounds" (defScope s_check_bounds) s.heap.objs.size f cdv))) :
    PMb (cAt P w mg base T ["low", "high", "bound"] "check_bounds" (defScope s_check_bounds) f cdv A outer s H E g) (defBody s_check_bounds) m_check_bounds :=
  have nd := sc_check_bounds.nd
  have hu := hr.toRoom.units
  have hu2 := room65 hr
  have hgd := hr.gs
  (bm_one (sm_for (passes_of rfl) rfl (im_seq (em_tup (am_cons (em_v 0) (am_cons (em_v 1) am_nil)))) (gm_name 2 nd rfl (Or.inl rfl)) (bm_one (sm_if (tm_w (wm_and (tm_cmp ok_isntN (em_v 2) em_non (nomark _)) (wm_and1 (tm_not (tm_val (em_kn h_is_small (hr.less (by decide)) cAt_takes (am_cons (em_v 2) am_nil))))))) (bm_one (sm_raiK B.ke_NotBound B.ra_NotBound rfl cAt_takes (am_cons em_str am_nil))) bm_nil))))
theorem k_check_bounds {P : Program} {w : World} {mg : Str → Option Value} {base : Heap} {T : Tab} (B : Bt P w mg T) (h_is_small : Kn P w mg base T "is_small" 2 F_is_small) {f : Addr} {fd : FuncData} (F : Fun T.K "check_bounds" "check_bounds" s_check_bounds f fd) (hm : mg "check_bounds" = some (.ref f)) : Kn P w mg base T "check_bounds" 3 F_check_bounds :=
  ⟨f, FnP.of (dms := []) (fnG_of F sc_check_bounds fun cdv A outer s H E g hr => d_check_bounds B h_is_small hr) (F.binds (fun _ _ _ _ _ _ us hl => match us, hl with | [_, _], _ => rfl)) .nil (fun _ _ => .nil), hm, F.kp⟩
theorem sc_Formula_times : FnScope ["self"] ["self"] (defScope s_Formula_times) := ⟨rfl, rfl, rfl, by decide +kernel, rfl, by decide +kernel, by decide +kernel⟩
def m_Formula_times : MStm := (sRet (mFld ["Formula"] [] "_times" (mv 0)))
def F_Formula_times : Fn := posF 1 [] (bodyF 1 1 m_Formula_times)
theorem d_Formula_times {P : Program} {w : World} {mg : Str → Option Value} {base : Heap} {T : Tab} (B : Bt P w mg T)  {f : Addr} {cdv : Value} {A : Around} {outer : List Env} {s : Shared} {H : Hp} {E : XK} {g : Gh}  (hr : RoomG 0 (A.deeper (envOfC "Formula.times" (defScope s_Formula_times) s.heap.objs.size f cdv))) :
    PMb (cAt P w mg base T ["self"] "Formula.times" (defScope s_Formula_times) f cdv A outer s H E g) (defBody s_Formula_times) m_Formula_times :=
  have nd := sc_Formula_times.nd
  have hu := hr.toRoom.units
  have hu2 := room65 hr
  have hgd := hr.gs
  (bm_one (sm_ret (em_kf B.f__times (em_v 0))))
theorem k_Formula_times {P : Program} {w : World} {mg : Str → Option Value} {base : Heap} {T : Tab} (B : Bt P w mg T)  {f : Addr} {fd : FuncData} (F : Fun T.K "times" "Formula.times" s_Formula_times f fd) : FnP P w mg base T 1 f F_Formula_times :=
  FnP.of (dms := []) (fnG_of F sc_Formula_times fun cdv A outer s H E g hr => d_Formula_times B  hr) (F.binds (fun _ _ _ _ _ _ us hl => match us, hl with | [_], _ => rfl)) .nil (fun _ _ => .nil)
theorem sc_Formula_plus : FnScope ["self"] ["self"] (defScope s_Formula_plus) := ⟨rfl, rfl, rfl, by decide +kernel, rfl, by decide +kernel, by decide +kernel⟩
def m_Formula_plus : MStm := (sRet (mFld ["Formula"] [] "_plus" (mv 0)))
def F_Formula_plus : Fn := posF 1 [] (bodyF 1 1 m_Formula_plus)
theorem d_Formula_plus {P : Program} {w : World} {mg : Str → Option Value} {base : Heap} {T : Tab} (B : Bt P w mg T)  {f : Addr} {cdv : Value} {A : Around} {outer : List Env} {s : Shared} {H : Hp} {E : XK} {g : Gh}  (hr : RoomG 0 (A.deeper (envOfC "Formula.plus" (defScope s_Formula_plus) s.heap.objs.size f cdv))) :
    PMb (cAt P w mg base T ["self"] "Formula.plus" (defScope s_Formula_plus) f cdv A outer s H E g) (defBody s_Formula_plus) m_Formula_plus :=
  have nd := sc_Formula_plus.nd
  have hu := hr.toRoom.units
  have hu2 := room65 hr
  have hgd := hr.gs
  (bm_one (sm_ret (em_kf B.f__plus (em_v 0))))
theorem k_Formula_plus {P : Program} {w : World} {mg : Str → Option Value} {base : Heap} {T : Tab} (B : Bt P w mg T)  {f : Addr} {fd : FuncData} (F : Fun T.K "plus" "Formula.plus" s_Formula_plus f fd) : FnP P w mg base T 1 f F_Formula_plus :=
  FnP.of (dms := []) (fnG_of F sc_Formula_plus fun cdv A outer s H E g hr => d_Formula_plus B  hr) (F.binds (fun _ _ _ _ _ _ us hl => match us, hl with | [_], _ => rfl)) .nil (fun _ _ => .nil)
theorem sc_new_key : FnScope ["formula", "number"] ["formula", "number"] (defScope s_new_key) := ⟨rfl, rfl, rfl, by decide +kernel, rfl, by decide +kernel, by decide +kernel⟩
def m_new_key : MStm := (sRet (m2 oAdd (m2 oMul (mAt (mv 0) (oPrp "Formula" F_Formula_times (fun _ _ => .stuck))) (mv 1)) (mAt (mv 0) (oPrp "Formula" F_Formula_plus (fun _ _ => .stuck)))))
def F_new_key : Fn := posF 2 [] (bodyF 2 2 m_new_key)
theorem d_new_key {P : Program} {w : World} {mg : Str → Option Value} {base : Heap} {T : Tab} (B : Bt P w mg T) (hP_Formula_times : PrK T "Formula" "times" P w mg base 1 F_Formula_times) (hP_Formula_plus : PrK T "Formula" "plus" P w mg base 1 F_Formula_plus) {f : Addr} {cdv : Value} {A : Around} {outer : List Env} {s : Shared} {H : Hp} {E : XK} {g : Gh}  (hr : RoomG 2 (A.deeper (envOfC "new_key" (defScope s_new_key) s.heap.objs.size f cdv))) :
    PMb (cAt P w mg base T ["formula", "number"] "new_key" (defScope s_new_key) f cdv A outer s H E g) (defBody s_new_key) m_new_key :=
  have nd := sc_new_key.nd
  have hu := hr.toRoom.units
  have hu2 := room65 hr
  have hgd := hr.gs
  (bm_one (sm_ret (em_bin ok_add (em_bin ok_mul (em_atG (atG_prp hP_Formula_times (hr.less (by decide)) cAt_takes atG_none) (em_v 0)) (em_v 1)) (em_atG (atG_prp hP_Formula_plus (hr.less (by decide)) cAt_takes atG_none) (em_v 0)))))
theorem k_new_key {P : Program} {w : World} {mg : Str → Option Value} {base : Heap} {T : Tab} (B : Bt P w mg T) (hP_Formula_times : PrK T "Formula" "times" P w mg base 1 F_Formula_times) (hP_Formula_plus : PrK T "Formula" "plus" P w mg base 1 F_Formula_plus) {f : Addr} {fd : FuncData} (F : Fun T.K "new_key" "new_key" s_new_key f fd) (hm : mg "new_key" = some (.ref f)) : Kn P w mg base T "new_key" 3 F_new_key :=
  ⟨f, FnP.of (dms := []) (fnG_of F sc_new_key fun cdv A outer s H E g hr => d_new_key B hP_Formula_times hP_Formula_plus hr) (F.binds (fun _ _ _ _ _ _ us hl => match us, hl with | [_, _], _ => rfl)) .nil (fun _ _ => .nil), hm, F.kp⟩
theorem sc_is_within : FnScope ["number", "low", "high"] ["number", "low", "high"] (defScope s_is_within) := ⟨rfl, rfl, rfl, by decide +kernel, rfl, by decide +kernel, by decide +kernel⟩
def m_is_within : MStm := (sRet (mAndV (mOrV (m2 (oIsN false) (mv 1) (mc .non)) (m2 oLe (mv 1) (mv 0))) (mOrV (m2 (oIsN false) (mv 2) (mc .non)) (m2 oLe (mv 0) (mv 2)))))
def F_is_within : Fn := posF 3 [] (bodyF 3 3 m_is_within)
theorem d_is_within {P : Program} {w : World} {mg : Str → Option Value} {base : Heap} {T : Tab} (B : Bt P w mg T)  {f : Addr} {cdv : Value} {A : Around} {outer : List Env} {s : Shared} {H : Hp} {E : XK} {g : Gh}  (hr : RoomG 0 (A.deeper (envOfC "is_within" (defScope s_is_within) s.heap.objs.size f cdv))) :
    PMb (cAt P w mg base T ["number", "low", "high"] "is_within" (defScope s_is_within) f cdv A outer s H E g) (defBody s_is_within) m_is_within :=
  have nd := sc_is_within.nd
  have hu := hr.toRoom.units
  have hu2 := room65 hr
  have hgd := hr.gs
  (bm_one (sm_ret (em_and (em_or (em_cmp ok_isN (em_v 1) em_non (nomark _)) (em_one (em_cmp ok_le (em_v 1) (em_v 0) (nomark _)))) (em_one (em_or (em_cmp ok_isN (em_v 2) em_non (nomark _)) (em_one (em_cmp ok_le (em_v 0) (em_v 2) (nomark _))))))))
theorem k_is_within {P : Program} {w : World} {mg : Str → Option Value} {base : Heap} {T : Tab} (B : Bt P w mg T)  {f : Addr} {fd : FuncData} (F : Fun T.K "is_within" "is_within" s_is_within f fd) (hm : mg "is_within" = some (.ref f)) : Kn P w mg base T "is_within" 1 F_is_within :=
  ⟨f, FnP.of (dms := []) (fnG_of F sc_is_within fun cdv A outer s H E g hr => d_is_within B  hr) (F.binds (fun _ _ _ _ _ _ us hl => match us, hl with | [_, _, _], _ => rfl)) .nil (fun _ _ => .nil), hm, F.kp⟩
theorem sc_is_visited_before : FnScope ["new", "key", "formula", "scan"] ["new", "key", "formula", "scan"] (defScope s_is_visited_before) := ⟨rfl, rfl, rfl, by decide +kernel, rfl, by decide +kernel, by decide +kernel⟩
def m_is_visited_before : MStm := (sSeq (sIf (mB (m2 (oEqK false (oEqD false)) (mv 3) (mc (.str "down")))) (sRet (m2 oGt (mv 0) (mv 1))) sNx) (sSeq (sIf (mOr (mB (m2 (oEqK false (oEqD false)) (mv 3) (mc (.str "up")))) (mB (m2 (oEqK false (oEqD false)) (mCall (mCons (mAt (mv 2) (oPrp "Formula" F_Formula_times (fun _ _ => .stuck))) mNil) cAbs) (mc (.int 1))))) (sRet (m2 oLt (mv 0) (mv 1))) sNx) (sRet (m2 (oEqK false (oEqD false)) (mv 3) (mc (.str "far"))))))
def F_is_visited_before : Fn := posF 4 [] (bodyF 4 4 m_is_visited_before)
theorem d_is_visited_before {P : Program} {w : World} {mg : Str → Option Value} {base : Heap} {T : Tab} (B : Bt P w mg T) (hP_Formula_times : PrK T "Formula" "times" P w mg base 1 F_Formula_times) {f : Addr} {cdv : Value} {A : Around} {outer : List Env} {s : Shared} {H : Hp} {E : XK} {g : Gh}  (hr : RoomG 2 (A.deeper (envOfC "is_visited_before" (defScope s_is_visited_before) s.heap.objs.size f cdv))) :
    PMb (cAt P w mg base T ["new", "key", "formula", "scan"] "is_visited_before" (defScope s_is_visited_before) f cdv A outer s H E g) (defBody s_is_visited_before) m_is_visited_before :=
  have nd := sc_is_visited_before.nd
  have hu := hr.toRoom.units
  have hu2 := room65 hr
  have hgd := hr.gs
  (bm_cons (sm_if (tm_cmp (op_eqK (room0 hu) (ok_eqD hu)) (em_v 3) em_str (nomark _)) (bm_one (sm_ret (em_cmp ok_gt (em_v 0) (em_v 1) (nomark _)))) bm_nil) (bm_cons (sm_if (tm_w (wm_or (tm_cmp (op_eqK (room0 hu) (ok_eqD hu)) (em_v 3) em_str (nomark _)) (wm_or1 (tm_cmp (op_eqK (room0 hu) (ok_eqD hu)) (em_callB call_abs ok_abs B.b_abs (am_cons (em_atG (atG_prp hP_Formula_times (hr.less (by decide)) cAt_takes atG_none) (em_v 2)) am_nil)) em_int (nomark _))))) (bm_one (sm_ret (em_cmp ok_lt (em_v 0) (em_v 1) (nomark _)))) bm_nil) (bm_one (sm_ret (em_cmp (op_eqK (room0 hu) (ok_eqD hu)) (em_v 3) em_str (nomark _))))))
theorem k_is_visited_before {P : Program} {w : World} {mg : Str → Option Value} {base : Heap} {T : Tab} (B : Bt P w mg T) (hP_Formula_times : PrK T "Formula" "times" P w mg base 1 F_Formula_times) {f : Addr} {fd : FuncData} (F : Fun T.K "is_visited_before" "is_visited_before" s_is_visited_before f fd) (hm : mg "is_visited_before" = some (.ref f)) : Kn P w mg base T "is_visited_before" 3 F_is_visited_before :=
  ⟨f, FnP.of (dms := []) (fnG_of F sc_is_visited_before fun cdv A outer s H E g hr => d_is_visited_before B hP_Formula_times hr) (F.binds (fun _ _ _ _ _ _ us hl => match us, hl with | [_, _, _, _], _ => rfl)) .nil (fun _ _ => .nil), hm, F.kp⟩
theorem sc_meets_conflict : FnScope ["key", "formula", "scan", "low", "high", "new"] ["key", "formula", "scan", "low", "high"] (defScope s_meets_conflict) := ⟨rfl, rfl, rfl, by decide +kernel, rfl, by decide +kernel, by decide +kernel⟩
def m_meets_conflict : MStm := (sSeq (sSet 5 (mFn (mCons (mv 1) (mCons (mv 0) mNil)) F_new_key)) (sSeq (sIf (mB (m2 (oEqK false (oEqD false)) (mv 5) (mv 0))) (sRet (mc (.bl false))) sNx) (sSeq (sIf (mOr (mB (m2 (oInT false (oInD false (oInL false))) (mAt (mv 1) (oPrp "Formula" F_Formula_times (fun _ _ => .stuck))) (mTup (mCons (mc (.int 0)) (mCons (mNeg (mc (.int 1))) mNil))))) (mNot (mB (mFn (mCons (mv 5) (mCons (mv 3) (mCons (mv 4) mNil))) F_is_within)))) (sRet (mc (.bl true))) sNx) (sRet (mNotV (mFn (mCons (mv 5) (mCons (mv 0) (mCons (mv 1) (mCons (mv 2) mNil)))) F_is_visited_before))))))
def F_meets_conflict : Fn := posF 5 [] (bodyF 5 6 m_meets_conflict)
theorem d_meets_conflict {P : Program} {w : World} {mg : Str → Option Value} {base : Heap} {T : Tab} (B : Bt P w mg T) (h_new_key : Kn P w mg base T "new_key" 3 F_new_key) (hP_Formula_times : PrK T "Formula" "times" P w mg base 1 F_Formula_times) (h_is_within : Kn P w mg base T "is_within" 1 F_is_within) (h_is_visited_before : Kn P w mg base T "is_visited_before" 3 F_is_visited_before) {f : Addr} {cdv : Value} {A : Around} {outer : List Env} {s : Shared} {H : Hp} {E : XK} {g : Gh}  (hr : RoomG 3 (A.deeper (envOfC "meets_conflict" (defScope s_meets_conflict) s.heap.objs.size f cdv))) :
    PMb (cAt P w mg base T ["key", "formula", "scan", "low", "high", "new"] "meets_conflict" (defScope s_meets_conflict) f cdv A outer s H E g) (defBody s_meets_conflict) m_meets_conflict :=
  have nd := sc_meets_conflict.nd
  have hu := hr.toRoom.units
  have hu2 := room65 hr
  have hgd := hr.gs
  (bm_cons (sm_set 5 nd rfl (Or.inl rfl) (em_kn h_new_key (hr.less (by decide)) cAt_takes (am_cons (em_v 1) (am_cons (em_v 0) am_nil)))) (bm_cons (sm_if (tm_cmp (op_eqK (room0 hu) (ok_eqD hu)) (em_v 5) (em_v 0) (nomark _)) (bm_one (sm_ret em_bl)) bm_nil) (bm_cons (sm_if (tm_w (wm_or (tm_cmp (op_inT (op_inD (room1 hu) (ok_inL hu2))) (em_atG (atG_prp hP_Formula_times (hr.less (by decide)) cAt_takes atG_none) (em_v 1)) (em_tup (am_cons em_int (am_cons (em_neg em_int) am_nil))) (by with_unfolding_all rfl)) (wm_or1 (tm_not (tm_val (em_kn h_is_within (hr.less (by decide)) cAt_takes (am_cons (em_v 5) (am_cons (em_v 3) (am_cons (em_v 4) am_nil))))))))) (bm_one (sm_ret em_bl)) bm_nil) (bm_one (sm_ret (em_not (em_kn h_is_visited_before (hr.less (by decide)) cAt_takes (am_cons (em_v 5) (am_cons (em_v 0) (am_cons (em_v 1) (am_cons (em_v 2) am_nil)))))))))))
theorem k_meets_conflict {P : Program} {w : World} {mg : Str → Option Value} {base : Heap} {T : Tab} (B : Bt P w mg T) (h_new_key : Kn P w mg base T "new_key" 3 F_new_key) (hP_Formula_times : PrK T "Formula" "times" P w mg base 1 F_Formula_times) (h_is_within : Kn P w mg base T "is_within" 1 F_is_within) (h_is_visited_before : Kn P w mg base T "is_visited_before" 3 F_is_visited_before) {f : Addr} {fd : FuncData} (F : Fun T.K "meets_conflict" "meets_conflict" s_meets_conflict f fd) (hm : mg "meets_conflict" = some (.ref f)) : Kn P w mg base T "meets_conflict" 4 F_meets_conflict :=
  ⟨f, FnP.of (dms := []) (fnG_of F sc_meets_conflict fun cdv A outer s H E g hr => d_meets_conflict B h_new_key hP_Formula_times h_is_within h_is_visited_before hr) (F.binds (fun _ _ _ _ _ _ us hl => match us, hl with | [_, _, _, _, _], _ => rfl)) .nil (fun _ _ => .nil), hm, F.kp⟩
theorem sc_is_safe : FnScope ["formula", "scan", "low", "high", "far", "first", "last"] ["formula", "scan", "low", "high", "far"] (defScope s_is_safe) := ⟨rfl, rfl, rfl, by decide +kernel, rfl, by decide +kernel, by decide +kernel⟩
def m_is_safe : MStm := (sSeq (sSet 5 (mIf (mOr (mB (m2 (oIsN false) (mv 2) (mc .non))) (mB (m2 oLt (mv 2) (mNeg (mv 4))))) (mNeg (mv 4)) (mv 2))) (sSeq (sSet 6 (mIf (mOr (mB (m2 (oIsN false) (mv 3) (mc .non))) (mB (m2 oGt (mv 3) (mv 4)))) (mv 4) (mv 3))) (sSeq (sIf (mB (m2 oGt (mv 5) (mv 6))) (sRet (mc (.bl true))) sNx) (sRet (mNotV (mOrV (mFn (mCons (mv 5) (mCons (mv 0) (mCons (mv 1) (mCons (mv 2) (mCons (mv 3) mNil))))) F_meets_conflict) (mFn (mCons (mv 6) (mCons (mv 0) (mCons (mv 1) (mCons (mv 2) (mCons (mv 3) mNil))))) F_meets_conflict)))))))
def F_is_safe_m0 : Fn := posF 5 [] (bodyF 5 7 m_is_safe)
def F_is_safe_m1 : Fn := posF 5 [.int 18014398509481984] (bodyF 5 7 m_is_safe)
theorem d_is_safe {P : Program} {w : World} {mg : Str → Option Value} {base : Heap} {T : Tab} (B : Bt P w mg T) (h_meets_conflict : Kn P w mg base T "meets_conflict" 4 F_meets_conflict) {f : Addr} {cdv : Value} {A : Around} {outer : List Env} {s : Shared} {H : Hp} {E : XK} {g : Gh}  (hr : RoomG 4 (A.deeper (envOfC "is_safe" (defScope s_is_safe) s.heap.objs.size f cdv))) :
    PMb (cAt P w mg base T ["formula", "scan", "low", "high", "far", "first", "last"] "is_safe" (defScope s_is_safe) f cdv A outer s H E g) (defBody s_is_safe) m_is_safe :=
  have nd := sc_is_safe.nd
  have hu := hr.toRoom.units
  have hu2 := room65 hr
  have hgd := hr.gs
  (bm_cons (sm_set 5 nd rfl (Or.inl rfl) (em_if (tm_w (wm_or (tm_cmp ok_isN (em_v 2) em_non (nomark _)) (wm_or1 (tm_cmp ok_lt (em_v 2) (em_neg (em_v 4)) (nomark _))))) (em_neg (em_v 4)) (em_v 2))) (bm_cons (sm_set 6 nd rfl (Or.inl rfl) (em_if (tm_w (wm_or (tm_cmp ok_isN (em_v 3) em_non (nomark _)) (wm_or1 (tm_cmp ok_gt (em_v 3) (em_v 4) (nomark _))))) (em_v 4) (em_v 3))) (bm_cons (sm_if (tm_cmp ok_gt (em_v 5) (em_v 6) (nomark _)) (bm_one (sm_ret em_bl)) bm_nil) (bm_one (sm_ret (em_not (em_or (em_kn h_meets_conflict (hr.less (by decide)) cAt_takes (am_cons (em_v 5) (am_cons (em_v 0) (am_cons (em_v 1) (am_cons (em_v 2) (am_cons (em_v 3) am_nil)))))) (em_one (em_kn h_meets_conflict (hr.less (by decide)) cAt_takes (am_cons (em_v 6) (am_cons (em_v 0) (am_cons (em_v 1) (am_cons (em_v 2) (am_cons (em_v 3) am_nil))))))))))))))
theorem kF_is_safe_m0 {P : Program} {w : World} {mg : Str → Option Value} {base : Heap} {T : Tab} (B : Bt P w mg T) (h_meets_conflict : Kn P w mg base T "meets_conflict" 4 F_meets_conflict) {f : Addr} {fd : FuncData} (F : L2.FunD T.K "is_safe" "is_safe" (defArgs s_is_safe) (defBody s_is_safe) (defScope s_is_safe) [V.int 18014398509481984] [] f fd) (hm : mg "is_safe" = some (.ref f)) : Kn P w mg base T "is_safe" 5 F_is_safe_m0 :=
  ⟨f, fnP_d (dms := []) F sc_is_safe 5 1 (by simp) rfl (fun _ _ => .nil) (fun _ _ _ _ _ _ _ us its hl hi => match us, hl, its, hi with | [_, _, _, _, _], _, [_], _ => ⟨_, rfl, rfl⟩) fun cdv A outer s H E g hr => d_is_safe B h_meets_conflict hr, hm, F.kp⟩
theorem kF_is_safe_m1 {P : Program} {w : World} {mg : Str → Option Value} {base : Heap} {T : Tab} (B : Bt P w mg T) (h_meets_conflict : Kn P w mg base T "meets_conflict" 4 F_meets_conflict) {f : Addr} {fd : FuncData} (F : L2.FunD T.K "is_safe" "is_safe" (defArgs s_is_safe) (defBody s_is_safe) (defScope s_is_safe) [V.int 18014398509481984] [] f fd) (hm : mg "is_safe" = some (.ref f)) : Kn P w mg base T "is_safe" 5 F_is_safe_m1 :=
  ⟨f, fnP_d (dms := [.int 18014398509481984]) F sc_is_safe 4 0 (by simp) rfl (fun _ _ => .cons (.int _) .nil) (fun _ _ _ _ _ _ _ us its hl hi => match us, hl, its, hi with | [_, _, _, _], _, [_], _ => ⟨_, rfl, rfl⟩) fun cdv A outer s H E g hr => d_is_safe B h_meets_conflict hr, hm, F.kp⟩
theorem sc_trial_keys : FnScope ["formula", "scan", "low", "high", "safe", "step", "numbers", "bound", "number"] ["formula", "scan", "low", "high"] (defScope s_trial_keys) := ⟨rfl, rfl, rfl, by decide +kernel, rfl, by decide +kernel, by decide +kernel⟩
def m_trial_keys : MStm := (sSeq (sSet 4 (mc (.int 1))) (sSeq (sForI (iK [.int 4294967296, .int 65536, .int 256, .int 16, .int 4, .int 2]) (gSet 5) (sIf (mB (mFn (mCons (mv 0) (mCons (mv 1) (mCons (mv 2) (mCons (mv 3) (mCons (m2 oMul (mv 4) (mv 5)) mNil))))) F_is_safe_m0)) (sSet 4 (m2 oMul (mv 4) (mv 5))) sNx)) (sSeq (sSet 6 (m2 oAdd (mLst (mCons (mc (.int 0)) (mCons (mc (.int 1)) (mCons (mNeg (mc (.int 1))) (mCons (m2 oMul (mc (.int 2)) (mv 4)) (mCons (m2 oMul (mNeg (mc (.int 2))) (mv 4)) mNil)))))) (mLc [7] (iSeq (mTup (mCons (mv 2) (mCons (mv 3) mNil)))) (gSet 7) (mB (m2 (oIsN true) (mv 7) (mc .non))) (mv 7)))) (sRet (mSrtAb (mLc [8] (iSeq (mv 6)) (gSet 8) (mB (mFn (mCons (mv 8) (mCons (mv 2) (mCons (mv 3) mNil))) F_is_within)) (mv 8)))))))
def F_trial_keys : Fn := posF 4 [] (bodyF 4 9 m_trial_keys)
theorem d_trial_keys {P : Program} {w : World} {mg : Str → Option Value} {base : Heap} {T : Tab} (B : Bt P w mg T) (hD_is_safe_0 : Kn P w mg base T "is_safe" 5 F_is_safe_m0) (h_is_within : Kn P w mg base T "is_within" 1 F_is_within) {f : Addr} {cdv : Value} {A : Around} {outer : List Env} {s : Shared} {H : Hp} {E : XK} {g : Gh}  (hr : RoomG 5 (A.deeper (envOfC "trial_keys" (defScope s_trial_keys) s.heap.objs.size f cdv))) :
    PMb (cAt P w mg base T ["formula", "scan", "low", "high", "safe", "step", "numbers", "bound", "number"] "trial_keys" (defScope s_trial_keys) f cdv A outer s H E g) (defBody s_trial_keys) m_trial_keys :=
  have nd := sc_trial_keys.nd
  have hu := hr.toRoom.units
  have hu2 := room65 hr
  have hgd := hr.gs
  (bm_cons (sm_set 4 nd rfl (Or.inl rfl) em_int) (bm_cons (sm_for (passes_of rfl) rfl (im_K B.kt_STEPS) (gm_name 5 nd rfl (Or.inl rfl)) (bm_one (sm_if (tm_val (em_kn hD_is_safe_0 (hr.less (by decide)) cAt_takes (am_cons (em_v 0) (am_cons (em_v 1) (am_cons (em_v 2) (am_cons (em_v 3) (am_cons (em_bin ok_mul (em_v 4) (em_v 5)) am_nil))))))) (bm_one (sm_set 4 nd rfl (Or.inl rfl) (em_bin ok_mul (em_v 4) (em_v 5)))) bm_nil))) (bm_cons (sm_set 6 nd rfl (Or.inl rfl) (em_bin ok_add (em_lst (am_cons em_int (am_cons em_int (am_cons (em_neg em_int) (am_cons (em_bin ok_mul em_int (em_v 4)) (am_cons (em_bin ok_mul (em_neg em_int) (em_v 4)) am_nil)))))) (em_lc (own := [("bound", 7)]) rfl nd (im_seq (em_tup (am_cons (em_v 2) (am_cons (em_v 3) am_nil)))) (blkOk_by rfl) (fun _ _ _ _ _ _ => (gc_name 7 nd rfl (Or.inl rfl) (by decide))) (fun _ _ _ _ _ _ => (tsm_one (tm_cmp ok_isntN (em_v 7) em_non (nomark _)))) (fun _ _ _ _ _ _ => (em_v 7))))) (bm_one (sm_ret (em_sortAb hu2 B.b_sorted B.b_abs (em_lc (own := [("number", 8)]) rfl nd (im_seq (em_v 6)) (blkOk_by rfl) (fun _ _ _ _ _ _ => (gc_name 8 nd rfl (Or.inl rfl) (by decide))) (fun _ _ _ _ _ _ => (tsm_one (tm_val (em_kn h_is_within (hr.less (by decide)) takes0 (am_cons (em_v 8) (am_cons (em_v 2) (am_cons (em_v 3) am_nil))))))) (fun _ _ _ _ _ _ => (em_v 8)))))))))
theorem k_trial_keys {P : Program} {w : World} {mg : Str → Option Value} {base : Heap} {T : Tab} (B : Bt P w mg T) (hD_is_safe_0 : Kn P w mg base T "is_safe" 5 F_is_safe_m0) (h_is_within : Kn P w mg base T "is_within" 1 F_is_within) {f : Addr} {fd : FuncData} (F : Fun T.K "trial_keys" "trial_keys" s_trial_keys f fd) (hm : mg "trial_keys" = some (.ref f)) : Kn P w mg base T "trial_keys" 6 F_trial_keys :=
  ⟨f, FnP.of (dms := []) (fnG_of F sc_trial_keys fun cdv A outer s H E g hr => d_trial_keys B hD_is_safe_0 h_is_within hr) (F.binds (fun _ _ _ _ _ _ us hl => match us, hl with | [_, _, _, _], _ => rfl)) .nil (fun _ _ => .nil), hm, F.kp⟩
theorem sc_clash : FnScope ["formula", "scan", "low", "high", "key"] ["formula", "scan", "low", "high"] (defScope s_clash) := ⟨rfl, rfl, rfl, by decide +kernel, rfl, by decide +kernel, by decide +kernel⟩
def m_clash : MStm := (sSeq (sExpr (mFn (mCons (mv 0) mNil) F_check_formula)) (sSeq (sExpr (mFn (mCons (mv 1) mNil) F_check_scan)) (sSeq (sExpr (mFn (mCons (mv 2) (mCons (mv 3) mNil)) F_check_bounds)) (sSeq (sIf (mNot (mB (mFn (mCons (mv 0) (mCons (mv 1) (mCons (mv 2) (mCons (mv 3) mNil)))) F_is_safe_m1))) (sForI (iSeq (mFn (mCons (mv 0) (mCons (mv 1) (mCons (mv 2) (mCons (mv 3) mNil)))) F_trial_keys)) (gSet 4) (sIf (mB (mFn (mCons (mv 4) (mCons (mv 0) (mCons (mv 1) (mCons (mv 2) (mCons (mv 3) mNil))))) F_meets_conflict)) (sRet (mCall (mCons (mCall (mCons (mTup (mCons (mv 4) (mCons (mFn (mCons (mv 0) (mCons (mv 4) mNil)) F_new_key) mNil))) mNil) (cSortT cSortD)) mNil) cTup)) sNx)) sNx) (sRet (mc .non))))))
def F_clash_k1_scan_low_high : Fn := kwF [(true, 0), (true, 1), (true, 2), (true, 3)] [] (bodyF 4 5 m_clash)
def F_clash_k1_low_high : Fn := kwF [(true, 0), (false, 0), (true, 1), (true, 2)] [.str "up"] (bodyF 4 5 m_clash)
theorem d_clash {P : Program} {w : World} {mg : Str → Option Value} {base : Heap} {T : Tab} (B : Bt P w mg T) (h_check_formula : Kn P w mg base T "check_formula" 1 F_check_formula) (h_check_scan : Kn P w mg base T "check_scan" 1 F_check_scan) (h_check_bounds : Kn P w mg base T "check_bounds" 3 F_check_bounds) (hD_is_safe_1 : Kn P w mg base T "is_safe" 5 F_is_safe_m1) (h_trial_keys : Kn P w mg base T "trial_keys" 6 F_trial_keys) (h_meets_conflict : Kn P w mg base T "meets_conflict" 4 F_meets_conflict) (h_new_key : Kn P w mg base T "new_key" 3 F_new_key) {f : Addr} {cdv : Value} {A : Around} {outer : List Env} {s : Shared} {H : Hp} {E : XK} {g : Gh}  (hr : RoomG 6 (A.deeper (envOfC "clash" (defScope s_clash) s.heap.objs.size f cdv))) :
    PMb (cAt P w mg base T ["formula", "scan", "low", "high", "key"] "clash" (defScope s_clash) f cdv A outer s H E g) (defBody s_clash) m_clash :=
  have nd := sc_clash.nd
  have hu := hr.toRoom.units
  have hu2 := room65 hr
  have hgd := hr.gs
  (bm_cons (sm_expr (em_kn h_check_formula (hr.less (by decide)) cAt_takes (am_cons (em_v 0) am_nil))) (bm_cons (sm_expr (em_kn h_check_scan (hr.less (by decide)) cAt_takes (am_cons (em_v 1) am_nil))) (bm_cons (sm_expr (em_kn h_check_bounds (hr.less (by decide)) cAt_takes (am_cons (em_v 2) (am_cons (em_v 3) am_nil)))) (bm_cons (sm_if (tm_not (tm_val (em_kn hD_is_safe_1 (hr.less (by decide)) cAt_takes (am_cons (em_v 0) (am_cons (em_v 1) (am_cons (em_v 2) (am_cons (em_v 3) am_nil))))))) (bm_one (sm_for (passes_of rfl) rfl (im_seq (em_kn h_trial_keys (hr.less (by decide)) cAt_takes (am_cons (em_v 0) (am_cons (em_v 1) (am_cons (em_v 2) (am_cons (em_v 3) am_nil)))))) (gm_name 4 nd rfl (Or.inl rfl)) (bm_one (sm_if (tm_val (em_kn h_meets_conflict (hr.less (by decide)) cAt_takes (am_cons (em_v 4) (am_cons (em_v 0) (am_cons (em_v 1) (am_cons (em_v 2) (am_cons (em_v 3) am_nil))))))) (bm_one (sm_ret (em_callT call_tuple_of ok_tuple B.b_tuple (am_cons (em_callB (CallR.alt (cr_sortTD hu) (CallR.alt (cr_sortD hu) (call_sortedDI rfl))) (ok_sortT ok_sortD) B.b_sorted (am_cons (em_tup (am_cons (em_v 4) (am_cons (em_kn h_new_key (hr.less (by decide)) cAt_takes (am_cons (em_v 0) (am_cons (em_v 4) am_nil))) am_nil))) am_nil)) am_nil)))) bm_nil)))) bm_nil) (bm_one (sm_ret em_non))))))
theorem kF_clash_k1_scan_low_high {P : Program} {w : World} {mg : Str → Option Value} {base : Heap} {T : Tab} (B : Bt P w mg T) (h_check_formula : Kn P w mg base T "check_formula" 1 F_check_formula) (h_check_scan : Kn P w mg base T "check_scan" 1 F_check_scan) (h_check_bounds : Kn P w mg base T "check_bounds" 3 F_check_bounds) (hD_is_safe_1 : Kn P w mg base T "is_safe" 5 F_is_safe_m1) (h_trial_keys : Kn P w mg base T "trial_keys" 6 F_trial_keys) (h_meets_conflict : Kn P w mg base T "meets_conflict" 4 F_meets_conflict) (h_new_key : Kn P w mg base T "new_key" 3 F_new_key) {f : Addr} {fd : FuncData} (F : L2.FunD T.K "clash" "clash" (defArgs s_clash) (defBody s_clash) (defScope s_clash) [] [("scan", V.str "up"), ("low", V.non), ("high", V.non)] f fd) (hm : mg "clash" = some (.ref f)) : KnKw P w mg base T "clash" 7 1 ["scan", "low", "high"] F_clash_k1_scan_low_high :=
  ⟨f, fnW_k (ms := []) (dms := []) (sp := [(true, 0), (true, 1), (true, 2), (true, 3)]) (ks := ["scan", "low", "high"]) F sc_clash 1 (by simp) (by simp) (fun _ _ => .nil) (fun vs zs h1 h2 => match vs, h1, zs, h2 with | [_], _, [_, _, _], _ => rfl) (fun D doc pm an cdv ct us mv ws hl hm hw => match us, hl, mv, hm, ws, hw with | [_], _, [], _, [_, _, _], _ => rfl) fun cdv A outer s H E g hr => d_clash B h_check_formula h_check_scan h_check_bounds hD_is_safe_1 h_trial_keys h_meets_conflict h_new_key hr, hm, F.kp⟩
theorem kF_clash_k1_low_high {P : Program} {w : World} {mg : Str → Option Value} {base : Heap} {T : Tab} (B : Bt P w mg T) (h_check_formula : Kn P w mg base T "check_formula" 1 F_check_formula) (h_check_scan : Kn P w mg base T "check_scan" 1 F_check_scan) (h_check_bounds : Kn P w mg base T "check_bounds" 3 F_check_bounds) (hD_is_safe_1 : Kn P w mg base T "is_safe" 5 F_is_safe_m1) (h_trial_keys : Kn P w mg base T "trial_keys" 6 F_trial_keys) (h_meets_conflict : Kn P w mg base T "meets_conflict" 4 F_meets_conflict) (h_new_key : Kn P w mg base T "new_key" 3 F_new_key) {f : Addr} {fd : FuncData} (F : L2.FunD T.K "clash" "clash" (defArgs s_clash) (defBody s_clash) (defScope s_clash) [] [("scan", V.str "up"), ("low", V.non), ("high", V.non)] f fd) (hm : mg "clash" = some (.ref f)) : KnKw P w mg base T "clash" 7 1 ["low", "high"] F_clash_k1_low_high :=
  ⟨f, fnW_k (ms := [("scan", V.str "up")]) (dms := [.str "up"]) (sp := [(true, 0), (false, 0), (true, 1), (true, 2)]) (ks := ["low", "high"]) F sc_clash 1 (by simp) (by simp) (fun _ _ => .cons (.str _) .nil) (fun vs zs h1 h2 => match vs, h1, zs, h2 with | [_], _, [_, _], _ => rfl) (fun D doc pm an cdv ct us mv ws hl hm hw => match us, hl, mv, hm, ws, hw with | [_], _, [_], _, [_, _], _ => ⟨_, _, _, _, _, _, rfl, rfl, rfl⟩) fun cdv A outer s H E g hr => d_clash B h_check_formula h_check_scan h_check_bounds hD_is_safe_1 h_trial_keys h_meets_conflict h_new_key hr, hm, F.kp⟩
theorem sc__law_safe : FnScope ["_law_pair", "_law_way", "_law_least", "_law_most", "_law_is_closed_in", "_law_times", "_law_plus"] ["_law_pair", "_law_way", "_law_least", "_law_most"] (defScope s__law_safe) := ⟨rfl, rfl, rfl, by decide +kernel, rfl, by decide +kernel, by decide +kernel⟩
def m__law_safe : MStm := (sSeq (sAsg (mv 0) (gUnpN [5, 6])) (sSeq (sSet 4 (mAndV (m2 (oIsN true) (mv 2) (mc .non)) (m2 (oIsN true) (mv 3) (mc .non)))) (sSeq (sIf (mOr (mAnd (mB (mv 4)) (mB (m2 oGt (mv 2) (mv 3)))) (mAnd (mB (m2 (oEqK false (oEqD false)) (mv 5) (mc (.int 1)))) (mB (m2 (oEqK false (oEqD false)) (mv 6) (mc (.int 0)))))) (sRet (mc (.bl true))) sNx) (sSeq (sIf (mAnd (mB (mv 4)) (mB (m2 (oEqK false (oEqD false)) (mv 2) (mv 3)))) (sRet (m2 (oEqK false (oEqD false)) (m2 oAdd (m2 oMul (mv 5) (mv 2)) (mv 6)) (mv 2))) sNx) (sSeq (sIf (mB (m2 (oEqK false (oEqD false)) (mv 5) (mc (.int 1)))) (sRet (mIf (mB (m2 oGt (mv 6) (mc (.int 0)))) (mAndV (m2 (oIsN false) (mv 3) (mc .non)) (m2 (oEqK false (oEqD false)) (mv 1) (mc (.str "down")))) (mAndV (m2 (oIsN false) (mv 2) (mc .non)) (m2 (oEqK true (oEqD true)) (mv 1) (mc (.str "down")))))) sNx) (sSeq (sIf (mOr (mB (m2 oLt (mCall (mCons (mv 5) mNil) cAbs) (mc (.int 2)))) (mB (mv 4))) (sRet (mc (.bl false))) sNx) (sSeq (sIf (mAnd (mB (m2 (oIsN false) (mv 2) (mc .non))) (mB (m2 (oIsN false) (mv 3) (mc .non)))) (sRet (m2 (oEqK false (oEqD false)) (mv 1) (mc (.str "far")))) sNx) (sSeq (sIf (mB (m2 oLt (mv 5) (mc (.int 0)))) (sRet (mc (.bl false))) sNx) (sSeq (sIf (mB (m2 (oIsN false) (mv 3) (mc .non))) (sRet (mAndV (m2 oGe (m2 oAdd (m2 oMul (mv 5) (mv 2)) (mv 6)) (mv 2)) (m2 (oInTs false) (mv 1) (mTup (mCons (mc (.str "down")) (mCons (mc (.str "far")) mNil)))))) sNx) (sRet (mAndV (m2 oLe (m2 oAdd (m2 oMul (mv 5) (mv 3)) (mv 6)) (mv 3)) (m2 (oInTs false) (mv 1) (mTup (mCons (mc (.str "up")) (mCons (mc (.str "far")) mNil)))))))))))))))
def F__law_safe : Fn := posF 4 [] (bodyF 4 7 m__law_safe)
theorem d__law_safe {P : Program} {w : World} {mg : Str → Option Value} {base : Heap} {T : Tab} (B : Bt P w mg T)  {f : Addr} {cdv : Value} {A : Around} {outer : List Env} {s : Shared} {H : Hp} {E : XK} {g : Gh}  (hr : RoomG 0 (A.deeper (envOfC "_law_safe" (defScope s__law_safe) s.heap.objs.size f cdv))) :
    PMb (cAt P w mg base T ["_law_pair", "_law_way", "_law_least", "_law_most", "_law_is_closed_in", "_law_times", "_law_plus"] "_law_safe" (defScope s__law_safe) f cdv A outer s H E g) (defBody s__law_safe) m__law_safe :=
  have nd := sc__law_safe.nd
  have hu := hr.toRoom.units
  have hu2 := room65 hr
  have hgd := hr.gs
  (bm_cons (sm_asg (em_v 0) (gm_unpN (is := [5, 6]) rfl (pgs_cons (pg_name (i := 5) nd rfl (Or.inl rfl)) (pgs_cons (pg_name (i := 6) nd rfl (Or.inl rfl)) pgs_nil)))) (bm_cons (sm_set 4 nd rfl (Or.inl rfl) (em_and (em_cmp ok_isntN (em_v 2) em_non (nomark _)) (em_one (em_cmp ok_isntN (em_v 3) em_non (nomark _))))) (bm_cons (sm_if (tm_w (wm_or (tm_w (wm_and (tm_val (em_v 4)) (wm_and1 (tm_cmp ok_gt (em_v 2) (em_v 3) (nomark _))))) (wm_or1 (tm_w (wm_and (tm_cmp (op_eqK (room0 hu) (ok_eqD hu)) (em_v 5) em_int (nomark _)) (wm_and1 (tm_cmp (op_eqK (room0 hu) (ok_eqD hu)) (em_v 6) em_int (nomark _)))))))) (bm_one (sm_ret em_bl)) bm_nil) (bm_cons (sm_if (tm_w (wm_and (tm_val (em_v 4)) (wm_and1 (tm_cmp (op_eqK (room0 hu) (ok_eqD hu)) (em_v 2) (em_v 3) (nomark _))))) (bm_one (sm_ret (em_cmp (op_eqK (room0 hu) (ok_eqD hu)) (em_bin ok_add (em_bin ok_mul (em_v 5) (em_v 2)) (em_v 6)) (em_v 2) (nomark _)))) bm_nil) (bm_cons (sm_if (tm_cmp (op_eqK (room0 hu) (ok_eqD hu)) (em_v 5) em_int (nomark _)) (bm_one (sm_ret (em_if (tm_cmp ok_gt (em_v 6) em_int (nomark _)) (em_and (em_cmp ok_isN (em_v 3) em_non (nomark _)) (em_one (em_cmp (op_eqK (room0 hu) (ok_eqD hu)) (em_v 1) em_str (nomark _)))) (em_and (em_cmp ok_isN (em_v 2) em_non (nomark _)) (em_one (em_cmp (op_neK (room0 hu) (ok_neD hu)) (em_v 1) em_str (nomark _))))))) bm_nil) (bm_cons (sm_if (tm_w (wm_or (tm_cmp ok_lt (em_callB call_abs ok_abs B.b_abs (am_cons (em_v 5) am_nil)) em_int (nomark _)) (wm_or1 (tm_val (em_v 4))))) (bm_one (sm_ret em_bl)) bm_nil) (bm_cons (sm_if (tm_w (wm_and (tm_cmp ok_isN (em_v 2) em_non (nomark _)) (wm_and1 (tm_cmp ok_isN (em_v 3) em_non (nomark _))))) (bm_one (sm_ret (em_cmp (op_eqK (room0 hu) (ok_eqD hu)) (em_v 1) em_str (nomark _)))) bm_nil) (bm_cons (sm_if (tm_cmp ok_lt (em_v 5) em_int (nomark _)) (bm_one (sm_ret em_bl)) bm_nil) (bm_cons (sm_if (tm_cmp ok_isN (em_v 3) em_non (nomark _)) (bm_one (sm_ret (em_and (em_cmp ok_ge (em_bin ok_add (em_bin ok_mul (em_v 5) (em_v 2)) (em_v 6)) (em_v 2) (nomark _)) (em_one (em_cmp (ok_inTs hu2) (em_v 1) (em_tup (am_cons em_str (am_cons em_str am_nil))) (by with_unfolding_all rfl)))))) bm_nil) (bm_one (sm_ret (em_and (em_cmp ok_le (em_bin ok_add (em_bin ok_mul (em_v 5) (em_v 3)) (em_v 6)) (em_v 3) (nomark _)) (em_one (em_cmp (ok_inTs hu2) (em_v 1) (em_tup (am_cons em_str (am_cons em_str am_nil))) (by with_unfolding_all rfl)))))))))))))))
theorem k__law_safe {P : Program} {w : World} {mg : Str → Option Value} {base : Heap} {T : Tab} (B : Bt P w mg T)  {f : Addr} {fd : FuncData} (F : Fun T.K "_law_safe" "_law_safe" s__law_safe f fd) (hm : mg "_law_safe" = some (.ref f)) : Kn P w mg base T "_law_safe" 1 F__law_safe :=
  ⟨f, FnP.of (dms := []) (fnG_of F sc__law_safe fun cdv A outer s H E g hr => d__law_safe B  hr) (F.binds (fun _ _ _ _ _ _ us hl => match us, hl with | [_, _, _, _], _ => rfl)) .nil (fun _ _ => .nil), hm, F.kp⟩
theorem sc__law_inside : FnScope ["_law_key", "_law_least", "_law_most"] ["_law_key", "_law_least", "_law_most"] (defScope s__law_inside) := ⟨rfl, rfl, rfl, by decide +kernel, rfl, by decide +kernel, by decide +kernel⟩
def m__law_inside : MStm := (sRet (mAndV (mOrV (m2 (oIsN false) (mv 1) (mc .non)) (m2 oGe (mv 0) (mv 1))) (mOrV (m2 (oIsN false) (mv 2) (mc .non)) (m2 oLe (mv 0) (mv 2)))))
def F__law_inside : Fn := posF 3 [] (bodyF 3 3 m__law_inside)
theorem d__law_inside {P : Program} {w : World} {mg : Str → Option Value} {base : Heap} {T : Tab} (B : Bt P w mg T)  {f : Addr} {cdv : Value} {A : Around} {outer : List Env} {s : Shared} {H : Hp} {E : XK} {g : Gh}  (hr : RoomG 0 (A.deeper (envOfC "_law_inside" (defScope s__law_inside) s.heap.objs.size f cdv))) :
    PMb (cAt P w mg base T ["_law_key", "_law_least", "_law_most"] "_law_inside" (defScope s__law_inside) f cdv A outer s H E g) (defBody s__law_inside) m__law_inside :=
  have nd := sc__law_inside.nd
  have hu := hr.toRoom.units
  have hu2 := room65 hr
  have hgd := hr.gs
  (bm_one (sm_ret (em_and (em_or (em_cmp ok_isN (em_v 1) em_non (nomark _)) (em_one (em_cmp ok_ge (em_v 0) (em_v 1) (nomark _)))) (em_one (em_or (em_cmp ok_isN (em_v 2) em_non (nomark _)) (em_one (em_cmp ok_le (em_v 0) (em_v 2) (nomark _))))))))
theorem k__law_inside {P : Program} {w : World} {mg : Str → Option Value} {base : Heap} {T : Tab} (B : Bt P w mg T)  {f : Addr} {fd : FuncData} (F : Fun T.K "_law_inside" "_law_inside" s__law_inside f fd) (hm : mg "_law_inside" = some (.ref f)) : Kn P w mg base T "_law_inside" 1 F__law_inside :=
  ⟨f, FnP.of (dms := []) (fnG_of F sc__law_inside fun cdv A outer s H E g hr => d__law_inside B  hr) (F.binds (fun _ _ _ _ _ _ us hl => match us, hl with | [_, _, _], _ => rfl)) .nil (fun _ _ => .nil), hm, F.kp⟩
theorem sc__law_ordered : FnScope ["_law_keys", "_law_pair", "_law_way", "_law_moves", "_law_ranks", "_law_key", "_law_move"] ["_law_keys", "_law_pair", "_law_way"] (defScope s__law_ordered) := ⟨rfl, rfl, rfl, by decide +kernel, rfl, by decide +kernel, by decide +kernel⟩
def m__law_ordered : MStm := (sSeq (sSet 3 (mCall (mCons (mLc [5] (iSeq (mv 0)) (gSet 5) mYes (mTup (mCons (mv 5) (mCons (mCall (mCons (m2 oSub (m2 oAdd (m2 oMul (m2 (oIxD oIx) (mv 1) (mc (.int 0))) (mv 5)) (m2 (oIxD oIx) (mv 1) (mc (.int 1)))) (mv 5)) mNil) cAbs) mNil)))) mNil) cDict)) (sSeq (sIf (mOr (mB (m2 (oEqK false (oEqD false)) (mv 2) (mc (.str "up")))) (mB (m2 (oEqK false (oEqD false)) (mv 2) (mc (.str "down"))))) (sRet (mIf (mB (m2 (oEqK false (oEqD false)) (mv 2) (mc (.str "up")))) (mCall (mCons (mv 0) mNil) cSortD) (mRevL (mCall (mCons (mv 0) mNil) cSortD)))) sNx) (sSeq (sSet 4 (mCall (mCons (mLc [5] (iSeq (mv 0)) (gSet 5) mYes (mTup (mCons (m2 (oIxD oIx) (mv 3) (mv 5)) (mCons (mv 5) mNil)))) mNil) cSortD)) (sSeq (sIf (mB (m2 (oEqK false (oEqD false)) (mv 2) (mc (.str "near")))) (sRet (mLc [6, 5] (iSeq (mv 4)) (gTupN [6, 5]) mYes (mv 5))) sNx) (sRet (mLc [6, 5] (iSeq (mCall (mCons (mLc [6, 5] (iSeq (mv 4)) (gTupN [6, 5]) mYes (mTup (mCons (m2 oSub (mc (.int 0)) (mv 6)) (mCons (mv 5) mNil)))) mNil) cSortD)) (gTupN [6, 5]) mYes (mv 5)))))))
def F__law_ordered : Fn := posF 3 [] (bodyF 3 7 m__law_ordered)
theorem d__law_ordered {P : Program} {w : World} {mg : Str → Option Value} {base : Heap} {T : Tab} (B : Bt P w mg T)  {f : Addr} {cdv : Value} {A : Around} {outer : List Env} {s : Shared} {H : Hp} {E : XK} {g : Gh}  (hr : RoomG 0 (A.deeper (envOfC "_law_ordered" (defScope s__law_ordered) s.heap.objs.size f cdv))) :
    PMb (cAt P w mg base T ["_law_keys", "_law_pair", "_law_way", "_law_moves", "_law_ranks", "_law_key", "_law_move"] "_law_ordered" (defScope s__law_ordered) f cdv A outer s H E g) (defBody s__law_ordered) m__law_ordered :=
  have nd := sc__law_ordered.nd
  have hu := hr.toRoom.units
  have hu2 := room65 hr
  have hgd := hr.gs
  (bm_cons (sm_set 3 nd rfl (Or.inr rfl) (em_callT (call_dictP rfl) ok_dict B.b_dict (am_cons (em_lc (own := [("_law_key", 5)]) rfl nd (im_seq (em_v 0)) (blkOk_by rfl) (fun _ _ _ _ _ _ => (gc_name 5 nd rfl (Or.inl rfl) (by decide))) (fun _ _ _ _ _ _ => tsm_nil) (fun _ _ _ _ _ _ => (em_tup (am_cons (em_v 5) (am_cons (em_callB call_abs ok_abs B.b_abs (am_cons (em_bin ok_sub (em_bin ok_add (em_bin ok_mul (em_ixG (ixG_dict (room1 hu) ixG_seq) (em_v 1) em_int ⟨fun _ _ => rfl, fun _ _ => rfl⟩) (em_v 5)) (em_ixG (ixG_dict (room1 hu) ixG_seq) (em_v 1) em_int ⟨fun _ _ => rfl, fun _ _ => rfl⟩)) (em_v 5)) am_nil)) am_nil))))) am_nil))) (bm_cons (sm_if (tm_w (wm_or (tm_cmp (op_eqK (room0 hu) (ok_eqD hu)) (em_v 2) em_str (nomark _)) (wm_or1 (tm_cmp (op_eqK (room0 hu) (ok_eqD hu)) (em_v 2) em_str (nomark _))))) (bm_one (sm_ret (em_if (tm_cmp (op_eqK (room0 hu) (ok_eqD hu)) (em_v 2) em_str (nomark _)) (em_callB (CallR.alt (cr_sortD hu) (call_sortedDI rfl)) ok_sortD B.b_sorted (am_cons (em_v 0) am_nil)) (em_revL (em_callB (CallR.alt (cr_sortD hu) (call_sortedDI rfl)) ok_sortD B.b_sorted (am_cons (em_v 0) am_nil)))))) bm_nil) (bm_cons (sm_set 4 nd rfl (Or.inl rfl) (em_callB (CallR.alt (cr_sortD hu) (call_sortedDI rfl)) ok_sortD B.b_sorted (am_cons (em_lc (own := [("_law_key", 5)]) rfl nd (im_seq (em_v 0)) (blkOk_by rfl) (fun _ _ _ _ _ _ => (gc_name 5 nd rfl (Or.inl rfl) (by decide))) (fun _ _ _ _ _ _ => tsm_nil) (fun _ _ _ _ _ _ => (em_tup (am_cons (em_ixG (ixG_dict (room1 hu) ixG_seq) (em_v 3) (em_v 5) ⟨fun _ _ => rfl, fun _ _ => rfl⟩) (am_cons (em_v 5) am_nil))))) am_nil))) (bm_cons (sm_if (tm_cmp (op_eqK (room0 hu) (ok_eqD hu)) (em_v 2) em_str (nomark _)) (bm_one (sm_ret (em_lc (own := [("_law_move", 6), ("_law_key", 5)]) rfl nd (im_seq (em_v 4)) (blkOk_by rfl) (fun _ _ _ _ _ _ => (gc_tup (is := [6, 5]) rfl (pgs_cons (pg_name (i := 6) nd rfl (Or.inl rfl)) (pgs_cons (pg_name (i := 5) nd rfl (Or.inl rfl)) pgs_nil)) (by decide))) (fun _ _ _ _ _ _ => tsm_nil) (fun _ _ _ _ _ _ => (em_v 5))))) bm_nil) (bm_one (sm_ret (em_lc (own := [("_law_move", 6), ("_law_key", 5)]) rfl nd (im_seq (em_callB (CallR.alt (cr_sortD hu) (call_sortedDI rfl)) ok_sortD B.b_sorted (am_cons (em_lc (own := [("_law_move", 6), ("_law_key", 5)]) rfl nd (im_seq (em_v 4)) (blkOk_by rfl) (fun _ _ _ _ _ _ => (gc_tup (is := [6, 5]) rfl (pgs_cons (pg_name (i := 6) nd rfl (Or.inl rfl)) (pgs_cons (pg_name (i := 5) nd rfl (Or.inl rfl)) pgs_nil)) (by decide))) (fun _ _ _ _ _ _ => tsm_nil) (fun _ _ _ _ _ _ => (em_tup (am_cons (em_bin ok_sub em_int (em_v 6)) (am_cons (em_v 5) am_nil))))) am_nil))) (blkOk_by rfl) (fun _ _ _ _ _ _ => (gc_tup (is := [6, 5]) rfl (pgs_cons (pg_name (i := 6) nd rfl (Or.inl rfl)) (pgs_cons (pg_name (i := 5) nd rfl (Or.inl rfl)) pgs_nil)) (by decide))) (fun _ _ _ _ _ _ => tsm_nil) (fun _ _ _ _ _ _ => (em_v 5)))))))))
theorem k__law_ordered {P : Program} {w : World} {mg : Str → Option Value} {base : Heap} {T : Tab} (B : Bt P w mg T)  {f : Addr} {fd : FuncData} (F : Fun T.K "_law_ordered" "_law_ordered" s__law_ordered f fd) (hm : mg "_law_ordered" = some (.ref f)) : Kn P w mg base T "_law_ordered" 1 F__law_ordered :=
  ⟨f, FnP.of (dms := []) (fnG_of F sc__law_ordered fun cdv A outer s H E g hr => d__law_ordered B  hr) (F.binds (fun _ _ _ _ _ _ us hl => match us, hl with | [_, _, _], _ => rfl)) .nil (fun _ _ => .nil), hm, F.kp⟩
theorem sc__law_planned : FnScope ["_law_keys", "_law_pair", "_law_way", "_law_least", "_law_most", "_law_inside_here", "_law_outside", "_law_rows", "_law_key"] ["_law_keys", "_law_pair", "_law_way", "_law_least", "_law_most"] (defScope s__law_planned) := ⟨rfl, rfl, rfl, by decide +kernel, rfl, by decide +kernel, by decide +kernel⟩
def m__law_planned : MStm := (sSeq (sSet 5 (mLc [8] (iSeq (mv 0)) (gSet 8) (mB (mFn (mCons (mv 8) (mCons (mv 3) (mCons (mv 4) mNil))) F__law_inside)) (mv 8))) (sSeq (sSet 6 (mCall (mCons (mLc [8] (iSeq (mv 0)) (gSet 8) (mNot (mB (mFn (mCons (mv 8) (mCons (mv 3) (mCons (mv 4) mNil))) F__law_inside))) (mv 8)) mNil) (cSortT cSortD))) (sSeq (sSet 7 (m2 oAdd (mLc [8] (iSeq (mv 5)) (gSet 8) mYes (mTup (mCons (mv 8) (mCons (m2 oAdd (m2 oMul (m2 (oIxD oIx) (mv 1) (mc (.int 0))) (mv 8)) (m2 (oIxD oIx) (mv 1) (mc (.int 1)))) mNil)))) (mLc [8] (iSeq (mv 6)) (gSet 8) mYes (mTup (mCons (mv 8) (mCons (mv 8) mNil)))))) (sRet (mTup (mCons (mv 7) (mCons (mCall (mCons (m2 oAdd (mFn (mCons (mv 5) (mCons (mv 1) (mCons (mv 2) mNil))) F__law_ordered) (mv 6)) mNil) cTup) mNil)))))))
def F__law_planned : Fn := posF 5 [] (bodyF 5 9 m__law_planned)
theorem d__law_planned {P : Program} {w : World} {mg : Str → Option Value} {base : Heap} {T : Tab} (B : Bt P w mg T) (h__law_inside : Kn P w mg base T "_law_inside" 1 F__law_inside) (h__law_ordered : Kn P w mg base T "_law_ordered" 1 F__law_ordered) {f : Addr} {cdv : Value} {A : Around} {outer : List Env} {s : Shared} {H : Hp} {E : XK} {g : Gh}  (hr : RoomG 1 (A.deeper (envOfC "_law_planned" (defScope s__law_planned) s.heap.objs.size f cdv))) :
    PMb (cAt P w mg base T ["_law_keys", "_law_pair", "_law_way", "_law_least", "_law_most", "_law_inside_here", "_law_outside", "_law_rows", "_law_key"] "_law_planned" (defScope s__law_planned) f cdv A outer s H E g) (defBody s__law_planned) m__law_planned :=
  have nd := sc__law_planned.nd
  have hu := hr.toRoom.units
  have hu2 := room65 hr
  have hgd := hr.gs
  (bm_cons (sm_setLc (own := [("_law_key", 8)]) 5 rfl nd (im_seq (em_v 0)) (blkOk_by rfl) (fun _ _ _ _ _ _ => (gc_name 8 nd rfl (Or.inl rfl) (by decide))) (fun _ _ _ _ _ _ => (tsm_one (tm_val (em_kn h__law_inside (hr.less (by decide)) takes0 (am_cons (em_v 8) (am_cons (em_v 3) (am_cons (em_v 4) am_nil))))))) (fun _ _ _ _ _ _ => (em_v 8))) (bm_cons (sm_set 6 nd rfl (Or.inl rfl) (em_callB (CallR.alt (cr_sortTD hu) (CallR.alt (cr_sortD hu) (call_sortedDI rfl))) (ok_sortT ok_sortD) B.b_sorted (am_cons (em_lc (own := [("_law_key", 8)]) rfl nd (im_seq (em_v 0)) (blkOk_by rfl) (fun _ _ _ _ _ _ => (gc_name 8 nd rfl (Or.inl rfl) (by decide))) (fun _ _ _ _ _ _ => (tsm_one (tm_not (tm_val (em_kn h__law_inside (hr.less (by decide)) takes0 (am_cons (em_v 8) (am_cons (em_v 3) (am_cons (em_v 4) am_nil)))))))) (fun _ _ _ _ _ _ => (em_v 8))) am_nil))) (bm_cons (sm_set 7 nd rfl (Or.inl rfl) (em_bin ok_add (em_lc (own := [("_law_key", 8)]) rfl nd (im_seq (em_v 5)) (blkOk_by rfl) (fun _ _ _ _ _ _ => (gc_name 8 nd rfl (Or.inl rfl) (by decide))) (fun _ _ _ _ _ _ => tsm_nil) (fun _ _ _ _ _ _ => (em_tup (am_cons (em_v 8) (am_cons (em_bin ok_add (em_bin ok_mul (em_ixG (ixG_dict (room1 hu) ixG_seq) (em_v 1) em_int ⟨fun _ _ => rfl, fun _ _ => rfl⟩) (em_v 8)) (em_ixG (ixG_dict (room1 hu) ixG_seq) (em_v 1) em_int ⟨fun _ _ => rfl, fun _ _ => rfl⟩)) am_nil))))) (em_lc (own := [("_law_key", 8)]) rfl nd (im_seq (em_v 6)) (blkOk_by rfl) (fun _ _ _ _ _ _ => (gc_name 8 nd rfl (Or.inl rfl) (by decide))) (fun _ _ _ _ _ _ => tsm_nil) (fun _ _ _ _ _ _ => (em_tup (am_cons (em_v 8) (am_cons (em_v 8) am_nil))))))) (bm_one (sm_ret (em_tup (am_cons (em_v 7) (am_cons (em_callT call_tuple_of ok_tuple B.b_tuple (am_cons (em_bin ok_add (em_kn h__law_ordered (hr.less (by decide)) cAt_takes (am_cons (em_v 5) (am_cons (em_v 1) (am_cons (em_v 2) am_nil)))) (em_v 6)) am_nil)) am_nil))))))))
theorem k__law_planned {P : Program} {w : World} {mg : Str → Option Value} {base : Heap} {T : Tab} (B : Bt P w mg T) (h__law_inside : Kn P w mg base T "_law_inside" 1 F__law_inside) (h__law_ordered : Kn P w mg base T "_law_ordered" 1 F__law_ordered) {f : Addr} {fd : FuncData} (F : Fun T.K "_law_planned" "_law_planned" s__law_planned f fd) (hm : mg "_law_planned" = some (.ref f)) : Kn P w mg base T "_law_planned" 2 F__law_planned :=
  ⟨f, FnP.of (dms := []) (fnG_of F sc__law_planned fun cdv A outer s H E g hr => d__law_planned B h__law_inside h__law_ordered hr) (F.binds (fun _ _ _ _ _ _ us hl => match us, hl with | [_, _, _, _, _], _ => rfl)) .nil (fun _ _ => .nil), hm, F.kp⟩
theorem sc__law_ends : FnScope ["_law_places", "_law_row"] ["_law_places"] (defScope s__law_ends) := ⟨rfl, rfl, rfl, by decide +kernel, rfl, by decide +kernel, by decide +kernel⟩
def m__law_ends : MStm := (sLock 0 (sRet (mCall (mCons (mCall (mCons (mLc [1] (iKey (mv 0)) (gSet 1) (mB (m2 (oIsN true) (m2 (oIxD oIx) (mv 0) (mv 1)) (mc .non))) (mTup (mCons (mv 1) (mCons (m2 (oIxD oIx) (mv 0) (mv 1)) mNil)))) mNil) cSort) mNil) cTup)))
def F__law_ends : Fn := posF 1 [] (bodyF 1 2 m__law_ends)
theorem d__law_ends {P : Program} {w : World} {mg : Str → Option Value} {base : Heap} {T : Tab} (B : Bt P w mg T)  {f : Addr} {cdv : Value} {A : Around} {outer : List Env} {s : Shared} {H : Hp} {E : XK} {g : Gh}  (hr : RoomG 0 (A.deeper (envOfC "_law_ends" (defScope s__law_ends) s.heap.objs.size f cdv))) :
    PMb (cAt P w mg base T ["_law_places", "_law_row"] "_law_ends" (defScope s__law_ends) f cdv A outer s H E g) (defBody s__law_ends) m__law_ends :=
  have nd := sc__law_ends.nd
  have hu := hr.toRoom.units
  have hu2 := room65 hr
  have hgd := hr.gs
  (bm_one (sm_lock (sm_ret (em_callT call_tuple_of ok_tuple B.b_tuple (am_cons (em_callB cr_sortA ok_sort B.b_sorted (am_cons (em_lc (own := [("_law_row", 1)]) rfl nd (im_key (em_v 0)) (blkOk_by rfl) (fun _ _ _ _ _ _ => (gc_name 1 nd rfl (Or.inl rfl) (by decide))) (fun _ _ _ _ _ _ => (tsm_one (tm_cmp ok_isntN (em_ixG (ixG_dict (room1 hu) ixG_seq) (em_v 0) (em_v 1) ⟨fun _ _ => rfl, fun _ _ => rfl⟩) em_non (nomark _)))) (fun _ _ _ _ _ _ => (em_tup (am_cons (em_v 1) (am_cons (em_ixG (ixG_dict (room1 hu) ixG_seq) (em_v 0) (em_v 1) ⟨fun _ _ => rfl, fun _ _ => rfl⟩) am_nil))))) am_nil)) am_nil)))))
theorem k__law_ends {P : Program} {w : World} {mg : Str → Option Value} {base : Heap} {T : Tab} (B : Bt P w mg T)  {f : Addr} {fd : FuncData} (F : Fun T.K "_law_ends" "_law_ends" s__law_ends f fd) (hm : mg "_law_ends" = some (.ref f)) : Kn P w mg base T "_law_ends" 1 F__law_ends :=
  ⟨f, FnP.of (dms := []) (fnG_of F sc__law_ends fun cdv A outer s H E g hr => d__law_ends B  hr) (F.binds (fun _ _ _ _ _ _ us hl => match us, hl with | [_], _ => rfl)) .nil (fun _ _ => .nil), hm, F.kp⟩
theorem sc__law_run : FnScope ["_law_pairs", "_law_order", "_law_word", "_law_wants", "_law_places", "_law_row", "_law_new", "_law_holders", "_law_key", "_law_one"] ["_law_pairs", "_law_order", "_law_word"] (defScope s__law_run) := ⟨rfl, rfl, rfl, by decide +kernel, rfl, by decide +kernel, by decide +kernel⟩
def m__law_run : MStm := (sSeq (sSet 3 (mCall (mCons (mv 0) mNil) cDict)) (sSeq (sLock 3 (sSet 4 (mCall (mCons (mLc [8] (iKey (mv 3)) (gSet 8) mYes (mTup (mCons (mv 8) (mCons (mv 8) mNil)))) mNil) cDict))) (sSeq (sForI (iSeq (mv 1)) (gSet 5) (sSeq (sSet 6 (m2 (oIxD oIx) (mv 3) (mv 5))) (sSeq (sLock 4 (sSet 7 (mLc [9] (iKey (mv 4)) (gSet 9) (mAnd (mB (m2 (oEqK false (oEqD false)) (m2 (oIxD oIx) (mv 4) (mv 9)) (mv 6))) (mB (m2 (oEqK true (oEqD true)) (mv 9) (mv 5)))) (mv 9)))) (sIf (mAnd (mB (m2 (oIsN true) (m2 (oIxD oIx) (mv 4) (mv 5)) (mc .non))) (mB (m2 (oEqK true (oEqD true)) (mv 6) (mv 5)))) (sSeq (sIf (mAnd (mB (m2 (oEqK true (oEqD true)) (mv 7) (mLst mNil))) (mB (m2 (oEqK false (oEqD false)) (mv 2) (mc (.str "abort"))))) (sLock 3 (sRet (mTup (mCons (mTup (mCons (mv 5) (mCons (m2 (oIxD oIx) (mv 7) (mc (.int 0))) mNil))) (mCons (mCall (mCons (mCall (mCons (mLc [8] (iKey (mv 3)) (gSet 8) mYes (mTup (mCons (mv 8) (mCons (mv 8) mNil)))) mNil) cSort) mNil) cTup) mNil))))) sNx) (sSeq (sIf (mAnd (mB (m2 (oEqK true (oEqD true)) (mv 7) (mLst mNil))) (mB (m2 (oEqK false (oEqD false)) (mv 2) (mc (.str "fail"))))) (sRet (mTup (mCons (mTup (mCons (mv 5) (mCons (m2 (oIxD oIx) (mv 7) (mc (.int 0))) mNil))) (mCons (mFn (mCons (mv 4) mNil) F__law_ends) mNil)))) sNx) (sSeq (sIf (mAnd (mB (m2 (oEqK true (oEqD true)) (mv 7) (mLst mNil))) (mB (m2 (oEqK false (oEqD false)) (mv 2) (mc (.str "replace"))))) (sAsg (mc .non) (gSub (mv 4) (m2 (oIxD oIx) (mv 7) (mc (.int 0))) (fSetD fSetL))) sNx) (sIf (mOr (mB (m2 (oEqK false (oEqD false)) (mv 7) (mLst mNil))) (mB (m2 (oEqK false (oEqD false)) (mv 2) (mc (.str "replace"))))) (sAsg (mv 6) (gSub (mv 4) (mv 5) (fSetD fSetL))) sNx)))) sNx)))) (sRet (mTup (mCons (mTup mNil) (mCons (mFn (mCons (mv 4) mNil) F__law_ends) mNil)))))))
def F__law_run : Fn := posF 3 [] (bodyF 3 10 m__law_run)
theorem d__law_run {P : Program} {w : World} {mg : Str → Option Value} {base : Heap} {T : Tab} (B : Bt P w mg T) (h__law_ends : Kn P w mg base T "_law_ends" 1 F__law_ends) {f : Addr} {cdv : Value} {A : Around} {outer : List Env} {s : Shared} {H : Hp} {E : XK} {g : Gh}  (hr : RoomG 1 (A.deeper (envOfC "_law_run" (defScope s__law_run) s.heap.objs.size f cdv))) :
    PMb (cAt P w mg base T ["_law_pairs", "_law_order", "_law_word", "_law_wants", "_law_places", "_law_row", "_law_new", "_law_holders", "_law_key", "_law_one"] "_law_run" (defScope s__law_run) f cdv A outer s H E g) (defBody s__law_run) m__law_run :=
  have nd := sc__law_run.nd
  have hu := hr.toRoom.units
  have hu2 := room65 hr
  have hgd := hr.gs
  (bm_cons (sm_set 3 nd rfl (Or.inl rfl) (em_callT (call_dictP rfl) ok_dict B.b_dict (am_cons (em_v 0) am_nil))) (bm_cons (sm_lock (sm_set 4 nd rfl (Or.inr rfl) (em_callT (call_dictP rfl) ok_dict B.b_dict (am_cons (em_lc (own := [("_law_key", 8)]) rfl nd (im_key (em_v 3)) (blkOk_by rfl) (fun _ _ _ _ _ _ => (gc_name 8 nd rfl (Or.inl rfl) (by decide))) (fun _ _ _ _ _ _ => tsm_nil) (fun _ _ _ _ _ _ => (em_tup (am_cons (em_v 8) (am_cons (em_v 8) am_nil))))) am_nil)))) (bm_cons (sm_for (passes_of rfl) rfl (im_seq (em_v 1)) (gm_name 5 nd rfl (Or.inr rfl)) (bm_cons (sm_set 6 nd rfl (Or.inr rfl) (em_ixG (ixG_dict (room1 hu) ixG_seq) (em_v 3) (em_v 5) ⟨fun _ _ => rfl, fun _ _ => rfl⟩)) (bm_cons (sm_lock (sm_setLc (own := [("_law_one", 9)]) 7 rfl nd (im_key (em_v 4)) (blkOk_by rfl) (fun _ _ _ _ _ _ => (gc_name 9 nd rfl (Or.inl rfl) (by decide))) (fun _ _ _ _ _ _ => (tsm_one (tm_w (wm_and (tm_cmp (op_eqK (room0 hu) (ok_eqD hu)) (em_ixG (ixG_dict (room1 hu) ixG_seq) (em_v 4) (em_v 9) ⟨fun _ _ => rfl, fun _ _ => rfl⟩) (em_v 6) (nomark _)) (wm_and1 (tm_cmp (op_neK (room0 hu) (ok_neD hu)) (em_v 9) (em_v 5) (nomark _))))))) (fun _ _ _ _ _ _ => (em_v 9)))) (bm_one (sm_if (tm_w (wm_and (tm_cmp ok_isntN (em_ixG (ixG_dict (room1 hu) ixG_seq) (em_v 4) (em_v 5) ⟨fun _ _ => rfl, fun _ _ => rfl⟩) em_non (nomark _)) (wm_and1 (tm_cmp (op_neK (room0 hu) (ok_neD hu)) (em_v 6) (em_v 5) (nomark _))))) (bm_cons (sm_if (tm_w (wm_and (tm_cmp (op_neK (room0 hu) (ok_neD hu)) (em_v 7) (em_lst am_nil) (nomark _)) (wm_and1 (tm_cmp (op_eqK (room0 hu) (ok_eqD hu)) (em_v 2) em_str (nomark _))))) (bm_one (sm_lock (sm_ret (em_tup (am_cons (em_tup (am_cons (em_v 5) (am_cons (em_ixG (ixG_dict (room1 hu) ixG_seq) (em_v 7) em_int ⟨fun _ _ => rfl, fun _ _ => rfl⟩) am_nil))) (am_cons (em_callT call_tuple_of ok_tuple B.b_tuple (am_cons (em_callB cr_sortA ok_sort B.b_sorted (am_cons (em_lc (own := [("_law_key", 8)]) rfl nd (im_key (em_v 3)) (blkOk_by rfl) (fun _ _ _ _ _ _ => (gc_name 8 nd rfl (Or.inl rfl) (by decide))) (fun _ _ _ _ _ _ => tsm_nil) (fun _ _ _ _ _ _ => (em_tup (am_cons (em_v 8) (am_cons (em_v 8) am_nil))))) am_nil)) am_nil)) am_nil)))))) bm_nil) (bm_cons (sm_if (tm_w (wm_and (tm_cmp (op_neK (room0 hu) (ok_neD hu)) (em_v 7) (em_lst am_nil) (nomark _)) (wm_and1 (tm_cmp (op_eqK (room0 hu) (ok_eqD hu)) (em_v 2) em_str (nomark _))))) (bm_one (sm_ret (em_tup (am_cons (em_tup (am_cons (em_v 5) (am_cons (em_ixG (ixG_dict (room1 hu) ixG_seq) (em_v 7) em_int ⟨fun _ _ => rfl, fun _ _ => rfl⟩) am_nil))) (am_cons (em_kn h__law_ends (hr.less (by decide)) cAt_takes (am_cons (em_v 4) am_nil)) am_nil))))) bm_nil) (bm_cons (sm_if (tm_w (wm_and (tm_cmp (op_neK (room0 hu) (ok_neD hu)) (em_v 7) (em_lst am_nil) (nomark _)) (wm_and1 (tm_cmp (op_eqK (room0 hu) (ok_eqD hu)) (em_v 2) em_str (nomark _))))) (bm_one (sm_asg em_non (gm_subG (setG_dict (room1 hu) (setG_list set_list)) (em_v 4) (em_ixG (ixG_dict (room1 hu) ixG_seq) (em_v 7) em_int ⟨fun _ _ => rfl, fun _ _ => rfl⟩)))) bm_nil) (bm_one (sm_if (tm_w (wm_or (tm_cmp (op_eqK (room0 hu) (ok_eqD hu)) (em_v 7) (em_lst am_nil) (nomark _)) (wm_or1 (tm_cmp (op_eqK (room0 hu) (ok_eqD hu)) (em_v 2) em_str (nomark _))))) (bm_one (sm_asg (em_v 6) (gm_subG (setG_dict (room1 hu) (setG_list set_list)) (em_v 4) (em_v 5)))) bm_nil))))) bm_nil))))) (bm_one (sm_ret (em_tup (am_cons (em_tup am_nil) (am_cons (em_kn h__law_ends (hr.less (by decide)) cAt_takes (am_cons (em_v 4) am_nil)) am_nil))))))))
theorem k__law_run {P : Program} {w : World} {mg : Str → Option Value} {base : Heap} {T : Tab} (B : Bt P w mg T) (h__law_ends : Kn P w mg base T "_law_ends" 1 F__law_ends) {f : Addr} {fd : FuncData} (F : Fun T.K "_law_run" "_law_run" s__law_run f fd) (hm : mg "_law_run" = some (.ref f)) : Kn P w mg base T "_law_run" 2 F__law_run :=
  ⟨f, FnP.of (dms := []) (fnG_of F sc__law_run fun cdv A outer s H E g hr => d__law_run B h__law_ends hr) (F.binds (fun _ _ _ _ _ _ us hl => match us, hl with | [_, _, _], _ => rfl)) .nil (fun _ _ => .nil), hm, F.kp⟩
theorem sc__law_collides : FnScope ["_law_keys", "_law_pair", "_law_way", "_law_least", "_law_most", "_law_rows", "_law_order"] ["_law_keys", "_law_pair", "_law_way", "_law_least", "_law_most"] (defScope s__law_collides) := ⟨rfl, rfl, rfl, by decide +kernel, rfl, by decide +kernel, by decide +kernel⟩
def m__law_collides : MStm := (sSeq (sAsg (mFn (mCons (mv 0) (mCons (mv 1) (mCons (mv 2) (mCons (mv 3) (mCons (mv 4) mNil))))) F__law_planned) (gUnpN [5, 6])) (sRet (m2 (oEqK true (oEqD true)) (m2 (oIxD oIx) (mFn (mCons (mv 5) (mCons (mv 6) (mCons (mc (.str "fail")) mNil))) F__law_run) (mc (.int 0))) (mTup mNil))))
def F__law_collides : Fn := posF 5 [] (bodyF 5 7 m__law_collides)
theorem d__law_collides {P : Program} {w : World} {mg : Str → Option Value} {base : Heap} {T : Tab} (B : Bt P w mg T) (h__law_planned : Kn P w mg base T "_law_planned" 2 F__law_planned) (h__law_run : Kn P w mg base T "_law_run" 2 F__law_run) {f : Addr} {cdv : Value} {A : Around} {outer : List Env} {s : Shared} {H : Hp} {E : XK} {g : Gh}  (hr : RoomG 2 (A.deeper (envOfC "_law_collides" (defScope s__law_collides) s.heap.objs.size f cdv))) :
    PMb (cAt P w mg base T ["_law_keys", "_law_pair", "_law_way", "_law_least", "_law_most", "_law_rows", "_law_order"] "_law_collides" (defScope s__law_collides) f cdv A outer s H E g) (defBody s__law_collides) m__law_collides :=
  have nd := sc__law_collides.nd
  have hu := hr.toRoom.units
  have hu2 := room65 hr
  have hgd := hr.gs
  (bm_cons (sm_asg (em_kn h__law_planned (hr.less (by decide)) cAt_takes (am_cons (em_v 0) (am_cons (em_v 1) (am_cons (em_v 2) (am_cons (em_v 3) (am_cons (em_v 4) am_nil)))))) (gm_unpN (is := [5, 6]) rfl (pgs_cons (pg_name (i := 5) nd rfl (Or.inl rfl)) (pgs_cons (pg_name (i := 6) nd rfl (Or.inl rfl)) pgs_nil)))) (bm_one (sm_ret (em_cmp (op_neK (room0 hu) (ok_neD hu)) (em_ixG (ixG_dict (room1 hu) ixG_seq) (em_kn h__law_run (hr.less (by decide)) cAt_takes (am_cons (em_v 5) (am_cons (em_v 6) (am_cons em_str am_nil)))) em_int ⟨fun _ _ => rfl, fun _ _ => rfl⟩) (em_tup am_nil) (nomark _)))))
theorem k__law_collides {P : Program} {w : World} {mg : Str → Option Value} {base : Heap} {T : Tab} (B : Bt P w mg T) (h__law_planned : Kn P w mg base T "_law_planned" 2 F__law_planned) (h__law_run : Kn P w mg base T "_law_run" 2 F__law_run) {f : Addr} {fd : FuncData} (F : Fun T.K "_law_collides" "_law_collides" s__law_collides f fd) (hm : mg "_law_collides" = some (.ref f)) : Kn P w mg base T "_law_collides" 3 F__law_collides :=
  ⟨f, FnP.of (dms := []) (fnG_of F sc__law_collides fun cdv A outer s H E g hr => d__law_collides B h__law_planned h__law_run hr) (F.binds (fun _ _ _ _ _ _ us hl => match us, hl with | [_, _, _, _, _], _ => rfl)) .nil (fun _ _ => .nil), hm, F.kp⟩
theorem sc__law_pair_right : FnScope ["_law_told", "_law_pair", "_law_way", "_law_least", "_law_most", "_law_key"] ["_law_told", "_law_pair", "_law_way", "_law_least", "_law_most"] (defScope s__law_pair_right) := ⟨rfl, rfl, rfl, by decide +kernel, rfl, by decide +kernel, by decide +kernel⟩
def m__law_pair_right : MStm := (sSeq (sIf (mOr (mNot (mB (mCall (mCons (mv 0) (mCons (mc (.ty "tuple")) mNil)) (cIsi IS XS isi)))) (mB (m2 (oEqK true (oEqD true)) (mCall (mCons (mv 0) mNil) (cLenD cLen)) (mc (.int 2))))) (sRet (mc (.bl false))) sNx) (sSeq (sIf (mNot (mB (mCall (mCons (mLc [5] (iSeq (mv 0)) (gSet 5) mYes (mAndV (mCall (mCons (mv 5) (mCons (mc (.ty "int")) mNil)) (cIsi IS XS isi)) (mNotV (mCall (mCons (mv 5) (mCons (mc (.ty "bool")) mNil)) (cIsi IS XS isi))))) mNil) (cAll false)))) (sRet (mc (.bl false))) sNx) (sRet (mAndV (m2 oLt (m2 (oIxD oIx) (mv 0) (mc (.int 0))) (m2 (oIxD oIx) (mv 0) (mc (.int 1)))) (mFn (mCons (mCall (mCons (mv 0) mNil) cList) (mCons (mv 1) (mCons (mv 2) (mCons (mv 3) (mCons (mv 4) mNil))))) F__law_collides)))))
def F__law_pair_right : Fn := posF 5 [] (bodyF 5 6 m__law_pair_right)
theorem d__law_pair_right {P : Program} {w : World} {mg : Str → Option Value} {base : Heap} {T : Tab} (B : Bt P w mg T) (h__law_collides : Kn P w mg base T "_law_collides" 3 F__law_collides) {f : Addr} {cdv : Value} {A : Around} {outer : List Env} {s : Shared} {H : Hp} {E : XK} {g : Gh}  (hr : RoomG 3 (A.deeper (envOfC "_law_pair_right" (defScope s__law_pair_right) s.heap.objs.size f cdv))) :
    PMb (cAt P w mg base T ["_law_told", "_law_pair", "_law_way", "_law_least", "_law_most", "_law_key"] "_law_pair_right" (defScope s__law_pair_right) f cdv A outer s H E g) (defBody s__law_pair_right) m__law_pair_right :=
  have nd := sc__law_pair_right.nd
  have hu := hr.toRoom.units
  have hu2 := room65 hr
  have hgd := hr.gs
  (bm_cons (sm_if (tm_w (wm_or (tm_not (tm_val (em_callB call_isA (ok_isK B.x) B.b_isinstance (am_cons (em_v 0) (am_cons (em_ty B.b_tuple) am_nil))))) (wm_or1 (tm_cmp (op_neK (room0 hu) (ok_neD hu)) (em_callG (callG_lenD (CallG.of call_len ok_len)) B.b_len (am_cons (em_v 0) am_nil)) em_int (nomark _))))) (bm_one (sm_ret em_bl)) bm_nil) (bm_cons (sm_if (tm_not (tm_val (em_callB (cr_all rfl) ok_all B.b_all (am_cons (em_lc (own := [("_law_key", 5)]) rfl nd (im_seq (em_v 0)) (blkOk_by rfl) (fun _ _ _ _ _ _ => (gc_name 5 nd rfl (Or.inl rfl) (by decide))) (fun _ _ _ _ _ _ => tsm_nil) (fun _ _ _ _ _ _ => (em_and (em_callB call_isA (ok_isK B.x) B.b_isinstance (am_cons (em_v 5) (am_cons (em_ty B.b_int) am_nil))) (em_one (em_not (em_callB call_isA (ok_isK B.x) B.b_isinstance (am_cons (em_v 5) (am_cons (em_ty B.b_bool) am_nil)))))))) am_nil)))) (bm_one (sm_ret em_bl)) bm_nil) (bm_one (sm_ret (em_and (em_cmp ok_lt (em_ixG (ixG_dict (room1 hu) ixG_seq) (em_v 0) em_int ⟨fun _ _ => rfl, fun _ _ => rfl⟩) (em_ixG (ixG_dict (room1 hu) ixG_seq) (em_v 0) em_int ⟨fun _ _ => rfl, fun _ _ => rfl⟩) (nomark _)) (em_one (em_kn h__law_collides (hr.less (by decide)) cAt_takes (am_cons (em_callT call_list_of ok_list B.b_list (am_cons (em_v 0) am_nil)) (am_cons (em_v 1) (am_cons (em_v 2) (am_cons (em_v 3) (am_cons (em_v 4) am_nil))))))))))))
theorem k__law_pair_right {P : Program} {w : World} {mg : Str → Option Value} {base : Heap} {T : Tab} (B : Bt P w mg T) (h__law_collides : Kn P w mg base T "_law_collides" 3 F__law_collides) {f : Addr} {fd : FuncData} (F : Fun T.K "_law_pair_right" "_law_pair_right" s__law_pair_right f fd) (hm : mg "_law_pair_right" = some (.ref f)) : Kn P w mg base T "_law_pair_right" 4 F__law_pair_right :=
  ⟨f, FnP.of (dms := []) (fnG_of F sc__law_pair_right fun cdv A outer s H E g hr => d__law_pair_right B h__law_collides hr) (F.binds (fun _ _ _ _ _ _ us hl => match us, hl with | [_, _, _, _, _], _ => rfl)) .nil (fun _ _ => .nil), hm, F.kp⟩
theorem sc__law_drawn_keys : FnScope ["_law_pen_here", "_law_pair", "_law_least", "_law_most", "_law_middle", "_law_found", "_law_turn", "_law_near", "_law_key"] ["_law_pen_here", "_law_pair", "_law_least", "_law_most"] (defScope s__law_drawn_keys) := ⟨rfl, rfl, rfl, by decide +kernel, rfl, by decide +kernel, by decide +kernel⟩
def m__law_drawn_keys : MStm := (sSeq (sSet 4 (mIf (mB (m2 (oEqK true (oEqD true)) (m2 (oIxD oIx) (mv 1) (mc (.int 0))) (mc (.int 1)))) (m2 oFdv (m2 (oIxD oIx) (mv 1) (mc (.int 1))) (m2 oSub (mc (.int 1)) (m2 (oIxD oIx) (mv 1) (mc (.int 0))))) (mc (.int 0)))) (sSeq (sSet 5 (mLst mNil)) (sSeq (sForI (iRange1 (mCons (mc (.int 4)) mNil)) (gSet 6) (sSeq (sSet 7 (mLst (mCons (mv 4) (mCons (mIf (mB (m2 (oIsN true) (mv 2) (mc .non))) (mv 2) (mc (.int 0))) (mCons (mIf (mB (m2 (oIsN true) (mv 3) (mc .non))) (mv 3) (mc (.int 7))) mNil))))) (sSeq (sSet 8 (m2 oSub (m2 oAdd (mFn (mCons (mv 0) (mCons (mv 7) mNil)) F__law_pick) (mFn (mCons (mv 0) (mCons (mc (.int 7)) mNil)) F__law_draw)) (mc (.int 3)))) (sSet 5 (m2 oAdd (mv 5) (mLst (mCons (mv 8) (mCons (m2 oAdd (m2 oMul (m2 (oIxD oIx) (mv 1) (mc (.int 0))) (mv 8)) (m2 (oIxD oIx) (mv 1) (mc (.int 1)))) mNil)))))))) (sRet (mSetD (mv 5))))))
def F__law_drawn_keys : Fn := posF 4 [] (bodyF 4 9 m__law_drawn_keys)
theorem d__law_drawn_keys {P : Program} {w : World} {mg : Str → Option Value} {base : Heap} {T : Tab} (B : Bt P w mg T) (h__law_pick : Kn P w mg base T "_law_pick" 2 F__law_pick) (h__law_draw : Kn P w mg base T "_law_draw" 1 F__law_draw) {f : Addr} {cdv : Value} {A : Around} {outer : List Env} {s : Shared} {H : Hp} {E : XK} {g : Gh}  (hr : RoomG 2 (A.deeper (envOfC "_law_drawn_keys" (defScope s__law_drawn_keys) s.heap.objs.size f cdv))) :
    PMb (cAt P w mg base T ["_law_pen_here", "_law_pair", "_law_least", "_law_most", "_law_middle", "_law_found", "_law_turn", "_law_near", "_law_key"] "_law_drawn_keys" (defScope s__law_drawn_keys) f cdv A outer s H E g) (defBody s__law_drawn_keys) m__law_drawn_keys :=
  have nd := sc__law_drawn_keys.nd
  have hu := hr.toRoom.units
  have hu2 := room65 hr
  have hgd := hr.gs
  (bm_cons (sm_set 4 nd rfl (Or.inl rfl) (em_if (tm_cmp (op_neK (room0 hu) (ok_neD hu)) (em_ixG (ixG_dict (room1 hu) ixG_seq) (em_v 1) em_int ⟨fun _ _ => rfl, fun _ _ => rfl⟩) em_int (nomark _)) (em_bin ok_fdv (em_ixG (ixG_dict (room1 hu) ixG_seq) (em_v 1) em_int ⟨fun _ _ => rfl, fun _ _ => rfl⟩) (em_bin ok_sub em_int (em_ixG (ixG_dict (room1 hu) ixG_seq) (em_v 1) em_int ⟨fun _ _ => rfl, fun _ _ => rfl⟩))) em_int)) (bm_cons (sm_set 5 nd rfl (Or.inl rfl) (em_lst am_nil)) (bm_cons (sm_for (passes_of rfl) rfl (im_range1 (am_cons em_int am_nil) B.b_range) (gm_name 6 nd rfl (Or.inl rfl)) (bm_cons (sm_set 7 nd rfl (Or.inl rfl) (em_lst (am_cons (em_v 4) (am_cons (em_if (tm_cmp ok_isntN (em_v 2) em_non (nomark _)) (em_v 2) em_int) (am_cons (em_if (tm_cmp ok_isntN (em_v 3) em_non (nomark _)) (em_v 3) em_int) am_nil))))) (bm_cons (sm_set 8 nd rfl (Or.inl rfl) (em_bin ok_sub (em_bin ok_add (em_kn h__law_pick (hr.less (by decide)) cAt_takes (am_cons (em_v 0) (am_cons (em_v 7) am_nil))) (em_kn h__law_draw (hr.less (by decide)) cAt_takes (am_cons (em_v 0) (am_cons em_int am_nil)))) em_int)) (bm_one (sm_set 5 nd rfl (Or.inl rfl) (em_bin ok_add (em_v 5) (em_lst (am_cons (em_v 8) (am_cons (em_bin ok_add (em_bin ok_mul (em_ixG (ixG_dict (room1 hu) ixG_seq) (em_v 1) em_int ⟨fun _ _ => rfl, fun _ _ => rfl⟩) (em_v 8)) (em_ixG (ixG_dict (room1 hu) ixG_seq) (em_v 1) em_int ⟨fun _ _ => rfl, fun _ _ => rfl⟩)) am_nil))))))))) (bm_one (sm_ret (em_setD rfl B.b_sorted B.b_set (em_v 5)))))))
theorem k__law_drawn_keys {P : Program} {w : World} {mg : Str → Option Value} {base : Heap} {T : Tab} (B : Bt P w mg T) (h__law_pick : Kn P w mg base T "_law_pick" 2 F__law_pick) (h__law_draw : Kn P w mg base T "_law_draw" 1 F__law_draw) {f : Addr} {fd : FuncData} (F : Fun T.K "_law_drawn_keys" "_law_drawn_keys" s__law_drawn_keys f fd) (hm : mg "_law_drawn_keys" = some (.ref f)) : Kn P w mg base T "_law_drawn_keys" 3 F__law_drawn_keys :=
  ⟨f, FnP.of (dms := []) (fnG_of F sc__law_drawn_keys fun cdv A outer s H E g hr => d__law_drawn_keys B h__law_pick h__law_draw hr) (F.binds (fun _ _ _ _ _ _ us hl => match us, hl with | [_, _, _, _], _ => rfl)) .nil (fun _ _ => .nil), hm, F.kp⟩
theorem sc__law_same : FnScope ["_law_found", "_law_due"] ["_law_found", "_law_due"] (defScope s__law_same) := ⟨rfl, rfl, rfl, by decide +kernel, rfl, by decide +kernel, by decide +kernel⟩
def m__law_same : MStm := (sRet (m2 (oEqK false (oEqD false)) (mCall (mCons (mv 0) mNil) (cReprS cRepr)) (mCall (mCons (mv 1) mNil) (cReprS cRepr))))
def F__law_same : Fn := posF 2 [] (bodyF 2 2 m__law_same)
theorem d__law_same {P : Program} {w : World} {mg : Str → Option Value} {base : Heap} {T : Tab} (B : Bt P w mg T)  {f : Addr} {cdv : Value} {A : Around} {outer : List Env} {s : Shared} {H : Hp} {E : XK} {g : Gh}  (hr : RoomG 0 (A.deeper (envOfC "_law_same" (defScope s__law_same) s.heap.objs.size f cdv))) :
    PMb (cAt P w mg base T ["_law_found", "_law_due"] "_law_same" (defScope s__law_same) f cdv A outer s H E g) (defBody s__law_same) m__law_same :=
  have nd := sc__law_same.nd
  have hu := hr.toRoom.units
  have hu2 := room65 hr
  have hgd := hr.gs
  (bm_one (sm_ret (em_cmp (op_eqK (room0 hu) (ok_eqD hu)) (em_callB (call_reprB hgd hu2) (ok_reprS ok_repr) B.b_repr (am_cons (em_v 0) am_nil)) (em_callB (call_reprB hgd hu2) (ok_reprS ok_repr) B.b_repr (am_cons (em_v 1) am_nil)) (nomark _))))
theorem k__law_same {P : Program} {w : World} {mg : Str → Option Value} {base : Heap} {T : Tab} (B : Bt P w mg T)  {f : Addr} {fd : FuncData} (F : Fun T.K "_law_same" "_law_same" s__law_same f fd) (hm : mg "_law_same" = some (.ref f)) : Kn P w mg base T "_law_same" 1 F__law_same :=
  ⟨f, FnP.of (dms := []) (fnG_of F sc__law_same fun cdv A outer s H E g hr => d__law_same B  hr) (F.binds (fun _ _ _ _ _ _ us hl => match us, hl with | [_, _], _ => rfl)) .nil (fun _ _ => .nil), hm, F.kp⟩
theorem sc_law : FnScope ["_law_script", "_law_cell", "_law_pen_here", "_law_turn", "_law_pair", "_law_way", "_law_upward", "_law_formula", "_law_told", "_law_keys", "_law_least", "_law_most"] ["_law_script"] (defScope s_law) := ⟨rfl, rfl, rfl, by decide +kernel, rfl, by decide +kernel, by decide +kernel⟩
def m_law : MStm := (sSeq (sForI (iSeq (m2 oAdd (mLst (mCons (mFn (mCons (mv 0) (mCons (mc (.int 0)) mNil)) F__law_cell_at) mNil)) (mSl (mv 0) (oSome (mc (.int 1))) (oSome (mc (.int 3)))))) (gSet 1) (sSeq (sSet 2 (mFn (mCons (mv 1) mNil) F__law_pen)) (sForI (iRange1 (mCons (mc (.int 3)) mNil)) (gSet 3) (sSeq (sSet 4 (mFn (mCons (mv 2) mNil) F__law_numbers)) (sSeq (sAsg (mTup (mCons (mMk "Formula" F_Formula___init__ (mCons (m2 (oIxD oIx) (mv 4) (mc (.int 0))) (mCons (m2 (oIxD oIx) (mv 4) (mc (.int 1))) mNil))) (mCons (mFn (mCons (mv 2) (mCons (mv 4) mNil)) F__law_bounds) mNil))) (gTupG [(gSet 7), (gUnpN [10, 11])])) (sSeq (sForI (iSeq (mLst (mCons (mc (.str "up")) (mCons (mc (.str "down")) (mCons (mc (.str "far")) (mCons (mc (.str "near")) mNil)))))) (gSet 5) (sSeq (sSet 8 (mFn (mCat 1 3 (mCons (mv 7) mNil) (mCons (mv 5) (mCons (mv 10) (mCons (mv 11) mNil)))) F_clash_k1_scan_low_high)) (sSeq (sIf (mB (m2 (oEqK true (oEqD true)) (m2 (oIsN false) (mv 8) (mc .non)) (mFn (mCons (mv 4) (mCons (mv 5) (mCons (mv 10) (mCons (mv 11) mNil)))) F__law_safe))) (sRet (mc (.bl false))) sNx) (sSeq (sIf (mAnd (mB (m2 (oIsN true) (mv 8) (mc .non))) (mNot (mB (mFn (mCons (mv 8) (mCons (mv 4) (mCons (mv 5) (mCons (mv 10) (mCons (mv 11) mNil))))) F__law_pair_right)))) (sRet (mc (.bl false))) sNx) (sSeq (sSet 9 (mFn (mCons (mv 2) (mCons (mv 4) (mCons (mv 10) (mCons (mv 11) mNil)))) F__law_drawn_keys)) (sSeq (sIf (mAnd (mB (m2 (oIsN false) (mv 8) (mc .non))) (mB (mFn (mCons (mv 9) (mCons (mv 4) (mCons (mv 5) (mCons (mv 10) (mCons (mv 11) mNil))))) F__law_collides))) (sRet (mc (.bl false))) sNx) (sIf (mNot (mB (mFn (mCons (mFn (mCat 1 3 (mCons (mv 7) mNil) (mCons (mv 5) (mCons (mv 10) (mCons (mv 11) mNil)))) F_clash_k1_scan_low_high) (mCons (mv 8) mNil)) F__law_same))) (sRet (mc (.bl false))) sNx))))))) (sSeq (sSet 6 (mFn (mCat 1 3 (mCons (mv 7) mNil) (mCons (mc (.str "up")) (mCons (mv 10) (mCons (mv 11) mNil)))) F_clash_k1_scan_low_high)) (sSeq (sIf (mNot (mB (mFn (mCons (mFn (mCat 1 2 (mCons (mv 7) mNil) (mCons (mv 10) (mCons (mv 11) mNil))) F_clash_k1_low_high) (mCons (mv 6) mNil)) F__law_same))) (sRet (mc (.bl false))) sNx) (sIf (mNot (mB (mFn (mCons (mLst (mCons (mAt (mv 7) (oPrp "Formula" F_Formula_times (fun _ _ => .stuck))) (mCons (mAt (mv 7) (oPrp "Formula" F_Formula_plus (fun _ _ => .stuck))) mNil))) (mCons (mCall (mCons (mv 4) mNil) cList) mNil)) F__law_same))) (sRet (mc (.bl false))) sNx))))))))) (sRet (mc (.bl true))))
def F_law : Fn := posF 1 [] (bodyF 1 12 m_law)
theorem d_law {P : Program} {w : World} {mg : Str → Option Value} {base : Heap} {T : Tab} (B : Bt P w mg T) (h__law_cell_at : Kn P w mg base T "_law_cell_at" 1 F__law_cell_at) (h__law_pen : Kn P w mg base T "_law_pen" 1 F__law_pen) (h__law_numbers : Kn P w mg base T "_law_numbers" 3 F__law_numbers) (h__law_bounds : Kn P w mg base T "_law_bounds" 3 F__law_bounds) (hT_Formula : KnT P w mg base T "Formula" 3 F_Formula___init__) (hK_clash_1_scan_low_high : KnKw P w mg base T "clash" 7 1 ["scan", "low", "high"] F_clash_k1_scan_low_high) (h__law_safe : Kn P w mg base T "_law_safe" 1 F__law_safe) (h__law_pair_right : Kn P w mg base T "_law_pair_right" 4 F__law_pair_right) (h__law_drawn_keys : Kn P w mg base T "_law_drawn_keys" 3 F__law_drawn_keys) (h__law_collides : Kn P w mg base T "_law_collides" 3 F__law_collides) (h__law_same : Kn P w mg base T "_law_same" 1 F__law_same) (hK_clash_1_low_high : KnKw P w mg base T "clash" 7 1 ["low", "high"] F_clash_k1_low_high) (hP_Formula_plus : PrK T "Formula" "plus" P w mg base 1 F_Formula_plus) (hP_Formula_times : PrK T "Formula" "times" P w mg base 1 F_Formula_times) {f : Addr} {cdv : Value} {A : Around} {outer : List Env} {s : Shared} {H : Hp} {E : XK} {g : Gh}  (hr : RoomG 7 (A.deeper (envOfC "law" (defScope s_law) s.heap.objs.size f cdv))) :
    PMb (cAt P w mg base T ["_law_script", "_law_cell", "_law_pen_here", "_law_turn", "_law_pair", "_law_way", "_law_upward", "_law_formula", "_law_told", "_law_keys", "_law_least", "_law_most"] "law" (defScope s_law) f cdv A outer s H E g) (defBody s_law) m_law :=
  have nd := sc_law.nd
  have hu := hr.toRoom.units
  have hu2 := room65 hr
  have hgd := hr.gs
  (bm_cons (sm_for (passes_of rfl) rfl (im_seq (em_bin ok_add (em_lst (am_cons (em_kn h__law_cell_at (hr.less (by decide)) cAt_takes (am_cons (em_v 0) (am_cons em_int am_nil))) am_nil)) (em_sl (em_v 0) (om_some em_int) (om_some em_int)))) (gm_name 1 nd rfl (Or.inl rfl)) (bm_cons (sm_set 2 nd rfl (Or.inl rfl) (em_kn h__law_pen (hr.less (by decide)) cAt_takes (am_cons (em_v 1) am_nil))) (bm_one (sm_for (passes_of rfl) rfl (im_range1 (am_cons em_int am_nil) B.b_range) (gm_name 3 nd rfl (Or.inl rfl)) (bm_cons (sm_set 4 nd rfl (Or.inl rfl) (em_kn h__law_numbers (hr.less (by decide)) cAt_takes (am_cons (em_v 2) am_nil))) (bm_cons (sm_asg (em_tup (am_cons (em_mk hT_Formula (hr.less (by decide)) cAt_takes (am_cons (em_ixG (ixG_dict (room1 hu) ixG_seq) (em_v 4) em_int ⟨fun _ _ => rfl, fun _ _ => rfl⟩) (am_cons (em_ixG (ixG_dict (room1 hu) ixG_seq) (em_v 4) em_int ⟨fun _ _ => rfl, fun _ _ => rfl⟩) am_nil))) (am_cons (em_kn h__law_bounds (hr.less (by decide)) cAt_takes (am_cons (em_v 2) (am_cons (em_v 4) am_nil))) am_nil))) (gm_tupG rfl (gms_cons (gm_name 7 nd rfl (Or.inl rfl)) (gms_cons (gm_unpN (is := [10, 11]) rfl (pgs_cons (pg_name (i := 10) nd rfl (Or.inl rfl)) (pgs_cons (pg_name (i := 11) nd rfl (Or.inl rfl)) pgs_nil))) gms_nil)))) (bm_cons (sm_for (passes_of rfl) rfl (im_seq (em_lst (am_cons em_str (am_cons em_str (am_cons em_str (am_cons em_str am_nil)))))) (gm_name 5 nd rfl (Or.inl rfl)) (bm_cons (sm_set 8 nd rfl (Or.inl rfl) (em_knW (ks := ["scan", "low", "high"]) hK_clash_1_scan_low_high (hr.less (by decide)) cAt_takes (am_cons (em_v 7) am_nil) (ak_cons (em_v 5) (ak_cons (em_v 10) (ak_cons (em_v 11) ak_nil))))) (bm_cons (sm_if (tm_cmp (op_neK (room0 hu) (ok_neD hu)) (em_cmp ok_isN (em_v 8) em_non (nomark _)) (em_kn h__law_safe (hr.less (by decide)) cAt_takes (am_cons (em_v 4) (am_cons (em_v 5) (am_cons (em_v 10) (am_cons (em_v 11) am_nil))))) (nomark _)) (bm_one (sm_ret em_bl)) bm_nil) (bm_cons (sm_if (tm_w (wm_and (tm_cmp ok_isntN (em_v 8) em_non (nomark _)) (wm_and1 (tm_not (tm_val (em_kn h__law_pair_right (hr.less (by decide)) cAt_takes (am_cons (em_v 8) (am_cons (em_v 4) (am_cons (em_v 5) (am_cons (em_v 10) (am_cons (em_v 11) am_nil))))))))))) (bm_one (sm_ret em_bl)) bm_nil) (bm_cons (sm_set 9 nd rfl (Or.inl rfl) (em_kn h__law_drawn_keys (hr.less (by decide)) cAt_takes (am_cons (em_v 2) (am_cons (em_v 4) (am_cons (em_v 10) (am_cons (em_v 11) am_nil)))))) (bm_cons (sm_if (tm_w (wm_and (tm_cmp ok_isN (em_v 8) em_non (nomark _)) (wm_and1 (tm_val (em_kn h__law_collides (hr.less (by decide)) cAt_takes (am_cons (em_v 9) (am_cons (em_v 4) (am_cons (em_v 5) (am_cons (em_v 10) (am_cons (em_v 11) am_nil)))))))))) (bm_one (sm_ret em_bl)) bm_nil) (bm_one (sm_if (tm_not (tm_val (em_kn h__law_same (hr.less (by decide)) cAt_takes (am_cons (em_knW (ks := ["scan", "low", "high"]) hK_clash_1_scan_low_high (hr.less (by decide)) cAt_takes (am_cons (em_v 7) am_nil) (ak_cons (em_v 5) (ak_cons (em_v 10) (ak_cons (em_v 11) ak_nil)))) (am_cons (em_v 8) am_nil))))) (bm_one (sm_ret em_bl)) bm_nil)))))))) (bm_cons (sm_set 6 nd rfl (Or.inl rfl) (em_knW (ks := ["scan", "low", "high"]) hK_clash_1_scan_low_high (hr.less (by decide)) cAt_takes (am_cons (em_v 7) am_nil) (ak_cons em_str (ak_cons (em_v 10) (ak_cons (em_v 11) ak_nil))))) (bm_cons (sm_if (tm_not (tm_val (em_kn h__law_same (hr.less (by decide)) cAt_takes (am_cons (em_knW (ks := ["low", "high"]) hK_clash_1_low_high (hr.less (by decide)) cAt_takes (am_cons (em_v 7) am_nil) (ak_cons (em_v 10) (ak_cons (em_v 11) ak_nil))) (am_cons (em_v 6) am_nil))))) (bm_one (sm_ret em_bl)) bm_nil) (bm_one (sm_if (tm_not (tm_val (em_kn h__law_same (hr.less (by decide)) cAt_takes (am_cons (em_lst (am_cons (em_atG (atG_prp hP_Formula_times (hr.less (by decide)) cAt_takes atG_none) (em_v 7)) (am_cons (em_atG (atG_prp hP_Formula_plus (hr.less (by decide)) cAt_takes atG_none) (em_v 7)) am_nil))) (am_cons (em_callT call_list_of ok_list B.b_list (am_cons (em_v 4) am_nil)) am_nil))))) (bm_one (sm_ret em_bl)) bm_nil))))))))))) (bm_one (sm_ret em_bl)))
theorem k_law {P : Program} {w : World} {mg : Str → Option Value} {base : Heap} {T : Tab} (B : Bt P w mg T) (h__law_cell_at : Kn P w mg base T "_law_cell_at" 1 F__law_cell_at) (h__law_pen : Kn P w mg base T "_law_pen" 1 F__law_pen) (h__law_numbers : Kn P w mg base T "_law_numbers" 3 F__law_numbers) (h__law_bounds : Kn P w mg base T "_law_bounds" 3 F__law_bounds) (hT_Formula : KnT P w mg base T "Formula" 3 F_Formula___init__) (hK_clash_1_scan_low_high : KnKw P w mg base T "clash" 7 1 ["scan", "low", "high"] F_clash_k1_scan_low_high) (h__law_safe : Kn P w mg base T "_law_safe" 1 F__law_safe) (h__law_pair_right : Kn P w mg base T "_law_pair_right" 4 F__law_pair_right) (h__law_drawn_keys : Kn P w mg base T "_law_drawn_keys" 3 F__law_drawn_keys) (h__law_collides : Kn P w mg base T "_law_collides" 3 F__law_collides) (h__law_same : Kn P w mg base T "_law_same" 1 F__law_same) (hK_clash_1_low_high : KnKw P w mg base T "clash" 7 1 ["low", "high"] F_clash_k1_low_high) (hP_Formula_plus : PrK T "Formula" "plus" P w mg base 1 F_Formula_plus) (hP_Formula_times : PrK T "Formula" "times" P w mg base 1 F_Formula_times) {f : Addr} {fd : FuncData} (F : Fun T.K "law" "law" s_law f fd) (hm : mg "law" = some (.ref f)) : Kn P w mg base T "law" 8 F_law :=
  ⟨f, FnP.of (dms := []) (fnG_of F sc_law fun cdv A outer s H E g hr => d_law B h__law_cell_at h__law_pen h__law_numbers h__law_bounds hT_Formula hK_clash_1_scan_low_high h__law_safe h__law_pair_right h__law_drawn_keys h__law_collides h__law_same hK_clash_1_low_high hP_Formula_plus hP_Formula_times hr) (F.binds (fun _ _ _ _ _ _ us hl => match us, hl with | [_], _ => rfl)) .nil (fun _ _ => .nil), hm, F.kp⟩
end Lw
namespace Lw
open L2 Ma PySem.Spec PySem PyProof.Rows
open PySem.W
abbrev TT (K : PySem.W.Frag) : Tab := ⟨K, adOf K CS, ((tbs K).map (·.2)).zip qs⟩
theorem ex_at {K : PySem.W.Frag} (h : exs K = true) (i : Nat) {b : PySem.W.Frag → Bool} (e : exL[i]? = some b) : b K = true := List.all_eq_true.mp h b (List.mem_of_getElem? e)
theorem xs_at {K : PySem.W.Frag} (h : exs K = true) {c : Str} (hc : c ∈ XS) : ExcC K (He.ga K c) ∧ XfC K (He.ga K c) := excB_ok (List.all_eq_true.mp (ex_at h 0 rfl) c hc)
theorem bt_of {w : World} {K : PySem.W.Frag} {h : Heap} {mg : Str → Option Value} (X : K.In h) (G : h.Ns mainGlobals mg) (c : SaysP fas fns nis exs K) : Bt PP w mg (TT K) where
  b_abs := He.free_ok X G (c.d.fact 35 (f := .free "abs") rfl)
  b_all := He.free_ok X G (c.d.fact 36 (f := .free "all") rfl)
  b_bool := He.free_ok X G (c.d.fact 37 (f := .free "bool") rfl)
  b_dict := He.free_ok X G (c.d.fact 38 (f := .free "dict") rfl)
  b_int := He.free_ok X G (c.d.fact 39 (f := .free "int") rfl)
  b_isinstance := He.free_ok X G (c.d.fact 40 (f := .free "isinstance") rfl)
  b_len := He.free_ok X G (c.d.fact 41 (f := .free "len") rfl)
  b_list := He.free_ok X G (c.d.fact 42 (f := .free "list") rfl)
  b_max := He.free_ok X G (c.d.fact 43 (f := .free "max") rfl)
  b_min := He.free_ok X G (c.d.fact 44 (f := .free "min") rfl)
  b_range := He.free_ok X G (c.d.fact 45 (f := .free "range") rfl)
  b_repr := He.free_ok X G (c.d.fact 46 (f := .free "repr") rfl)
  b_set := He.free_ok X G (c.d.fact 47 (f := .free "set") rfl)
  b_sorted := He.free_ok X G (c.d.fact 48 (f := .free "sorted") rfl)
  b_tuple := He.free_ok X G (c.d.fact 49 (f := .free "tuple") rfl)
  c_SMALL_BOUND := He.int_ok X G (c.d.fact 50 (f := .int "SMALL_BOUND" 1000000000000000) rfl)
  kc_Formula := ⟨_, adOf_mem (K := K) (cs := CS) (c := "Formula") (by decide +kernel), He.glo_ok X G (c.d.fact 29 (f := .glo "Formula") rfl)⟩
  ke_NotBound := ⟨_, adOf_mem (K := K) (cs := CS) (c := "NotBound") (by decide +kernel), He.glo_ok X G (c.d.fact 30 (f := .glo "NotBound") rfl), exkB_ok (ex_at c.more 3 rfl)⟩
  ke_NotFormula := ⟨_, adOf_mem (K := K) (cs := CS) (c := "NotFormula") (by decide +kernel), He.glo_ok X G (c.d.fact 31 (f := .glo "NotFormula") rfl), exkB_ok (ex_at c.more 4 rfl)⟩
  ke_NotInteger := ⟨_, adOf_mem (K := K) (cs := CS) (c := "NotInteger") (by decide +kernel), He.glo_ok X G (c.d.fact 32 (f := .glo "NotInteger") rfl), exkB_ok (ex_at c.more 5 rfl)⟩
  ke_NotScan := ⟨_, adOf_mem (K := K) (cs := CS) (c := "NotScan") (by decide +kernel), He.glo_ok X G (c.d.fact 33 (f := .glo "NotScan") rfl), exkB_ok (ex_at c.more 6 rfl)⟩
  ke_TooLarge := ⟨_, adOf_mem (K := K) (cs := CS) (c := "TooLarge") (by decide +kernel), He.glo_ok X G (c.d.fact 34 (f := .glo "TooLarge") rfl), exkB_ok (ex_at c.more 7 rfl)⟩
  f__plus := ⟨fun d hd A e => by
    have e : adOf K CS d = some A := e
    rw [adOf_at e]
    simp only [List.mem_cons, List.not_mem_nil, or_false] at hd
    rcases hd with rfl
    · exact ⟨clsB_ok (ex_at c.more 8 rfl), noB_ok (ex_at c.more 9 rfl)⟩, fun c hc => by simp at hc⟩
  f__times := ⟨fun d hd A e => by
    have e : adOf K CS d = some A := e
    rw [adOf_at e]
    simp only [List.mem_cons, List.not_mem_nil, or_false] at hd
    rcases hd with rfl
    · exact ⟨clsB_ok (ex_at c.more 8 rfl), noB_ok (ex_at c.more 10 rfl)⟩, fun c hc => by simp at hc⟩
  fc_Formula__plus := fldC_of (ex_at c.more 8 rfl) (ex_at c.more 9 rfl)
  fc_Formula__times := fldC_of (ex_at c.more 8 rfl) (ex_at c.more 10 rfl)
  kt_SCANS := ⟨⟨_, He.glo_ok X G (c.d.fact 51 (f := .glo "SCANS") rfl), fun H => He.tupB_ok (ex_at c.more 11 rfl) H⟩, rfl⟩
  kt_STEPS := ⟨⟨_, He.glo_ok X G (c.d.fact 52 (f := .glo "STEPS") rfl), fun H => He.tupB_ok (ex_at c.more 12 rfl) H⟩, rfl⟩
  ra_NotBound := raiF_of (ex_at c.more 13 rfl)
  ra_NotFormula := raiF_of (ex_at c.more 14 rfl)
  ra_NotInteger := raiF_of (ex_at c.more 15 rfl)
  ra_NotScan := raiF_of (ex_at c.more 16 rfl)
  ra_TooLarge := raiF_of (ex_at c.more 17 rfl)
  x := ⟨fun d hd A e => by
    have e : adOf K CS d = some A := e
    rw [adOf_at e]
    exact insB_ok (List.all_eq_true.mp (ex_at c.more 1 rfl) d hd), fun d hd A e => by
    have e : adOf K CS d = some A := e
    rw [adOf_at e]
    exact (xs_at c.more hd).1, isiB_ok (ex_at c.more 2 rfl)⟩
theorem fun_at {K : PySem.W.Frag} (c : SaysP fas fns nis exs K) (i : Nat) {d : He5.DefA} (h : fns[i]? = some d := by rfl) : ∃ fd, FunD K d.name d.qual d.params d.body d.scope (d.dvs K) (d.kws K) (d.at_ K) fd := c.d.def_ i h
theorem law_kn {w : World} {K : PySem.W.Frag} {h base : Heap} {mg : Str → Option Value} (X : K.In h) (G : h.Ns mainGlobals mg) (c : SaysP fas fns nis exs K) (t : TabsK tbs K h) (TB : ∀ p ∈ tbs K, LamX.TabB base mg p.1 p.2) : Kn PP w mg base (TT K) "law" 8 F_law := by
  have B := bt_of (w := w) X G c
  obtain ⟨fd0, f0⟩ := fun_at c 0
  have h__law_cell_at := k__law_cell_at (P := PP) (w := w) (base := base) B  (He5.fun_of f0) (He.glo_ok X G (c.d.fact 0 (f := .glo "_law_cell_at") rfl))
  obtain ⟨fd1, f1⟩ := fun_at c 1
  have h__law_pen := k__law_pen (P := PP) (w := w) (base := base) B  (He5.fun_of f1) (He.glo_ok X G (c.d.fact 1 (f := .glo "_law_pen") rfl))
  obtain ⟨fd2, f2⟩ := fun_at c 2
  have h__law_draw := k__law_draw (P := PP) (w := w) (base := base) B  (He5.fun_of f2) (He.glo_ok X G (c.d.fact 2 (f := .glo "_law_draw") rfl))
  obtain ⟨fd3, f3⟩ := fun_at c 3
  have h__law_pick := k__law_pick (P := PP) (w := w) (base := base) B h__law_draw (He5.fun_of f3) (He.glo_ok X G (c.d.fact 3 (f := .glo "_law_pick") rfl))
  obtain ⟨fd4, f4⟩ := fun_at c 4
  have h__law_numbers := k__law_numbers (P := PP) (w := w) (base := base) B h__law_pick h__law_draw (He5.fun_of f4) (He.glo_ok X G (c.d.fact 4 (f := .glo "_law_numbers") rfl))
  obtain ⟨fd5, f5⟩ := fun_at c 5
  have h__law_bounds := k__law_bounds (P := PP) (w := w) (base := base) B h__law_draw h__law_pick (He5.fun_of f5) (He.glo_ok X G (c.d.fact 5 (f := .glo "_law_bounds") rfl))
  obtain ⟨fd6, f6⟩ := fun_at c 6
  have h_is_integer := k_is_integer (P := PP) (w := w) (base := base) B  (He5.fun_of f6) (He.glo_ok X G (c.d.fact 6 (f := .glo "is_integer") rfl))
  obtain ⟨fd7, f7⟩ := fun_at c 7
  have h_is_small := k_is_small (P := PP) (w := w) (base := base) B h_is_integer (He5.fun_of f7) (He.glo_ok X G (c.d.fact 7 (f := .glo "is_small") rfl))
  obtain ⟨fd8, f8⟩ := fun_at c 8
  have q_Formula___init__ := k_Formula___init__ (P := PP) (w := w) (base := base) B h_is_integer h_is_small f8
  obtain ⟨fd9, f9⟩ := fun_at c 9
  have h_check_formula := k_check_formula (P := PP) (w := w) (base := base) B  (He5.fun_of f9) (He.glo_ok X G (c.d.fact 8 (f := .glo "check_formula") rfl))
  obtain ⟨fd10, f10⟩ := fun_at c 10
  have h_check_scan := k_check_scan (P := PP) (w := w) (base := base) B  (He5.fun_of f10) (He.glo_ok X G (c.d.fact 9 (f := .glo "check_scan") rfl))
  obtain ⟨fd11, f11⟩ := fun_at c 11
  have h_check_bounds := k_check_bounds (P := PP) (w := w) (base := base) B h_is_small (He5.fun_of f11) (He.glo_ok X G (c.d.fact 10 (f := .glo "check_bounds") rfl))
  obtain ⟨fd12, f12⟩ := fun_at c 12
  have q_Formula_times := k_Formula_times (P := PP) (w := w) (base := base) B  (He5.fun_of f12)
  obtain ⟨fd13, f13⟩ := fun_at c 13
  have q_Formula_plus := k_Formula_plus (P := PP) (w := w) (base := base) B  (He5.fun_of f13)
  have hP_Formula_times := prK_of (c := "Formula") (f := "times") (cs := CS) (ex_at c.more 8 rfl) (ex_at c.more 18 rfl) q_Formula_times
  have hP_Formula_plus := prK_of (c := "Formula") (f := "plus") (cs := CS) (ex_at c.more 8 rfl) (ex_at c.more 19 rfl) q_Formula_plus
  obtain ⟨fd14, f14⟩ := fun_at c 14
  have h_new_key := k_new_key (P := PP) (w := w) (base := base) B hP_Formula_times hP_Formula_plus (He5.fun_of f14) (He.glo_ok X G (c.d.fact 11 (f := .glo "new_key") rfl))
  obtain ⟨fd15, f15⟩ := fun_at c 15
  have h_is_within := k_is_within (P := PP) (w := w) (base := base) B  (He5.fun_of f15) (He.glo_ok X G (c.d.fact 12 (f := .glo "is_within") rfl))
  obtain ⟨fd16, f16⟩ := fun_at c 16
  have h_is_visited_before := k_is_visited_before (P := PP) (w := w) (base := base) B hP_Formula_times (He5.fun_of f16) (He.glo_ok X G (c.d.fact 13 (f := .glo "is_visited_before") rfl))
  obtain ⟨fd17, f17⟩ := fun_at c 17
  have h_meets_conflict := k_meets_conflict (P := PP) (w := w) (base := base) B h_new_key hP_Formula_times h_is_within h_is_visited_before (He5.fun_of f17) (He.glo_ok X G (c.d.fact 14 (f := .glo "meets_conflict") rfl))
  obtain ⟨fd18, f18⟩ := fun_at c 18
  have hD_is_safe_0 := kF_is_safe_m0 (P := PP) (w := w) (base := base) B h_meets_conflict f18 (He.glo_ok X G (c.d.fact 15 (f := .glo "is_safe") rfl))
  have hD_is_safe_1 := kF_is_safe_m1 (P := PP) (w := w) (base := base) B h_meets_conflict f18 (He.glo_ok X G (c.d.fact 15 (f := .glo "is_safe") rfl))
  obtain ⟨fd19, f19⟩ := fun_at c 19
  have h_trial_keys := k_trial_keys (P := PP) (w := w) (base := base) B hD_is_safe_0 h_is_within (He5.fun_of f19) (He.glo_ok X G (c.d.fact 16 (f := .glo "trial_keys") rfl))
  obtain ⟨fd20, f20⟩ := fun_at c 20
  have hK_clash_1_scan_low_high := kF_clash_k1_scan_low_high (P := PP) (w := w) (base := base) B h_check_formula h_check_scan h_check_bounds hD_is_safe_1 h_trial_keys h_meets_conflict h_new_key f20 (He.glo_ok X G (c.d.fact 17 (f := .glo "clash") rfl))
  have hK_clash_1_low_high := kF_clash_k1_low_high (P := PP) (w := w) (base := base) B h_check_formula h_check_scan h_check_bounds hD_is_safe_1 h_trial_keys h_meets_conflict h_new_key f20 (He.glo_ok X G (c.d.fact 17 (f := .glo "clash") rfl))
  obtain ⟨fd21, f21⟩ := fun_at c 21
  have h__law_safe := k__law_safe (P := PP) (w := w) (base := base) B  (He5.fun_of f21) (He.glo_ok X G (c.d.fact 18 (f := .glo "_law_safe") rfl))
  obtain ⟨fd22, f22⟩ := fun_at c 22
  have h__law_inside := k__law_inside (P := PP) (w := w) (base := base) B  (He5.fun_of f22) (He.glo_ok X G (c.d.fact 19 (f := .glo "_law_inside") rfl))
  obtain ⟨fd23, f23⟩ := fun_at c 23
  have h__law_ordered := k__law_ordered (P := PP) (w := w) (base := base) B  (He5.fun_of f23) (He.glo_ok X G (c.d.fact 20 (f := .glo "_law_ordered") rfl))
  obtain ⟨fd24, f24⟩ := fun_at c 24
  have h__law_planned := k__law_planned (P := PP) (w := w) (base := base) B h__law_inside h__law_ordered (He5.fun_of f24) (He.glo_ok X G (c.d.fact 21 (f := .glo "_law_planned") rfl))
  obtain ⟨fd25, f25⟩ := fun_at c 25
  have h__law_ends := k__law_ends (P := PP) (w := w) (base := base) B  (He5.fun_of f25) (He.glo_ok X G (c.d.fact 22 (f := .glo "_law_ends") rfl))
  obtain ⟨fd26, f26⟩ := fun_at c 26
  have h__law_run := k__law_run (P := PP) (w := w) (base := base) B h__law_ends (He5.fun_of f26) (He.glo_ok X G (c.d.fact 23 (f := .glo "_law_run") rfl))
  obtain ⟨fd27, f27⟩ := fun_at c 27
  have h__law_collides := k__law_collides (P := PP) (w := w) (base := base) B h__law_planned h__law_run (He5.fun_of f27) (He.glo_ok X G (c.d.fact 24 (f := .glo "_law_collides") rfl))
  obtain ⟨fd28, f28⟩ := fun_at c 28
  have h__law_pair_right := k__law_pair_right (P := PP) (w := w) (base := base) B h__law_collides (He5.fun_of f28) (He.glo_ok X G (c.d.fact 25 (f := .glo "_law_pair_right") rfl))
  obtain ⟨fd29, f29⟩ := fun_at c 29
  have h__law_drawn_keys := k__law_drawn_keys (P := PP) (w := w) (base := base) B h__law_pick h__law_draw (He5.fun_of f29) (He.glo_ok X G (c.d.fact 26 (f := .glo "_law_drawn_keys") rfl))
  obtain ⟨fd30, f30⟩ := fun_at c 30
  have h__law_same := k__law_same (P := PP) (w := w) (base := base) B  (He5.fun_of f30) (He.glo_ok X G (c.d.fact 27 (f := .glo "_law_same") rfl))
  have hT_Formula := knT_of (c := "Formula") (cs := CS) (by decide +kernel) (He.glo_ok X G (c.d.fact 29 (f := .glo "Formula") rfl)) (ex_at c.more 20 rfl) q_Formula___init__
  obtain ⟨fd31, f31⟩ := fun_at c 31
  have h_law := k_law (P := PP) (w := w) (base := base) B h__law_cell_at h__law_pen h__law_numbers h__law_bounds hT_Formula hK_clash_1_scan_low_high h__law_safe h__law_pair_right h__law_drawn_keys h__law_collides h__law_same hK_clash_1_low_high hP_Formula_plus hP_Formula_times (He5.fun_of f31) (He.glo_ok X G (c.d.fact 28 (f := .glo "law") rfl))
  exact h_law
end Lw
namespace Lw
open L2 PySem.W Ma PySem.Spec PySem PyProof.Rows
end Lw
namespace Lw
open L2 Ma PySem.Spec PySem PyProof.Rows
/-! k01: what the machine does with the pen of a cell -/
abbrev pen (a b c : Int) : Cell := .lst [.int a, .int b, .int c]
structure PenK (a b c : Int) : Prop where
  a0 : 0 ≤ a
  b0 : 0 ≤ b
  b1 : b < 2147483647
  c0 : 0 ≤ c
/-- one cell is a pen -/
def IsPen (c : Cell) : Prop := ∃ a b d, c = pen a b d ∧ PenK a b d
theorem draw_at {n : Nat} {m : Int} {hp : List Cell} {c0 : Cell} (h : hp[n]? = some c0) (p0 : IsPen c0) (hm : 0 < m) (hm2 : m < 18446744073709551616) :
    ∃ d c', F__law_draw [.box n, .int m] hp = .ok (.int d) (hp.set n c') ∧ 0 ≤ d ∧ d < m ∧ IsPen c' := by
  obtain ⟨a, b, c, rfl, p⟩ := p0
  have hm3 := hm2
  obtain ⟨hn, hg⟩ := List.getElem?_eq_some_iff.mp h
  by_cases ha : 0 < a
  · refine ⟨a % m, pen (a / m) b c, ?_, Int.emod_nonneg _ (by omega), Int.emod_lt_of_pos _ hm, _, _, _, rfl, ⟨Int.ediv_nonneg p.a0 (by omega), p.b0, p.b1, p.c0⟩⟩
    simp [F__law_draw, m__law_draw, posF, bodyF, starF, sSeq, sIf, sSet, sRet, sNx, sAsg, sExpr, sForI, sPut, fPut, putFM, Ma.gSub, gSet, fSetL, fSetD, fSetI, dictL, dictOf, oIxD, m2, mv, mc, mB, isB, mNot, mAnd, mOr, mAndV, mNotV, mCons, mNil, mCall, mFn, upF, mLst, mTup, mFld, oFld, fldM, cInt, cLenD, cLen, cMax, oIx, seqL, lstOf, itemsOf, oInt, oGt, oLt, oAdd, oSub, oMul, oDivW, oMod, yes, Res.bind, atI, ixN, mYes, mAt, oPrp, isIns, noErr, mItems, iSeq, mChain, mNeg, oInD, oEqK, oEqD, datT, dat, datL, big, upP, pBl, pNot, pNat, pTru, cDun, oDunR, oDunC, oDunN, oDun, tin, tyAt, oDunBs, oDunRf, oMulL, cMin, oInL, oIsN, Ma.isNon, gUnpN, gTupN, setM, hg, ha, hm, hm2, hm3, hn]
  · have e1 : ∀ x y : Int, 0 < y → 0 ≤ x % y := fun x y hy => Int.emod_nonneg x (by omega)
    have e2 : ∀ x y : Int, 0 < y → x % y < y := fun x y hy => Int.emod_lt_of_pos x hy
    have b0 := e1 (b * 48271 + 7919 * (c + 1) + 11) 2147483647 (by decide)
    have b1 := e2 (b * 48271 + 7919 * (c + 1) + 11) 2147483647 (by decide)
    generalize hb : (b * 48271 + 7919 * (c + 1) + 11) % 2147483647 = b' at b0 b1
    have m1 : ∀ x : Int, mulOk x 48271 = true := fun x => decide_eq_true (Or.inr ⟨by decide, by decide⟩)
    have m2' : ∀ x : Int, mulOk x 16807 = true := fun x => decide_eq_true (Or.inr ⟨by decide, by decide⟩)
    have m3 : ∀ x : Int, mulOk 7919 x = true := fun x => decide_eq_true (Or.inl ⟨by decide, by decide⟩)
    have m4 : ∀ x : Int, mulOk 40014 x = true := fun x => decide_eq_true (Or.inl ⟨by decide, by decide⟩)
    have mo : mulOk b' b' = true := by unfold mulOk; exact decide_eq_true (Or.inl ⟨by omega, by omega⟩)
    refine ⟨((b' * b' + 40014 * b' + (c + 1)) % 2147483563 * 16807 % 2147483647 / 64) % m, pen a b' (c + 1), ?_, e1 _ _ hm, e2 _ _ hm, _, _, _, rfl, ⟨p.a0, b0, b1, by have := p.c0; omega⟩⟩
    simp [F__law_draw, m__law_draw, posF, bodyF, starF, sSeq, sIf, sSet, sRet, sNx, sAsg, sExpr, sForI, sPut, fPut, putFM, Ma.gSub, gSet, fSetL, fSetD, fSetI, dictL, dictOf, oIxD, m2, mv, mc, mB, isB, mNot, mAnd, mOr, mAndV, mNotV, mCons, mNil, mCall, mFn, upF, mLst, mTup, mFld, oFld, fldM, cInt, cLenD, cLen, cMax, oIx, seqL, lstOf, itemsOf, oInt, oGt, oLt, oAdd, oSub, oMul, oDivW, oMod, yes, Res.bind, atI, ixN, mYes, mAt, oPrp, isIns, noErr, mItems, iSeq, mChain, mNeg, oInD, oEqK, oEqD, datT, dat, datL, big, upP, pBl, pNot, pNat, pTru, cDun, oDunR, oDunC, oDunN, oDun, tin, tyAt, oDunBs, oDunRf, oMulL, cMin, oInL, oIsN, Ma.isNon, gUnpN, gTupN, setM, hg, ha, hm, hm2, hm3, hn, hb, m1, m2', m3, m4, mo]
theorem pick_at {n : Nat} {hp : List Cell} {ms : List M} {c0 : Cell} (h : hp[n]? = some c0) (p : IsPen c0) (h0 : 0 < ms.length) (h1 : (ms.length : Int) < 1073741824) :
    ∃ m c', m ∈ ms ∧ F__law_pick [.box n, .lst ms] hp = .ok m (hp.set n c') ∧ IsPen c' := by
  obtain ⟨d, c', e, d0, d1, p'⟩ := draw_at h p (m := (ms.length : Int)) (by omega) (by omega)
  have hd : d.toNat < ms.length := by omega
  refine ⟨ms[d.toNat], c', List.getElem_mem hd, ?_, p'⟩
  simp [F__law_pick, m__law_pick, posF, bodyF, starF, sSeq, sIf, sSet, sRet, sNx, sAsg, sExpr, sForI, sPut, fPut, putFM, Ma.gSub, gSet, fSetL, fSetD, fSetI, dictL, dictOf, oIxD, m2, mv, mc, mB, isB, mNot, mAnd, mOr, mAndV, mNotV, mCons, mNil, mCall, mFn, upF, mLst, mTup, mFld, oFld, fldM, cInt, cLenD, cLen, cMax, oIx, seqL, lstOf, itemsOf, oInt, oGt, oLt, oAdd, oSub, oMul, oDivW, oMod, yes, Res.bind, atI, ixN, mYes, mAt, oPrp, isIns, noErr, mItems, iSeq, mChain, mNeg, oInD, oEqK, oEqD, datT, dat, datL, big, upP, pBl, pNot, pNat, pTru, cDun, oDunR, oDunC, oDunN, oDun, tin, tyAt, oDunBs, oDunRf, oMulL, cMin, oInL, oIsN, Ma.isNon, gUnpN, gTupN, setM, e, d0, d1, hd]
theorem pen_of (i : Int) : IsPen (pen (if i - 10 ^ 18 > 0 then i - 10 ^ 18 else 0) (i % 2147483629) 1) :=
  ⟨_, _, _, rfl, ⟨by split <;> omega, by omega, by omega, by omega⟩⟩
theorem pen_at {i : Int} {hp : List Cell} : F__law_pen [.int i] hp = .ok (.box hp.length) (hp ++ [pen (if i - 10 ^ 18 > 0 then i - 10 ^ 18 else 0) (i % 2147483629) 1]) := by kernel_rfl
end Lw
namespace Lw
open L2 Ma PySem.Spec PySem PyProof.Rows
theorem fnE {ma : MA} {F : Fn} {env : List (Option M)} {hp0 hp1 hp2 : List Cell} {ms : List M} {m : M} (h : ma ⟨env, hp0⟩ = .ok ms ⟨env, hp1⟩) (hf : F ms hp1 = .ok m hp2) : mFn ma F ⟨env, hp0⟩ = .ok m ⟨env, hp2⟩ := by
  unfold mFn; rw [h]; show upF env (F ms hp1) = _; rw [hf]; rfl
theorem eq_int {i j : Int} {s : MS} : oEqK false (oEqD false) (.int i) (.int j) s = .ok (.bl (i == j)) s := by rfl
theorem and_tt {t u : MT} {s s1 : MS} (h : t s = .ok true s1) : mAnd t u s = u s1 := by unfold mAnd; rw [h]; rfl
theorem mif_of {t : MT} {a b : ME} {s s1 : MS} {q : Bool} (h : t s = .ok q s1) : mIf t a b s = if q = true then a s1 else b s1 := by unfold mIf; rw [h]; rfl
theorem oAdd_lst {xs ys : List M} (h : xs.length + ys.length ≤ big) {s : MS} : oAdd (.lst xs) (.lst ys) s = .ok (.lst (xs ++ ys)) s := if_pos h
def DatOk (m : M) : Prop := ∃ d, dat m = some d ∧ d.canLay0 = true ∧ d.depth ≤ 10
theorem datL_ok : ∀ {ms : List M}, (∀ m ∈ ms, DatOk m) → ∃ ds, datL ms = some ds ∧ PyData.canLayAll0 ds = true ∧ PyData.depthAll ds ≤ 10 ∧ ds.length = ms.length
  | [], _ => ⟨[], rfl, rfl, Nat.zero_le _, rfl⟩
  | m :: ms, h => by
    obtain ⟨d, h1, h2, h3⟩ := h m (by simp)
    obtain ⟨ds, e1, e2, e3, e4⟩ := datL_ok (ms := ms) fun x hx => h x (by simp [hx])
    refine ⟨d :: ds, ?_, ?_, ?_, by rw [List.length_cons, List.length_cons, e4]⟩
    · show (match dat m, datL ms with | some d, some ds => some (d :: ds) | _, _ => none) = _
      rw [h1, e1]
    · simp [PyData.canLayAll0, h2, e2]
    · simp only [PyData.depthAll]; omega
theorem dat_int (i : Int) : DatOk (.int i) := ⟨_, rfl, rfl, Nat.zero_le _⟩
theorem datL_ints : ∀ l : List Int, datL (l.map M.int) = some (l.map PyData.int)
  | [] => by simp [datL]
  | x :: l => by simp [datL, dat, datL_ints l]
open PySem.W in
theorem sortD_ints {l m : List Int} (hp : l.Perm m) (hs : m.Pairwise (· ≤ ·)) {s : MS} : cSortD [.lst (l.map M.int)] s = .ok (.lst (m.map M.int)) s := by
  unfold cSortD
  dsimp only
  rw [show lstOf s.hp (.lst (l.map M.int)) = some (l.map M.int) from rfl]
  dsimp only
  rw [datL_ints]
  dsimp only
  have ok : sortOk (l.map PyData.int) = true := by
    unfold sortOk
    rw [Bool.and_eq_true, Bool.and_eq_true, Bool.or_eq_true]
    refine ⟨⟨List.all_eq_true.mpr fun d hd => List.all_eq_true.mpr fun e he => ?_, .inr (List.all_eq_true.mpr fun d hd => ?_)⟩, List.all_eq_true.mpr fun d hd => ?_⟩
    · obtain ⟨a, _, rfl⟩ := List.mem_map.mp hd
      obtain ⟨b, _, rfl⟩ := List.mem_map.mp he
      simp [alike]
    · obtain ⟨a, _, rfl⟩ := List.mem_map.mp hd
      rfl
    · obtain ⟨a, _, rfl⟩ := List.mem_map.mp hd
      rfl
  rw [if_pos ok]
  have ez : ∀ L : List Int, (L.map M.int).zip (L.map PyData.int) = L.map fun i => (M.int i, PyData.int i) := fun L => by
    induction L with
    | nil => rfl
    | cons l L ih => rw [List.map_cons, List.map_cons, List.zip_cons_cons, ih]; rfl
  have e2 : (l.mergeSort (dataLe false PyData.int)).map (fun i => (M.int i, PyData.int i)) = (l.map fun i => (M.int i, PyData.int i)).mergeSort leMD := sort_maps _ fun a _ b _ => rfl
  have le_iff : ∀ a b : Int, dataLe false PyData.int a b = true ↔ a ≤ b := fun a b => by
    rw [dataLe_eq]
    show (!dataLt (PyData.int b) (PyData.int a)) = true ↔ _
    rw [dataLt_int]
    simp
  have e3 : m = l.mergeSort (dataLe false PyData.int) := by
    refine List.Perm.eq_of_pairwise (le := fun a b => dataLe false PyData.int a b = true) (fun a b _ _ h1 h2 => ?_) (hs.imp fun {a b} h => (le_iff a b).mpr h) (sort_pairwise (sortLe_total _ _ _) l) (hp.symm.trans (List.mergeSort_perm l _).symm)
    exact Int.le_antisymm ((le_iff a b).mp h1) ((le_iff b a).mp h2)
  rw [ez, ← e2, ← e3, List.map_map]
  rfl
theorem reprS_eq {x : M} {s : MS} (h1 : ∀ z, x ≠ .str z) (h2 : ∀ b, x ≠ .bl b) (h3 : x ≠ .non) : cReprS cRepr [x] s = cRepr [x] s := by
  cases x <;> first | rfl | exact absurd rfl (h1 _) | exact absurd rfl (h2 _) | exact absurd rfl h3
theorem reprS_seq {x : M} {d : PyData} {s : MS} (hx : datT s.hp x = some d) (hs : isSeqD d = true) : cReprS cRepr [x] s = cRepr [x] s := by
  refine reprS_eq (fun z e => ?_) (fun b e => ?_) fun e => ?_
  all_goals
    subst e
    cases hx
    cases hs
theorem same_str {x y : M} {z : Str} {hp : List Cell} (h1 : ∀ env, cReprS cRepr [x] ⟨env, hp⟩ = .ok (.str z) ⟨env, hp⟩) (h2 : ∀ env, cReprS cRepr [y] ⟨env, hp⟩ = .ok (.str z) ⟨env, hp⟩) (lz : lowS z) : F__law_same [x, y] hp = .ok (.bl true) hp := by
  refine body_rt (s' := ⟨[some x, some y], hp⟩) (ret_of (m2_of (x := .str z) (y := .str z) (s1 := ⟨[some x, some y], hp⟩) (s2 := ⟨[some x, some y], hp⟩) (call_of (mone rfl) (h1 _)) (call_of (mone rfl) (h2 _)) ?_))
  show oEqD false (.str z) (.str z) _ = _
  rw [oEqD_str lz lz]
  simp
theorem same_okd {x y : M} {d : PyData} {k w : Nat} {hp : List Cell} (hx : datT hp x = some d) (hy : datT hp y = some d) (hs : isSeqD d = true) (h : Okd d k w) (hk : k ≤ 64) (hw : w ≤ 200000) : F__law_same [x, y] hp = .ok (.bl true) hp :=
  same_str (fun env => (reprS_seq (s := ⟨env, hp⟩) hx hs).trans (cRepr_seq hx hs h hk hw)) (fun env => (reprS_seq (s := ⟨env, hp⟩) hy hs).trans (cRepr_seq hy hs h hk hw)) h.low
theorem lt_of {hp : List Cell} {n : Nat} {c : Cell} (h : hp[n]? = some c) : n < hp.length := (List.getElem?_eq_some_iff.mp h).1
theorem or_t' {t u : MT} {s s1 : MS} (h : t s = .ok true s1) : mOr t u s = .ok true s1 := by unfold mOr; rw [h]; rfl
end Lw
namespace Lw
open L2 Ma PySem.Spec PySem PyProof.Rows
/-! formulas, keys, what is refused -/
section
variable {hp B : List Cell} {n : Nat} {c : Cell} {t p : Int} {env : List (Option M)} {y z m a0 a1 a2 a3 a4 : M} {K : List Int} {neg : Bool}
abbrev fr (t p : Int) : Cell := .ins "Formula" [("_times", .int t), ("_plus", .int p)]
theorem numbers_at (h : hp[n]? = some c) (p : IsPen c) :
    ∃ t q c', F__law_numbers [.box n] hp = .ok (.tup [.int t, .int q]) (hp.set n c') ∧ (-10 ^ 15 < t ∧ t < 10 ^ 15) ∧ (-10 ^ 15 < q ∧ q < 10 ^ 15) ∧ IsPen c' := by
  obtain ⟨hn, hg⟩ := List.getElem?_eq_some_iff.mp h
  have gs : ∀ (l : List Cell) (x : Cell), n < l.length → (l.set n x)[n]? = some x := fun l x hl => List.getElem?_set_self hl
  obtain ⟨d, c1, e1, d0, d1, p1⟩ := draw_at h p (m := 99) (by decide) (by decide)
  have h1 := gs hp c1 hn
  obtain ⟨m, c2, hm, e2, p2⟩ := pick_at (ms := [.int 1, .int 1, .int 1, .int 0, .int (-1), .int 2, .int (-2), .int 3, .int (-3), .int (d - 49), .int (10 ^ 15 - 1), .int (1 - 10 ^ 15)]) h1 p1 (by simp) (by simp)
  have h2 := gs (hp.set n c1) c2 (by simpa using hn)
  obtain ⟨d', c3, e3, d0', d1', p3⟩ := draw_at h2 p2 (m := 30) (by decide) (by decide)
  have h3 := gs ((hp.set n c1).set n c2) c3 (by simpa using hn)
  obtain ⟨d2, c4, e4, d02, d12, p4⟩ := draw_at h3 p3 (m := 10 ^ 12) (by decide) (by decide)
  have h4 := gs (((hp.set n c1).set n c2).set n c3) c4 (by simpa using hn)
  obtain ⟨m', c5, hm', e5, p5⟩ := pick_at (ms := [.int 0, .int 1, .int (-1), .int (d' - 15), .int d2, .int (10 ^ 15 - 1), .int (1 - 10 ^ 15)]) h4 p4 (by simp) (by simp)
  have hk : ∃ t : Int, m = .int t ∧ (-10 ^ 15 < t ∧ t < 10 ^ 15) := by
    simp only [List.mem_cons, List.not_mem_nil, or_false] at hm
    rcases hm with rfl | rfl | rfl | rfl | rfl | rfl | rfl | rfl | rfl | rfl | rfl | rfl <;> exact ⟨_, rfl, by omega⟩
  have hk' : ∃ t : Int, m' = .int t ∧ (-10 ^ 15 < t ∧ t < 10 ^ 15) := by
    simp only [List.mem_cons, List.not_mem_nil, or_false] at hm'
    rcases hm' with rfl | rfl | rfl | rfl | rfl | rfl | rfl <;> exact ⟨_, rfl, by omega⟩
  obtain ⟨t, rfl, ht⟩ := hk
  obtain ⟨q, rfl, hq⟩ := hk'
  refine ⟨t, q, c5, ?_, ht, hq, p5⟩
  have z15 : (10 : Int) ^ 15 = 1000000000000000 := by decide
  have z12 : (10 : Int) ^ 12 = 1000000000000 := by decide
  have w1 : (1000000000000000 : Int) - 1 = 999999999999999 := by decide
  have w2 : (1 : Int) - 1000000000000000 = -999999999999999 := by decide
  simp only [z12, z15, w1, w2, List.set_set] at e1 e2 e3 e4 e5
  simp [F__law_numbers, m__law_numbers, posF, bodyF, sSeq, sSet, sRet, m2, mv, mc, mNeg, mFn, upF, mCons, mNil, mLst, mTup, oInt, oSub, oMul, oPow, yes, Res.bind, big, e1, e2, e3, e4, e5]
theorem int_int {i : Int} {hp : List Cell} : F_is_integer [.int i] hp = .ok (.bl true) hp := by kernel_rfl
theorem z15 : (10 : Int) ^ 15 = 1000000000000000 := by decide
theorem small_int {i : Int} {hp : List Cell} : F_is_small [.int i] hp = .ok (.bl (decide (-10 ^ 15 < i ∧ i < 10 ^ 15))) hp := by
  rw [z15]
  by_cases h : -1000000000000000 < i <;> by_cases h2 : i < 1000000000000000 <;> simp [F_is_small, m_is_small, posF, bodyF, sRet, mAndV, mFn, mCons, mNil, mv, mc, Res.bind, upF, int_int, mChain, mNeg, oLt, oInt, yes, h, h2]
theorem init_ok {b : Nat} (h : hp[b]? = some (.ins "Formula" [])) (h1 : -10 ^ 15 < t ∧ t < 10 ^ 15) (h2 : -10 ^ 15 < p ∧ p < 10 ^ 15) : F_Formula___init__ [.box b, .int t, .int p] hp = .ok .non (hp.set b (fr t p)) := by
  obtain ⟨hn, hg⟩ := List.getElem?_eq_some_iff.mp h
  have e1 := small_int (i := t) (hp := hp)
  have e2 := small_int (i := p) (hp := hp)
  rw [decide_eq_true h1] at e1
  rw [decide_eq_true h2] at e2
  simp [F_Formula___init__, m_Formula___init__, posF, bodyF, sSeq, sIf, mOr, mNot, mB, isB, mFn, mCons, mNil, mv, mc, Res.bind, upF, int_int, e1, e2, sNx, sPut, fPut, hg, hn, putFM, List.set_set]
  rw [if_neg (by decide)]
theorem mk_ok {ma : MA} {s s1 : MS} (h : ma s = .ok [.int t, .int p] s1) (h1 : -10 ^ 15 < t ∧ t < 10 ^ 15) (h2 : -10 ^ 15 < p ∧ p < 10 ^ 15) :
    mMk "Formula" F_Formula___init__ ma s = .ok (.box s1.hp.length) ⟨s1.env, s1.hp ++ [fr t p]⟩ := by
  unfold mMk
  rw [h]
  show mkM "Formula" F_Formula___init__ [.int t, .int p] s1 = _
  unfold mkM
  rw [init_ok (by simp) h1 h2]
  simp
theorem isf_f (hf : hp[n]? = some (fr t p)) {env : List (Option M)} : cIsi IS XS isi [.box n, .cls "Formula"] ⟨env, hp⟩ = .ok (.bl true) ⟨env, hp⟩ := by
  have h2 : tgOf IS XS hp (.box n) = some (.own "Formula") := by
    show (match hp[n]? with | some (.lst _) => some (Tg.bi "list") | some (.dK _) => some (.bi "dict") | some (.ins c _) => if IS.contains c then some (.own c) else none | _ => none) = _
    rw [hf]; kernel_rfl
  show (match tgOf IS XS hp (.box n), clOf (.cls "Formula") with | some t, some u => (match isi t u with | some b => Res.ok (M.bl b) _ | none => .stuck) | _, _ => .stuck) = _
  rw [h2]; kernel_rfl
theorem form_ok (hf : hp[n]? = some (fr t p)) : F_check_formula [.box n] hp = .ok .non hp := by
  have h := isf_f hf (env := [some (.box n)])
  simp [F_check_formula, m_check_formula, posF, bodyF, sIf, mNot, mB, isB, mCall, mCons, mNil, mv, mc, Res.bind, h, sNx]
theorem for_nx1 {tg : MG} {b : MStm} {x : M} {xs : List M} {s s1 s2 : MS} (h1 : tg x s = .ok () s1) (h2 : b s1 = .ok .nx s2) : sFor tg b (x :: xs) s = sFor tg b xs s2 := by
  rw [sFor]; dsimp only; rw [h1]; show (b s1).bind _ = _; rw [h2]; rfl
theorem ins_is (h : hp[n]? = some (fr t p)) : isIns "Formula" (.box n) ⟨env, hp⟩ = true := by
  simp [isIns, h]
theorem fld_t (hf : hp[n]? = some (fr t p)) {i : Nat} (hi : env[i]? = some (some (.box n))) : mFld ["Formula"] [] "_times" (mv i) ⟨env, hp⟩ = .ok (.int t) ⟨env, hp⟩ := by
  unfold mFld mv
  rw [hi]
  show oFld ["Formula"] [] "_times" (.box n) ⟨env, hp⟩ = _
  unfold oFld fldM
  simp only [hf]
  rfl
theorem fld_p (hf : hp[n]? = some (fr t p)) {i : Nat} (hi : env[i]? = some (some (.box n))) : mFld ["Formula"] [] "_plus" (mv i) ⟨env, hp⟩ = .ok (.int p) ⟨env, hp⟩ := by
  unfold mFld mv
  rw [hi]
  show oFld ["Formula"] [] "_plus" (.box n) ⟨env, hp⟩ = _
  unfold oFld fldM
  simp only [hf]
  rfl
theorem times_f (hf : hp[n]? = some (fr t p)) : F_Formula_times [.box n] hp = .ok (.int t) hp := by
  have a0 := fld_t hf (env := [some (.box n)]) (i := 0) rfl
  simp [F_Formula_times, m_Formula_times, posF, bodyF, sRet, Res.bind, a0]
theorem plus_f (hf : hp[n]? = some (fr t p)) : F_Formula_plus [.box n] hp = .ok (.int p) hp := by
  have a0 := fld_p hf (env := [some (.box n)]) (i := 0) rfl
  simp [F_Formula_plus, m_Formula_plus, posF, bodyF, sRet, Res.bind, a0]
theorem prp_t (hf : hp[n]? = some (fr t p)) {o : M → MS → Res M} : oPrp "Formula" F_Formula_times o (.box n) ⟨env, hp⟩ = .ok (.int t) ⟨env, hp⟩ := by
  unfold oPrp
  rw [if_pos (ins_is hf)]
  show noErr (upF env (F_Formula_times [.box n] hp)) = _
  rw [times_f hf]; rfl
theorem prp_p (hf : hp[n]? = some (fr t p)) {o : M → MS → Res M} : oPrp "Formula" F_Formula_plus o (.box n) ⟨env, hp⟩ = .ok (.int p) ⟨env, hp⟩ := by
  unfold oPrp
  rw [if_pos (ins_is hf)]
  show noErr (upF env (F_Formula_plus [.box n] hp)) = _
  rw [plus_f hf]; rfl
end
end Lw
namespace Lw
/-! scans and linear functions -/
inductive Way where
  | up | down | far | near
  deriving DecidableEq
def WI : Option Int → Option Int → Int → Prop
  | none, none, _ => True
  | some l, none, x => l ≤ x
  | none, some h, x => x ≤ h
  | some l, some h, x => l ≤ x ∧ x ≤ h
def VB : Way → Int → Int → Int → Prop
  | .down, _, n, x => x < n
  | .up, _, n, x => n < x
  | .far, t, n, x => ((t = 1 ∨ t = -1) ∧ n < x) ∨ ¬(t = 1 ∨ t = -1)
  | .near, t, n, x => (t = 1 ∨ t = -1) ∧ n < x
/-- the row at x meets a conflict with one at its new key -/
def Cfl (t q : Int) (w : Way) (lo hi : Option Int) (x : Int) : Prop := t * x + q ≠ x ∧ ((t = 0 ∨ t = -1) ∨ ¬WI lo hi (t * x + q) ∨ ¬VB w t (t * x + q) x)
def fsE : Option Int → Int → Int
  | none, f => -f
  | some l, f => if l < -f then -f else l
def lsE : Option Int → Int → Int
  | none, f => f
  | some h, f => if f < h then f else h
def Sfe (t q : Int) (w : Way) (lo hi : Option Int) (f : Int) : Prop := lsE hi f < fsE lo f ∨ (¬Cfl t q w lo hi (fsE lo f) ∧ ¬Cfl t q w lo hi (lsE hi f))
theorem mul_up {t u v : Int} (ht : 2 ≤ t) (h : u ≤ v) : t * u + 2 * (v - u) ≤ t * v := by
  have : 2 * (v - u) ≤ t * (v - u) := Int.mul_le_mul_of_nonneg_right ht (by omega)
  rw [Int.mul_sub t v u] at this
  omega
theorem mul_dn {t u v : Int} (ht : t ≤ -2) (h : u ≤ v) : t * v + 2 * (v - u) ≤ t * u := by
  have : 2 * (v - u) ≤ (-t) * (v - u) := Int.mul_le_mul_of_nonneg_right (by omega) (by omega)
  rw [Int.mul_sub (-t) v u, Int.neg_mul, Int.neg_mul] at this
  omega
theorem t_cases (t : Int) : t = 0 ∨ t = 1 ∨ t = -1 ∨ 2 ≤ t ∨ t ≤ -2 := by omega
theorem mt_mid {t q x u v : Int} {w : Way} {lo hi : Option Int} (h1 : ¬Cfl t q w lo hi u) (h2 : ¬Cfl t q w lo hi v) (hu : WI lo hi u) (hv : WI lo hi v) (a : u ≤ x) (b : x ≤ v) : ¬Cfl t q w lo hi x := by
  rcases t_cases t with rfl | rfl | rfl | ht | ht
  · simp [Cfl] at h1 h2 ⊢
    omega
  · unfold Cfl at *
    cases lo <;> cases hi <;> cases w <;> simp [WI, VB] at h1 h2 hu hv ⊢ <;> omega
  · simp [Cfl] at h1 h2 ⊢
    omega
  · have e1 := mul_up ht a
    have e2 := mul_up ht b
    unfold Cfl at *
    generalize t * x = y at *
    generalize t * u = y1 at *
    generalize t * v = y2 at *
    have n0 : ¬ t = 0 := by omega
    have n1 : ¬ t = 1 := by omega
    have n2 : ¬ t = -1 := by omega
    cases lo <;> cases hi <;> cases w <;> simp [WI, VB, n0, n1, n2] at h1 h2 hu hv ⊢ <;> omega
  · have e1 := mul_dn ht a
    have e2 := mul_dn ht b
    unfold Cfl at *
    generalize t * x = y at *
    generalize t * u = y1 at *
    generalize t * v = y2 at *
    have n0 : ¬ t = 0 := by omega
    have n1 : ¬ t = 1 := by omega
    have n2 : ¬ t = -1 := by omega
    cases lo <;> cases hi <;> cases w <;> simp [WI, VB, n0, n1, n2] at h1 h2 hu hv ⊢ <;> omega
theorem sf_anti {t q f g : Int} {w : Way} {lo hi : Option Int} (f0 : 0 ≤ f) (fg : f ≤ g) (h : Sfe t q w lo hi g) : Sfe t q w lo hi f := by
  by_cases e : lsE hi f < fsE lo f
  · exact .inl e
  · have a1 : fsE lo g ≤ fsE lo f ∧ lsE hi f ≤ lsE hi g ∧ WI lo hi (fsE lo g) ∧ WI lo hi (lsE hi g) := by
      clear h
      cases lo <;> cases hi <;> simp only [fsE, lsE, WI] at e ⊢ <;> refine ⟨?_, ?_, ?_⟩ <;> (try trivial) <;> (try (refine ⟨?_, ?_⟩)) <;> (try trivial) <;> (try omega) <;> (repeat' split) <;> (try omega) <;> (try (split at e)) <;> (try omega) <;> (try (split at e)) <;> (try omega)
    rcases h with h | ⟨h1, h2⟩
    · omega
    · exact .inr ⟨mt_mid h1 h2 a1.2.2.1 a1.2.2.2 (by omega) (by omega), mt_mid h1 h2 a1.2.2.1 a1.2.2.2 (by omega) (by omega)⟩
def LS (t q : Int) (w : Way) : Option Int → Option Int → Prop
  | none, none => (t = 1 ∧ q = 0) ∨ (t = 1 ∧ ((q > 0 ∧ w = .down) ∨ (q < 0 ∧ w ≠ .down))) ∨ (¬(-2 < t ∧ t < 2) ∧ w = .far)
  | some l, none => (t = 1 ∧ q = 0) ∨ (t = 1 ∧ q > 0 ∧ w = .down) ∨ (2 ≤ t ∧ t * l + q ≥ l ∧ (w = .down ∨ w = .far))
  | none, some h => (t = 1 ∧ q = 0) ∨ (t = 1 ∧ q < 0 ∧ w ≠ .down) ∨ (2 ≤ t ∧ t * h + q ≤ h ∧ (w = .up ∨ w = .far))
  | some l, some h => l > h ∨ (t = 1 ∧ q = 0) ∨ (l = h ∧ t * l + q = l)
theorem sf_law {t q : Int} {w : Way} {lo hi : Option Int} (ht : -1000000000000000 < t ∧ t < 1000000000000000) (hq : -1000000000000000 < q ∧ q < 1000000000000000)
    (hl : ∀ l, lo = some l → -1000000000000000 ≤ l ∧ l ≤ 1000000000000000) (hh : ∀ h, hi = some h → -1000000000000000 ≤ h ∧ h ≤ 1000000000000000) : Sfe t q w lo hi 18014398509481984 ↔ LS t q w lo hi := by
  cases lo with
  | none =>
    cases hi with
    | none =>
      unfold Sfe LS Cfl
      simp only [fsE, lsE, WI]
      rcases t_cases t with rfl | rfl | rfl | h2 | h2 <;> cases w <;> simp [VB] <;> omega
    | some h =>
      have b := hh h rfl
      have e : lsE (some h) 18014398509481984 = h := by simp only [lsE]; rw [if_neg (by omega)]
      unfold Sfe LS Cfl
      rw [e]
      simp only [fsE, WI]
      generalize hy : t * h = y at *
      rcases t_cases t with rfl | rfl | rfl | h2 | h2 <;> cases w <;> simp [VB] <;> omega
  | some l =>
    have a := hl l rfl
    have e1 : fsE (some l) 18014398509481984 = l := by simp only [fsE]; rw [if_neg (by omega)]
    cases hi with
    | none =>
      unfold Sfe LS Cfl
      rw [e1]
      simp only [lsE, WI]
      generalize hy : t * l = y at *
      rcases t_cases t with rfl | rfl | rfl | h2 | h2 <;> cases w <;> simp [VB] <;> omega
    | some h =>
      have b := hh h rfl
      have e : lsE (some h) 18014398509481984 = h := by simp only [lsE]; rw [if_neg (by omega)]
      unfold Sfe LS Cfl
      rw [e, e1]
      simp only [WI]
      by_cases lh : l ≤ h
      · rcases t_cases t with rfl | rfl | rfl | h2 | h2
        · cases w <;> simp [VB] <;> omega
        · cases w <;> simp [VB] <;> omega
        · cases w <;> simp [VB] <;> omega
        · have m := mul_up h2 lh
          by_cases e5 : l = h
          · subst e5
            generalize t * l = y at *
            cases w <;> simp [VB] <;> omega
          · generalize t * l = y at *
            generalize t * h = z at *
            cases w <;> simp [VB] <;> omega
        · have m := mul_dn h2 lh
          by_cases e5 : l = h
          · subst e5
            generalize t * l = y at *
            cases w <;> simp [VB] <;> omega
          · generalize t * l = y at *
            generalize t * h = z at *
            cases w <;> simp [VB] <;> omega
      · constructor
        · intro _; exact .inl (by omega)
        · intro _; exact .inl (by omega)
end Lw
namespace Lw
open L2 Ma PySem.Spec PySem PyProof.Rows
/-! what the program asks of a scan -/
instance {lo hi : Option Int} {x : Int} : Decidable (WI lo hi x) := by cases lo <;> cases hi <;> (unfold WI; infer_instance)
instance {w : Way} {t n x : Int} : Decidable (VB w t n x) := by cases w <;> (unfold VB; infer_instance)
instance {t q : Int} {w : Way} {lo hi : Option Int} {x : Int} : Decidable (Cfl t q w lo hi x) := by unfold Cfl; infer_instance
instance {t q : Int} {w : Way} {lo hi : Option Int} {f : Int} : Decidable (Sfe t q w lo hi f) := by unfold Sfe; infer_instance
def wS : Way → Str
  | .up => "up"
  | .down => "down"
  | .far => "far"
  | .near => "near"
def oM : Option Int → M
  | none => .non
  | some i => .int i
def T15 (t : Int) : Prop := -1000000000000000 < t ∧ t < 1000000000000000
section
variable {hp : List Cell} {n : Nat} {t q x y f : Int} {w : Way} {lo hi : Option Int} {env : List (Option M)} {s s1 : MS}
theorem andv_d {a b : ME} {p r : Prop} [Decidable p] [Decidable r] (h1 : a s = .ok (.bl (decide p)) s) (h2 : b s = .ok (.bl (decide r)) s) : mAndV a b s = .ok (.bl (decide (p ∧ r))) s := by
  by_cases hp' : p
  · rw [decide_eq_true hp'] at h1
    rw [(andv_t h1).trans h2]
    by_cases hr : r
    · rw [decide_eq_true hr, decide_eq_true ⟨hp', hr⟩]
    · rw [decide_eq_false hr, decide_eq_false (fun z => hr z.2)]
  · rw [decide_eq_false hp'] at h1
    rw [andv_f h1, decide_eq_false (fun z => hp' z.1)]
theorem orv_t' {a b : ME} (h1 : a s = .ok (.bl true) s) : mOrV a b s = .ok (.bl true) s := by unfold mOrV; rw [h1]; rfl
theorem orv_f' {a b : ME} (h1 : a s = .ok (.bl false) s) : mOrV a b s = b s := by unfold mOrV; rw [h1]; rfl
theorem orv_d {a b : ME} {p r : Prop} [Decidable p] [Decidable r] (h1 : a s = .ok (.bl (decide p)) s) (h2 : b s = .ok (.bl (decide r)) s) : mOrV a b s = .ok (.bl (decide (p ∨ r))) s := by
  by_cases hp' : p
  · rw [decide_eq_true hp'] at h1
    rw [orv_t' h1, decide_eq_true (.inl hp')]
  · rw [decide_eq_false hp'] at h1
    rw [(orv_f' h1).trans h2]
    by_cases hr : r
    · rw [decide_eq_true hr, decide_eq_true (.inr hr)]
    · rw [decide_eq_false hr, decide_eq_false (fun z => z.elim hp' hr)]
theorem or_d {a b : MT} {p r : Prop} [Decidable p] [Decidable r] (h1 : a s = .ok (decide p) s) (h2 : b s = .ok (decide r) s) : mOr a b s = .ok (decide (p ∨ r)) s := by
  by_cases hp' : p
  · rw [decide_eq_true hp'] at h1
    rw [decide_eq_true (.inl hp' : p ∨ r)]
    unfold mOr; rw [h1]; rfl
  · rw [decide_eq_false hp'] at h1
    rw [(or_f h1).trans h2]
    by_cases hr : r
    · rw [decide_eq_true hr, decide_eq_true (.inr hr)]
    · rw [decide_eq_false hr, decide_eq_false (fun z => z.elim hp' hr)]
theorem bl_iff {p r : Prop} [Decidable p] [Decidable r] (h : p ↔ r) : M.bl (decide p) = M.bl (decide r) := by rw [decide_eq_decide.mpr h]
theorem within_at : F_is_within [.int x, oM lo, oM hi] hp = .ok (.bl (decide (WI lo hi x))) hp := by
  refine (show F_is_within [.int x, oM lo, oM hi] hp = bodyF 3 3 m_is_within [.int x, oM lo, oM hi] hp from rfl).trans (body_rt (s' := ⟨[some (.int x), some (oM lo), some (oM hi)], hp⟩) (ret_of ?_))
  have a : mOrV (m2 (oIsN false) (mv 1) (mc .non)) (m2 oLe (mv 1) (mv 0)) ⟨[some (.int x), some (oM lo), some (oM hi)], hp⟩ = .ok (.bl (decide (WI lo none x))) ⟨[some (.int x), some (oM lo), some (oM hi)], hp⟩ := by
    cases lo with
    | none => exact orv_t' rfl
    | some l => exact (orv_f' rfl).trans rfl
  have b : mOrV (m2 (oIsN false) (mv 2) (mc .non)) (m2 oLe (mv 0) (mv 2)) ⟨[some (.int x), some (oM lo), some (oM hi)], hp⟩ = .ok (.bl (decide (WI none hi x))) ⟨[some (.int x), some (oM lo), some (oM hi)], hp⟩ := by
    cases hi with
    | none => exact orv_t' rfl
    | some l => exact (orv_f' rfl).trans rfl
  refine (andv_d a b).trans ?_
  rw [bl_iff (p := WI lo none x ∧ WI none hi x) (r := WI lo hi x) (by cases lo <;> cases hi <;> simp [WI])]
theorem newk_at (hf : hp[n]? = some (fr t q)) (ht : T15 t) : F_new_key [.box n, .int x] hp = .ok (.int (t * x + q)) hp := by
  have mo : mulOk t x = true := decide_eq_true (Or.inl ⟨by have := ht.1; omega, by have := ht.2; omega⟩)
  exact (show F_new_key [.box n, .int x] hp = bodyF 2 2 m_new_key [.box n, .int x] hp from rfl).trans (body_rt (s' := ⟨[some (.box n), some (.int x)], hp⟩)
    (ret_of (m2_of (m2_of ((Ma.at_of (mv_of rfl)).trans (prp_t hf)) (mv_of rfl) (if_pos mo)) ((Ma.at_of (mv_of rfl)).trans (prp_p hf)) rfl)))
theorem abs_one : (absI t == 1) = decide (t = 1 ∨ t = -1) := by
  unfold absI
  by_cases h : t < 0
  · rw [if_pos h]
    by_cases e : t = -1
    · subst e; rfl
    · rw [decide_eq_false (by omega)]
      exact beq_eq_false_iff_ne.mpr (by omega)
  · rw [if_neg h]
    by_cases e : t = 1
    · subst e; rfl
    · rw [decide_eq_false (by omega)]
      exact beq_eq_false_iff_ne.mpr (by omega)
def vb1 : MStm := (sIf (mB (m2 (oEqK false (oEqD false)) (mv 3) (mc (.str "down")))) (sRet (m2 oGt (mv 0) (mv 1))) sNx)
abbrev vbT : MT := (mOr (mB (m2 (oEqK false (oEqD false)) (mv 3) (mc (.str "up")))) (mB (m2 (oEqK false (oEqD false)) (mCall (mCons (mAt (mv 2) (oPrp "Formula" F_Formula_times (fun _ _ => .stuck))) mNil) cAbs) (mc (.int 1)))))
def vb2 : MStm := (sIf vbT (sRet (m2 oLt (mv 0) (mv 1))) sNx)
def vb3 : MStm := (sRet (m2 (oEqK false (oEqD false)) (mv 3) (mc (.str "far"))))
theorem vb_eq : m_is_visited_before = sSeq vb1 (sSeq vb2 vb3) := rfl
abbrev eV (y x : Int) (n : Nat) (w : Way) : List (Option M) := [some (.int y), some (.int x), some (.box n), some (.str (wS w))]
theorem visit_at (hf : hp[n]? = some (fr t q)) : F_is_visited_before [.int y, .int x, .box n, .str (wS w)] hp = .ok (.bl (decide (VB w t y x))) hp := by
  refine (show F_is_visited_before [.int y, .int x, .box n, .str (wS w)] hp = bodyF 4 4 m_is_visited_before [.int y, .int x, .box n, .str (wS w)] hp from rfl).trans (body_rt (s' := ⟨eV y x n w, hp⟩) ?_)
  rw [vb_eq]
  have tm : mB (m2 (oEqK false (oEqD false)) (mCall (mCons (mAt (mv 2) (oPrp "Formula" F_Formula_times (fun _ _ => .stuck))) mNil) cAbs) (mc (.int 1))) ⟨eV y x n w, hp⟩ = .ok (decide (t = 1 ∨ t = -1)) ⟨eV y x n w, hp⟩ := by
    rw [← abs_one]
    exact b_of (m2_of (call_of (o := cAbs) (mone ((Ma.at_of (mv_of rfl)).trans (prp_t hf))) rfl) (b := mc (.int 1)) (y := .int 1) rfl eq_int)
  cases w with
  | down => exact seq_rt (by kernel_rfl)
  | up =>
    have r1 : vb2 ⟨eV y x n .up, hp⟩ = .ok (.rt (.bl (decide (y < x)))) ⟨eV y x n .up, hp⟩ := by kernel_rfl
    refine (seq_nx (a := vb1) (s1 := ⟨eV y x n .up, hp⟩) (by kernel_rfl)).trans ((seq_rt r1).trans ?_)
    rw [bl_iff (p := y < x) (r := VB .up t y x) Iff.rfl]
  | far =>
    refine (seq_nx (a := vb1) (s1 := ⟨eV y x n .far, hp⟩) (by kernel_rfl)).trans ?_
    have g : vbT ⟨eV y x n .far, hp⟩ = .ok (decide (t = 1 ∨ t = -1)) ⟨eV y x n .far, hp⟩ := (or_f (by kernel_rfl)).trans tm
    by_cases h : t = 1 ∨ t = -1
    · rw [decide_eq_true h] at g
      have r1 : vb2 ⟨eV y x n .far, hp⟩ = .ok (.rt (.bl (decide (y < x)))) ⟨eV y x n .far, hp⟩ := (if_of g).trans rfl
      refine (seq_rt r1).trans ?_
      rw [bl_iff (p := y < x) (r := VB .far t y x) ⟨fun z => .inl ⟨h, z⟩, fun z => z.elim (·.2) fun k => absurd h k⟩]
    · rw [decide_eq_false h] at g
      have r1 : vb2 ⟨eV y x n .far, hp⟩ = .ok .nx ⟨eV y x n .far, hp⟩ := (if_of g).trans rfl
      have r2 : vb3 ⟨eV y x n .far, hp⟩ = .ok (.rt (.bl true)) ⟨eV y x n .far, hp⟩ := by kernel_rfl
      refine (seq_nx r1).trans (r2.trans ?_)
      rw [decide_eq_true (show VB .far t y x from .inr h)]
  | near =>
    refine (seq_nx (a := vb1) (s1 := ⟨eV y x n .near, hp⟩) (by kernel_rfl)).trans ?_
    have g : vbT ⟨eV y x n .near, hp⟩ = .ok (decide (t = 1 ∨ t = -1)) ⟨eV y x n .near, hp⟩ := (or_f (by kernel_rfl)).trans tm
    by_cases h : t = 1 ∨ t = -1
    · rw [decide_eq_true h] at g
      have r1 : vb2 ⟨eV y x n .near, hp⟩ = .ok (.rt (.bl (decide (y < x)))) ⟨eV y x n .near, hp⟩ := (if_of g).trans rfl
      refine (seq_rt r1).trans ?_
      rw [bl_iff (p := y < x) (r := VB .near t y x) ⟨fun z => ⟨h, z⟩, fun z => z.2⟩]
    · rw [decide_eq_false h] at g
      have r1 : vb2 ⟨eV y x n .near, hp⟩ = .ok .nx ⟨eV y x n .near, hp⟩ := (if_of g).trans rfl
      have r2 : vb3 ⟨eV y x n .near, hp⟩ = .ok (.rt (.bl false)) ⟨eV y x n .near, hp⟩ := by kernel_rfl
      refine (seq_nx r1).trans (r2.trans ?_)
      rw [decide_eq_false (show ¬VB .near t y x from fun z => h z.1)]
/-! ### a conflict -/
def mt1 : MStm := (sSet 5 (mFn (mCons (mv 1) (mCons (mv 0) mNil)) F_new_key))
def mt2 : MStm := (sIf (mB (m2 (oEqK false (oEqD false)) (mv 5) (mv 0))) (sRet (mc (.bl false))) sNx)
abbrev mtT : MT := (mOr (mB (m2 (oInT false (oInD false (oInL false))) (mAt (mv 1) (oPrp "Formula" F_Formula_times (fun _ _ => .stuck))) (mTup (mCons (mc (.int 0)) (mCons (mNeg (mc (.int 1))) mNil))))) (mNot (mB (mFn (mCons (mv 5) (mCons (mv 3) (mCons (mv 4) mNil))) F_is_within))))
def mt3 : MStm := (sIf mtT (sRet (mc (.bl true))) sNx)
def mt4 : MStm := (sRet (mNotV (mFn (mCons (mv 5) (mCons (mv 0) (mCons (mv 1) (mCons (mv 2) mNil)))) F_is_visited_before)))
theorem mt_eq : m_meets_conflict = sSeq mt1 (sSeq mt2 (sSeq mt3 mt4)) := rfl
abbrev eM (x : Int) (n : Nat) (w : Way) (lo hi : Option Int) (o : Option M) : List (Option M) := [some (.int x), some (.box n), some (.str (wS w)), some (oM lo), some (oM hi), o]
theorem meets_at (hf : hp[n]? = some (fr t q)) (ht : T15 t) : F_meets_conflict [.int x, .box n, .str (wS w), oM lo, oM hi] hp = .ok (.bl (decide (Cfl t q w lo hi x))) hp := by
  refine (show F_meets_conflict [.int x, .box n, .str (wS w), oM lo, oM hi] hp = bodyF 5 6 m_meets_conflict [.int x, .box n, .str (wS w), oM lo, oM hi] hp from rfl).trans (body_rt (s' := ⟨eM x n w lo hi (some (.int (t * x + q))), hp⟩) ?_)
  rw [mt_eq]
  have s1 : mt1 ⟨eM x n w lo hi none, hp⟩ = .ok .nx ⟨eM x n w lo hi (some (.int (t * x + q))), hp⟩ := set_of (s1 := ⟨eM x n w lo hi none, hp⟩) (fnE (F := F_new_key) (mcons_of (a := mv 1) (mv_of rfl) (mone (a := mv 0) (mv_of rfl))) (newk_at hf ht))
  refine (seq_nx s1).trans ?_
  have t2 : mB (m2 (oEqK false (oEqD false)) (mv 5) (mv 0)) ⟨eM x n w lo hi (some (.int (t * x + q))), hp⟩ = .ok (t * x + q == x) ⟨eM x n w lo hi (some (.int (t * x + q))), hp⟩ := b_of (m2_of (mv_of rfl) (mv_of rfl) eq_int)
  by_cases h1 : t * x + q = x
  · rw [beq_iff_eq.mpr h1] at t2
    have r1 : mt2 ⟨eM x n w lo hi (some (.int (t * x + q))), hp⟩ = .ok (.rt (.bl false)) ⟨eM x n w lo hi (some (.int (t * x + q))), hp⟩ := (if_of (k := true) t2).trans rfl
    refine (seq_rt r1).trans ?_
    rw [decide_eq_false (show ¬Cfl t q w lo hi x from fun z => z.1 h1)]
  · rw [beq_eq_false_iff_ne.mpr h1] at t2
    have r1 : mt2 ⟨eM x n w lo hi (some (.int (t * x + q))), hp⟩ = .ok .nx ⟨eM x n w lo hi (some (.int (t * x + q))), hp⟩ := (if_of (k := false) t2).trans rfl
    refine (seq_nx r1).trans ?_
    have i1 : mB (m2 (oInT false (oInD false (oInL false))) (mAt (mv 1) (oPrp "Formula" F_Formula_times (fun _ _ => .stuck))) (mTup (mCons (mc (.int 0)) (mCons (mNeg (mc (.int 1))) mNil)))) ⟨eM x n w lo hi (some (.int (t * x + q))), hp⟩ = .ok (decide (t = 0 ∨ t = -1)) ⟨eM x n w lo hi (some (.int (t * x + q))), hp⟩ := by
      refine b_of (m2_of ((Ma.at_of (mv_of rfl)).trans (prp_t hf)) (y := .tup [.int 0, .int (-1)]) rfl ?_)
      show Res.ok (M.bl (decide (t ∈ [0, -1]))) _ = _
      rw [bl_iff (p := t ∈ [0, -1]) (r := t = 0 ∨ t = -1) (by simp)]
    have w1 := not_of (b_of (fnE (F := F_is_within) (env := eM x n w lo hi (some (.int (t * x + q)))) (mcons_of (a := mv 5) (mv_of rfl) (mcons_of (a := mv 3) (mv_of rfl) (mone (a := mv 4) (mv_of rfl)))) (within_at (hp := hp) (lo := lo) (hi := hi) (x := t * x + q))))
    rw [← decide_not] at w1
    have g := or_d i1 w1
    by_cases h2 : (t = 0 ∨ t = -1) ∨ ¬WI lo hi (t * x + q)
    · rw [decide_eq_true h2] at g
      have r2 : mt3 ⟨eM x n w lo hi (some (.int (t * x + q))), hp⟩ = .ok (.rt (.bl true)) ⟨eM x n w lo hi (some (.int (t * x + q))), hp⟩ := (if_of g).trans rfl
      refine (seq_rt r2).trans ?_
      rw [decide_eq_true (show Cfl t q w lo hi x from ⟨h1, h2.elim .inl fun z => .inr (.inl z)⟩)]
    · rw [decide_eq_false h2] at g
      have v := fnE (F := F_is_visited_before) (env := eM x n w lo hi (some (.int (t * x + q)))) (mcons_of (a := mv 5) (mv_of rfl) (mcons_of (a := mv 0) (mv_of rfl) (mcons_of (a := mv 1) (mv_of rfl) (mone (a := mv 2) (mv_of rfl))))) (visit_at (w := w) (y := t * x + q) (x := x) hf)
      have r2 : mt3 ⟨eM x n w lo hi (some (.int (t * x + q))), hp⟩ = .ok .nx ⟨eM x n w lo hi (some (.int (t * x + q))), hp⟩ := (if_of g).trans rfl
      have r3 : mt4 ⟨eM x n w lo hi (some (.int (t * x + q))), hp⟩ = .ok (.rt (.bl (!decide (VB w t (t * x + q) x)))) ⟨eM x n w lo hi (some (.int (t * x + q))), hp⟩ := ret_of (notv_of v)
      refine (seq_nx r2).trans (r3.trans ?_)
      rw [← decide_not, bl_iff (p := ¬VB w t (t * x + q) x) (r := Cfl t q w lo hi x) ⟨fun z => ⟨h1, .inr (.inr z)⟩, fun z => z.2.elim (fun k => absurd (.inl k) h2) fun k => k.elim (fun k => absurd (.inr k) h2) id⟩]
/-! ### safe -/
abbrev s5E : ME := (mIf (mOr (mB (m2 (oIsN false) (mv 2) (mc .non))) (mB (m2 oLt (mv 2) (mNeg (mv 4))))) (mNeg (mv 4)) (mv 2))
abbrev s6E : ME := (mIf (mOr (mB (m2 (oIsN false) (mv 3) (mc .non))) (mB (m2 oGt (mv 3) (mv 4)))) (mv 4) (mv 3))
def sf3 : MStm := (sIf (mB (m2 oGt (mv 5) (mv 6))) (sRet (mc (.bl true))) sNx)
abbrev mcE (i : Nat) : ME := (mFn (mCons (mv i) (mCons (mv 0) (mCons (mv 1) (mCons (mv 2) (mCons (mv 3) mNil))))) F_meets_conflict)
def sf4 : MStm := (sRet (mNotV (mOrV (mcE 5) (mcE 6))))
theorem sfm_eq : m_is_safe = sSeq (sSet 5 s5E) (sSeq (sSet 6 s6E) (sSeq sf3 sf4)) := rfl
abbrev eI (n : Nat) (w : Way) (lo hi : Option Int) (f : Int) (o5 o6 : Option M) : List (Option M) := [some (.box n), some (.str (wS w)), some (oM lo), some (oM hi), some (.int f), o5, o6]
theorem s5_at {o5 o6 : Option M} : s5E ⟨eI n w lo hi f o5 o6, hp⟩ = .ok (.int (fsE lo f)) ⟨eI n w lo hi f o5 o6, hp⟩ := by
  cases lo with
  | none => exact (Lw.mif_of (q := true) (or_t' rfl)).trans rfl
  | some l =>
    have g : mOr (mB (m2 (oIsN false) (mv 2) (mc .non))) (mB (m2 oLt (mv 2) (mNeg (mv 4)))) ⟨eI n w (some l) hi f o5 o6, hp⟩ = .ok (decide (l < -f)) ⟨eI n w (some l) hi f o5 o6, hp⟩ := (or_f rfl).trans rfl
    refine (Lw.mif_of g).trans ?_
    unfold fsE
    by_cases h : l < -f
    · rw [decide_eq_true h, if_pos rfl]
      dsimp only
      rw [if_pos h]
      rfl
    · rw [decide_eq_false h, if_neg (by decide)]
      dsimp only
      rw [if_neg h]
      rfl
theorem s6_at {o5 o6 : Option M} : s6E ⟨eI n w lo hi f o5 o6, hp⟩ = .ok (.int (lsE hi f)) ⟨eI n w lo hi f o5 o6, hp⟩ := by
  cases hi with
  | none => exact (Lw.mif_of (q := true) (or_t' rfl)).trans rfl
  | some l =>
    have g : mOr (mB (m2 (oIsN false) (mv 3) (mc .non))) (mB (m2 oGt (mv 3) (mv 4))) ⟨eI n w lo (some l) f o5 o6, hp⟩ = .ok (decide (f < l)) ⟨eI n w lo (some l) f o5 o6, hp⟩ := (or_f rfl).trans rfl
    refine (Lw.mif_of g).trans ?_
    unfold lsE
    by_cases h : f < l
    · rw [decide_eq_true h, if_pos rfl]
      dsimp only
      rw [if_pos h]
      rfl
    · rw [decide_eq_false h, if_neg (by decide)]
      dsimp only
      rw [if_neg h]
      rfl
theorem safe_at (hf : hp[n]? = some (fr t q)) (ht : T15 t) : bodyF 5 7 m_is_safe [.box n, .str (wS w), oM lo, oM hi, .int f] hp = .ok (.bl (decide (Sfe t q w lo hi f))) hp := by
  refine body_rt (s' := ⟨eI n w lo hi f (some (.int (fsE lo f))) (some (.int (lsE hi f))), hp⟩) ?_
  rw [sfm_eq]
  refine (seq_nx (set_of (s1 := ⟨eI n w lo hi f none none, hp⟩) s5_at)).trans ((seq_nx (set_of (s1 := ⟨eI n w lo hi f (some (.int (fsE lo f))) none, hp⟩) s6_at)).trans ?_)
  have g : mB (m2 oGt (mv 5) (mv 6)) ⟨eI n w lo hi f (some (.int (fsE lo f))) (some (.int (lsE hi f))), hp⟩ = .ok (decide (lsE hi f < fsE lo f)) ⟨eI n w lo hi f (some (.int (fsE lo f))) (some (.int (lsE hi f))), hp⟩ := by rfl
  by_cases h : lsE hi f < fsE lo f
  · rw [decide_eq_true h] at g
    have r1 : sf3 ⟨eI n w lo hi f (some (.int (fsE lo f))) (some (.int (lsE hi f))), hp⟩ = .ok (.rt (.bl true)) ⟨eI n w lo hi f (some (.int (fsE lo f))) (some (.int (lsE hi f))), hp⟩ := (if_of g).trans rfl
    refine (seq_rt r1).trans ?_
    rw [decide_eq_true (show Sfe t q w lo hi f from .inl h)]
  · rw [decide_eq_false h] at g
    have c5 : mcE 5 ⟨eI n w lo hi f (some (.int (fsE lo f))) (some (.int (lsE hi f))), hp⟩ = .ok (.bl (decide (Cfl t q w lo hi (fsE lo f)))) ⟨eI n w lo hi f (some (.int (fsE lo f))) (some (.int (lsE hi f))), hp⟩ := fnE (F := F_meets_conflict) (mcons_of (a := mv 5) (mv_of rfl) (mcons_of (a := mv 0) (mv_of rfl) (mcons_of (a := mv 1) (mv_of rfl) (mcons_of (a := mv 2) (mv_of rfl) (mone (a := mv 3) (mv_of rfl)))))) (meets_at hf ht)
    have c6 : mcE 6 ⟨eI n w lo hi f (some (.int (fsE lo f))) (some (.int (lsE hi f))), hp⟩ = .ok (.bl (decide (Cfl t q w lo hi (lsE hi f)))) ⟨eI n w lo hi f (some (.int (fsE lo f))) (some (.int (lsE hi f))), hp⟩ := fnE (F := F_meets_conflict) (mcons_of (a := mv 6) (mv_of rfl) (mcons_of (a := mv 0) (mv_of rfl) (mcons_of (a := mv 1) (mv_of rfl) (mcons_of (a := mv 2) (mv_of rfl) (mone (a := mv 3) (mv_of rfl)))))) (meets_at hf ht)
    have r1 : sf3 ⟨eI n w lo hi f (some (.int (fsE lo f))) (some (.int (lsE hi f))), hp⟩ = .ok .nx ⟨eI n w lo hi f (some (.int (fsE lo f))) (some (.int (lsE hi f))), hp⟩ := (if_of g).trans rfl
    have r2 : sf4 ⟨eI n w lo hi f (some (.int (fsE lo f))) (some (.int (lsE hi f))), hp⟩ = .ok (.rt (.bl (!decide (Cfl t q w lo hi (fsE lo f) ∨ Cfl t q w lo hi (lsE hi f))))) ⟨eI n w lo hi f (some (.int (fsE lo f))) (some (.int (lsE hi f))), hp⟩ := ret_of (notv_of (orv_d c5 c6))
    refine (seq_nx r1).trans (r2.trans ?_)
    rw [← decide_not, bl_iff (p := ¬(Cfl t q w lo hi (fsE lo f) ∨ Cfl t q w lo hi (lsE hi f))) (r := Sfe t q w lo hi f) ⟨fun z => .inr ⟨fun k => z (.inl k), fun k => z (.inr k)⟩, fun z k => z.elim h fun z => k.elim z.1 z.2⟩]
end
end Lw
namespace Lw
open L2 Ma PySem.Spec PySem PyProof.Rows
/-! safe_scans, trial_keys, clash -/
section
variable {hp : List Cell} {n e : Nat} {t q x y f : Int} {w : Way} {lo hi : Option Int} {env : List (Option M)} {s s1 : MS} {o5 : Option M}
def SmO (lo : Option Int) : Prop := ∀ l, lo = some l → T15 l
abbrev bdB : MStm := (sIf (mAnd (mB (m2 (oIsN true) (mv 2) (mc .non))) (mNot (mB (mFn (mCons (mv 2) mNil) F_is_small)))) (sRai "NotBound" (mCons (mc (.str "a bound is None or an integer with at most 15 digits")) mNil)) sNx)
theorem bdB_ok {z : Option Int} (h : SmO z) {a b : Option M} : bdB ⟨[a, b, some (oM z)], hp⟩ = .ok .nx ⟨[a, b, some (oM z)], hp⟩ := by
  cases z with
  | none => kernel_rfl
  | some i =>
    have e1 := small_int (i := i) (hp := hp)
    have k := h i rfl
    unfold T15 at k
    rw [decide_eq_true (by rw [z15]; exact k)] at e1
    exact (if_of (k := false) ((and_tt (b_of (m2_of (x := .int i) (y := .non) (mv_of rfl) rfl rfl))).trans (not_of (b := true) (b_of (fnE (F := F_is_small) (mone (a := mv 2) (mv_of rfl)) e1))))).trans rfl
theorem bnd_ok (h1 : SmO lo) (h2 : SmO hi) : F_check_bounds [oM lo, oM hi] hp = .ok .non hp :=
  (show F_check_bounds [oM lo, oM hi] hp = bodyF 2 3 m_check_bounds [oM lo, oM hi] hp from rfl).trans (body_nx (s' := ⟨[some (oM lo), some (oM hi), some (oM hi)], hp⟩) (for_of (xs := [oM lo, oM hi]) (s1 := ⟨[some (oM lo), some (oM hi), none], hp⟩) rfl
    ((for_nx1 (tg := gSet 2) (b := bdB) (s1 := ⟨[some (oM lo), some (oM hi), some (oM lo)], hp⟩) rfl (bdB_ok h1)).trans ((for_nx1 (tg := gSet 2) (b := bdB) (s1 := ⟨[some (oM lo), some (oM hi), some (oM hi)], hp⟩) rfl (bdB_ok h2)).trans rfl))))
theorem scan_ok : F_check_scan [.str (wS w)] hp = .ok .non hp := by cases w <;> kernel_rfl
theorem expr_ok {e : ME} {s s1 : MS} {m : M} (h : e s = .ok m s1) : sExpr e s = .ok .nx s1 := by unfold sExpr; rw [h]; rfl
abbrev FAR : Int := 18014398509481984
abbrev wM (w : Way) : M := .str (wS w)
theorem safe1_at (hf : hp[n]? = some (fr t q)) (ht : T15 t) : F_is_safe_m1 [.box n, wM w, oM lo, oM hi] hp = .ok (.bl (decide (Sfe t q w lo hi FAR))) hp :=
  (show F_is_safe_m1 [.box n, wM w, oM lo, oM hi] hp = bodyF 5 7 m_is_safe [.box n, .str (wS w), oM lo, oM hi, .int FAR] hp from rfl).trans (safe_at hf ht)
theorem safe0_at (hf : hp[n]? = some (fr t q)) (ht : T15 t) : F_is_safe_m0 [.box n, wM w, oM lo, oM hi, .int f] hp = .ok (.bl (decide (Sfe t q w lo hi f))) hp :=
  (show F_is_safe_m0 [.box n, wM w, oM lo, oM hi, .int f] hp = bodyF 5 7 m_is_safe [.box n, .str (wS w), oM lo, oM hi, .int f] hp from rfl).trans (safe_at hf ht)
/-! ### the search -/
def gS (P : Nat → Bool) (e k : Nat) : Nat := if P (e + k) = true then e + k else e
abbrev steps : List Nat := [32, 16, 8, 4, 2, 1]
theorem gS_fold : ∀ N : Fin 55, N.val ≤ steps.foldl (gS fun m => decide (m < N.val)) 0 + 1 := by decide +kernel
theorem least_no {P : Nat → Bool} : ∀ n, P n = false → ∃ N, N ≤ n ∧ P N = false ∧ ∀ m, m < N → P m = true
  | 0, h => ⟨0, Nat.le_refl _, h, fun m hm => absurd hm (Nat.not_lt_zero m)⟩
  | n + 1, h => by
    cases e : P n with
    | false =>
      obtain ⟨N, a, b, c⟩ := least_no n e
      exact ⟨N, by omega, b, c⟩
    | true =>
      by_cases q : ∃ m, m < n ∧ P m = false
      · obtain ⟨m, hm, hq⟩ := q
        obtain ⟨N, a, b, c⟩ := least_no m hq
        exact ⟨N, by omega, b, c⟩
      · refine ⟨n + 1, Nat.le_refl _, h, fun m hm => ?_⟩
        by_cases z : m = n
        · rw [z]; exact e
        · cases k : P m with
          | true => rfl
          | false => exact absurd ⟨m, by omega, k⟩ q
termination_by n => n
theorem greedy {P : Nat → Bool} (an : ∀ m m', m ≤ m' → P m' = true → P m = true) (h : P 54 = false) : P (steps.foldl (gS P) 0 + 1) = false := by
  obtain ⟨N, a, b, c⟩ := least_no 54 h
  have e : P = fun m => decide (m < N) := by
    funext m
    by_cases z : m < N
    · rw [c m z, decide_eq_true z]
    · rw [decide_eq_false z]
      cases k : P m with
      | false => rfl
      | true =>
        have := an N m (by omega) k
        rw [b] at this
        cases this
  have g := gS_fold ⟨N, by omega⟩
  dsimp only at g
  rw [e]
  exact decide_eq_false (by omega)
abbrev eT (n : Nat) (w : Way) (lo hi : Option Int) (o4 o5 o6 o7 o8 : Option M) : List (Option M) := [some (.box n), some (wM w), some (oM lo), some (oM hi), o4, o5, o6, o7, o8]
abbrev tkB : MStm := (sIf (mB (mFn (mCons (mv 0) (mCons (mv 1) (mCons (mv 2) (mCons (mv 3) (mCons (m2 oMul (mv 4) (mv 5)) mNil))))) F_is_safe_m0)) (sSet 4 (m2 oMul (mv 4) (mv 5))) sNx)
abbrev pP (t q : Int) (w : Way) (lo hi : Option Int) (m : Nat) : Bool := decide (Sfe t q w lo hi (2 ^ m))
theorem mul_g {a b : Int} {s : MS} (mo : mulOk a b = true) : oMul (.int a) (.int b) s = .ok (.int (a * b)) s := if_pos mo
theorem mul_pow {k : Nat} (hk : k ≤ 32) {s : MS} : oMul (.int (2 ^ e)) (.int (2 ^ k)) s = .ok (.int (2 ^ (e + k))) s := by
  have b : (2 : Int) ^ k ≤ 2 ^ 32 := by exact_mod_cast Nat.pow_le_pow_right (by decide) hk
  have b0 : (0 : Int) < 2 ^ k := by exact_mod_cast Nat.pow_pos (by decide)
  have mo : mulOk ((2 : Int) ^ e) ((2 : Int) ^ k) = true := decide_eq_true (Or.inr ⟨by omega, by omega⟩)
  rw [Int.pow_add]
  exact mul_g mo
theorem tk_loop (hf : hp[n]? = some (fr t q)) (ht : T15 t) : ∀ (ks : List Nat) (e : Nat) (o5 : Option M), (∀ k ∈ ks, k ≤ 32) →
    ∃ p5, sFor (gSet 5) tkB (ks.map fun k => M.int (2 ^ k)) ⟨eT n w lo hi (some (.int (2 ^ e))) o5 none none none, hp⟩ = .ok .nx ⟨eT n w lo hi (some (.int (2 ^ ks.foldl (gS (pP t q w lo hi)) e))) p5 none none none, hp⟩
  | [], e, o5, _ => ⟨o5, rfl⟩
  | k :: ks, e, o5, h => by
    have mu : m2 oMul (mv 4) (mv 5) ⟨eT n w lo hi (some (.int (2 ^ e))) (some (.int (2 ^ k))) none none none, hp⟩ = .ok (.int (2 ^ (e + k))) ⟨eT n w lo hi (some (.int (2 ^ e))) (some (.int (2 ^ k))) none none none, hp⟩ := m2_of (mv_of rfl) (mv_of rfl) (mul_pow (h k List.mem_cons_self))
    have g := b_of (fnE (F := F_is_safe_m0) (env := eT n w lo hi (some (.int (2 ^ e))) (some (.int (2 ^ k))) none none none) (mcons_of (a := mv 0) (mv_of rfl) (mcons_of (a := mv 1) (mv_of rfl) (mcons_of (a := mv 2) (mv_of rfl) (mcons_of (a := mv 3) (mv_of rfl) (mone mu))))) (safe0_at (w := w) (lo := lo) (hi := hi) hf ht))
    obtain ⟨p5, ih⟩ := tk_loop hf ht ks (gS (pP t q w lo hi) e k) (some (.int (2 ^ k))) fun z hz => h z (List.mem_cons_of_mem _ hz)
    refine ⟨p5, ?_⟩
    have st : tkB ⟨eT n w lo hi (some (.int (2 ^ e))) (some (.int (2 ^ k))) none none none, hp⟩ = .ok .nx ⟨eT n w lo hi (some (.int (2 ^ gS (pP t q w lo hi) e k))) (some (.int (2 ^ k))) none none none, hp⟩ := by
      unfold gS
      by_cases z : Sfe t q w lo hi (2 ^ (e + k))
      · rw [decide_eq_true z] at g
        rw [if_pos (show pP t q w lo hi (e + k) = true from decide_eq_true z)]
        exact (if_of (k := true) g).trans (set_of mu)
      · rw [decide_eq_false z] at g
        rw [if_neg (show ¬ pP t q w lo hi (e + k) = true by rw [show pP t q w lo hi (e + k) = false from decide_eq_false z]; decide)]
        exact (if_of (k := false) g).trans rfl
    rw [List.foldl_cons]
    exact (for_nx1 (s1 := ⟨eT n w lo hi (some (.int (2 ^ e))) (some (.int (2 ^ k))) none none none, hp⟩) rfl st).trans ih
def bL (lo hi : Option Int) : List Int := lo.toList ++ hi.toList
abbrev nums (g : Int) (lo hi : Option Int) : List Int := [0, 1, -1, 2 * g, -2 * g] ++ bL lo hi
theorem ends_in {g : Int} (h : ¬ lsE hi (2 * g) < fsE lo (2 * g)) : (fsE lo (2 * g) ∈ nums g lo hi ∧ WI lo hi (fsE lo (2 * g))) ∧ (lsE hi (2 * g) ∈ nums g lo hi ∧ WI lo hi (lsE hi (2 * g))) := by
  have m2 : -(2 * g) = -2 * g := by omega
  cases lo with
  | none =>
    cases hi with
    | none => exact ⟨⟨by simp [fsE, nums, bL]; omega, trivial⟩, by simp [lsE, nums, bL], trivial⟩
    | some b =>
      simp only [fsE, lsE, WI, nums, bL] at h ⊢
      refine ⟨⟨by simp; omega, by split at h <;> omega⟩, by split <;> simp, by split <;> omega⟩
  | some a =>
    cases hi with
    | none =>
      simp only [fsE, lsE, WI, nums, bL] at h ⊢
      refine ⟨⟨by split <;> simp <;> omega, by split <;> omega⟩, by simp, by split at h <;> omega⟩
    | some b =>
      simp only [fsE, lsE, WI, nums, bL] at h ⊢
      refine ⟨⟨by split <;> simp <;> omega, ?_⟩, by split <;> simp, ?_⟩ <;> (split at h <;> split at h <;> (repeat' split) <;> omega)
abbrev tk6 : ME := (m2 oAdd (mLst (mCons (mc (.int 0)) (mCons (mc (.int 1)) (mCons (mNeg (mc (.int 1))) (mCons (m2 oMul (mc (.int 2)) (mv 4)) (mCons (m2 oMul (mNeg (mc (.int 2))) (mv 4)) mNil)))))) (mLc [7] (iSeq (mTup (mCons (mv 2) (mCons (mv 3) mNil)))) (gSet 7) (mB (m2 (oIsN true) (mv 7) (mc .non))) (mv 7)))
abbrev tk7 : ME := (mSrtAb (mLc [8] (iSeq (mv 6)) (gSet 8) (mB (mFn (mCons (mv 8) (mCons (mv 2) (mCons (mv 3) mNil))) F_is_within)) (mv 8)))
theorem tk_eq : m_trial_keys = sSeq (sSet 4 (mc (.int 1))) (sSeq (sForI (iK [.int 4294967296, .int 65536, .int 256, .int 16, .int 4, .int 2]) (gSet 5) tkB) (sSeq (sSet 6 tk6) (sRet tk7))) := rfl
theorem gS_le (P : Nat → Bool) : ∀ (l : List Nat) (e : Nat), l.foldl (gS P) e ≤ e + l.sum
  | [], e => by simp
  | k :: l, e => by
    rw [List.foldl_cons, List.sum_cons]
    have := gS_le P l (gS P e k)
    have h : gS P e k ≤ e + k := by unfold gS; split <;> omega
    omega
def Bk (lo hi : Option Int) (k : Int) : Prop := (-18446744073709551616 ≤ k ∧ k ≤ 18446744073709551616) ∨ lo = some k ∨ hi = some k
def trE (t q : Int) (w : Way) (lo hi : Option Int) : Nat := steps.foldl (gS (pP t q w lo hi)) 0
def trL (t q : Int) (w : Way) (lo hi : Option Int) : List Int := sortAb ((nums (2 ^ trE t q w lo hi) lo hi).filter fun k => decide (WI lo hi k))
theorem trial_at (hf : hp[n]? = some (fr t q)) (ht : T15 t) : F_trial_keys [.box n, wM w, oM lo, oM hi] hp = .ok (.lst ((trL t q w lo hi).map M.int)) hp ∧ (∀ k ∈ trL t q w lo hi, WI lo hi k ∧ Bk lo hi k) ∧ (¬Sfe t q w lo hi FAR → ∃ k ∈ trL t q w lo hi, Cfl t q w lo hi k) := by
  obtain ⟨p5, e1⟩ := tk_loop (w := w) (lo := lo) (hi := hi) hf ht steps 0 none (by decide)
  unfold trL
  generalize hE : trE t q w lo hi = E
  rw [show steps.foldl (gS (pP t q w lo hi)) 0 = E from hE] at e1
  have mu : ∀ (i : Int), (i = 2 ∨ i = -2) → ∀ s : MS, oMul (.int i) (.int (2 ^ E)) s = .ok (.int (i * 2 ^ E)) s := fun i hi s => mul_g (show mulOk i (2 ^ E) = true from decide_eq_true (Or.inl ⟨by omega, by omega⟩))
  have l1 : mLst (mCons (mc (.int 0)) (mCons (mc (.int 1)) (mCons (mNeg (mc (.int 1))) (mCons (m2 oMul (mc (.int 2)) (mv 4)) (mCons (m2 oMul (mNeg (mc (.int 2))) (mv 4)) mNil))))) ⟨eT n w lo hi (some (.int (2 ^ E))) p5 none none none, hp⟩ = .ok (.lst ([0, 1, -1, 2 * 2 ^ E, -2 * 2 ^ E].map M.int)) ⟨eT n w lo hi (some (.int (2 ^ E))) p5 none none none, hp⟩ :=
    mlst_of (mcons_of (a := mc (.int 0)) (x := .int 0) rfl (mcons_of (a := mc (.int 1)) (x := .int 1) rfl (mcons_of (x := .int (-1)) rfl (mcons_of (m2_of (a := mc (.int 2)) (x := .int 2) rfl (mv_of rfl) (mu 2 (.inl rfl) _)) (mone (m2_of (x := .int (-2)) rfl (mv_of rfl) (mu (-2) (.inr rfl) _))))))) (show 5 ≤ big by decide)
  have l2 := mlc_if (vs := [7]) (it := iSeq (mTup (mCons (mv 2) (mCons (mv 3) mNil)))) (tg := gSet 7) (tt := mB (m2 (oIsN true) (mv 7) (mc .non))) (el := mv 7) (em := oM) (f := oM) (p := fun z : Option Int => z.isSome) (xs := [lo, hi]) (s := ⟨eT n w lo hi (some (.int (2 ^ E))) p5 none none none, hp⟩) (s1 := ⟨eT n w lo hi (some (.int (2 ^ E))) p5 none none none, hp⟩) rfl (show 2 ≤ big by decide) fun z _ =>
    ⟨⟨eT n w lo hi (some (.int (2 ^ E))) p5 none (some (oM z)) none, hp⟩, eT n w lo hi (some (.int (2 ^ E))) p5 none (some (oM z)) none, rfl, by cases z <;> rfl, fun _ => ⟨_, mv_of rfl⟩⟩
  rw [show ([lo, hi].filter fun z : Option Int => z.isSome).map oM = (bL lo hi).map M.int by cases lo <;> cases hi <;> rfl] at l2
  have bl : (bL lo hi).length ≤ 2 := by cases lo <;> cases hi <;> simp [bL]
  have s6 : sSet 6 tk6 ⟨eT n w lo hi (some (.int (2 ^ E))) p5 none none none, hp⟩ = .ok .nx ⟨eT n w lo hi (some (.int (2 ^ E))) p5 (some (.lst ((nums (2 ^ E) lo hi).map M.int))) none none, hp⟩ := by
    refine set_of (s1 := ⟨eT n w lo hi (some (.int (2 ^ E))) p5 none none none, hp⟩) ?_
    rw [show (nums (2 ^ E) lo hi).map M.int = [0, 1, -1, 2 * 2 ^ E, -2 * 2 ^ E].map M.int ++ (bL lo hi).map M.int from List.map_append]
    exact m2_of l1 l2 (oAdd_lst (by rw [List.length_map, List.length_map]; exact Nat.le_trans (show 5 + (bL lo hi).length ≤ 7 by omega) (by decide)))
  have l8 := mlc_if (vs := [8]) (it := iSeq (mv 6)) (tg := gSet 8) (tt := mB (mFn (mCons (mv 8) (mCons (mv 2) (mCons (mv 3) mNil))) F_is_within)) (el := mv 8) (em := M.int) (f := M.int) (p := fun k => decide (WI lo hi k)) (xs := nums (2 ^ E) lo hi) (s := ⟨eT n w lo hi (some (.int (2 ^ E))) p5 (some (.lst ((nums (2 ^ E) lo hi).map M.int))) none none, hp⟩) (s1 := ⟨eT n w lo hi (some (.int (2 ^ E))) p5 (some (.lst ((nums (2 ^ E) lo hi).map M.int))) none none, hp⟩) rfl (by rw [List.length_append]; exact Nat.le_trans (show 5 + (bL lo hi).length ≤ 7 by omega) (by decide)) fun k _ =>
    ⟨⟨eT n w lo hi (some (.int (2 ^ E))) p5 (some (.lst ((nums (2 ^ E) lo hi).map M.int))) none (some (.int k)), hp⟩, eT n w lo hi (some (.int (2 ^ E))) p5 (some (.lst ((nums (2 ^ E) lo hi).map M.int))) none (some (.int k)), rfl, b_of (fnE (F := F_is_within) (mcons_of (a := mv 8) (mv_of rfl) (mcons_of (a := mv 2) (mv_of rfl) (mone (a := mv 3) (mv_of rfl)))) within_at), fun _ => ⟨_, mv_of rfl⟩⟩
  have s7 : tk7 ⟨eT n w lo hi (some (.int (2 ^ E))) p5 (some (.lst ((nums (2 ^ E) lo hi).map M.int))) none none, hp⟩ = .ok (.lst ((sortAb ((nums (2 ^ E) lo hi).filter fun k => decide (WI lo hi k))).map M.int)) ⟨eT n w lo hi (some (.int (2 ^ E))) p5 (some (.lst ((nums (2 ^ E) lo hi).map M.int))) none none, hp⟩ := by
    unfold tk7 mSrtAb
    rw [l8]
    show (match intsM (((nums (2 ^ E) lo hi).filter fun k => decide (WI lo hi k)).map M.int) with | some ns => Res.ok (M.lst ((sortAb ns).map M.int)) _ | none => Res.stuck) = _
    rw [intsM_map]
  refine ⟨(show F_trial_keys [.box n, wM w, oM lo, oM hi] hp = bodyF 4 9 m_trial_keys [.box n, wM w, oM lo, oM hi] hp from rfl).trans (body_rt (s' := ⟨eT n w lo hi (some (.int (2 ^ E))) p5 (some (.lst ((nums (2 ^ E) lo hi).map M.int))) none none, hp⟩) ?_), fun k hk => ?_, fun hs => ?_⟩
  · rw [tk_eq]
    exact (seq_nx (s1 := ⟨eT n w lo hi (some (.int (2 ^ 0))) none none none none, hp⟩) rfl).trans ((seq_nx (for_of (s1 := ⟨eT n w lo hi (some (.int (2 ^ 0))) none none none none, hp⟩) rfl e1)).trans ((seq_nx s6).trans (ret_of s7)))
  · have hk := List.mem_filter.mp ((List.mergeSort_perm _ _).mem_iff.mp hk)
    refine ⟨of_decide_eq_true hk.2, ?_⟩
    have le : (2 : Int) ^ E ≤ 2 ^ 63 := by
      have : E ≤ 63 := by rw [← hE]; unfold trE; exact gS_le (pP t q w lo hi) steps 0
      exact_mod_cast Nat.pow_le_pow_right (by decide) this
    have g0 : (0 : Int) ≤ 2 ^ E := by exact_mod_cast Nat.zero_le _
    rw [show (2 : Int) ^ 63 = 9223372036854775808 by decide] at le
    unfold Bk
    rcases List.mem_append.mp hk.1 with h | h
    · left
      simp only [List.mem_cons, List.not_mem_nil, or_false] at h
      omega
    · right
      unfold bL at h
      rcases List.mem_append.mp h with h | h
      · left; exact Option.mem_toList.mp h
      · right; exact Option.mem_toList.mp h
  · have g := greedy (P := pP t q w lo hi) (fun m m' hm h => decide_eq_true (sf_anti (by exact_mod_cast Nat.zero_le _) (by exact_mod_cast Nat.pow_le_pow_right (by decide) hm) (of_decide_eq_true h))) (decide_eq_false (by exact hs))
    rw [show steps.foldl (gS (pP t q w lo hi)) 0 = E from hE] at g
    have g' : ¬Sfe t q w lo hi (2 ^ (E + 1)) := of_decide_eq_false g
    rw [Int.pow_succ, Int.mul_comm] at g'
    have h1 : ¬ lsE hi (2 * 2 ^ E) < fsE lo (2 * 2 ^ E) := fun z => g' (.inl z)
    obtain ⟨⟨a1, a2⟩, b1, b2⟩ := ends_in h1
    have mem : ∀ k, k ∈ nums (2 ^ E) lo hi → WI lo hi k → k ∈ sortAb ((nums (2 ^ E) lo hi).filter fun k => decide (WI lo hi k)) := fun k h h' => (List.mergeSort_perm _ _).mem_iff.mpr (List.mem_filter.mpr ⟨h, decide_eq_true h'⟩)
    by_cases c1 : Cfl t q w lo hi (fsE lo (2 * 2 ^ E))
    · exact ⟨_, mem _ a1 a2, c1⟩
    · by_cases c2 : Cfl t q w lo hi (lsE hi (2 * 2 ^ E))
      · exact ⟨_, mem _ b1 b2, c2⟩
      · exact absurd (.inr ⟨c1, c2⟩) g'
/-! ### clash -/
abbrev eC (n : Nat) (w : Way) (lo hi : Option Int) (o : Option M) : List (Option M) := [some (.box n), some (wM w), some (oM lo), some (oM hi), o]
def cl1 : MStm := (sExpr (mFn (mCons (mv 0) mNil) F_check_formula))
def cl2 : MStm := (sExpr (mFn (mCons (mv 1) mNil) F_check_scan))
def cl3 : MStm := (sExpr (mFn (mCons (mv 2) (mCons (mv 3) mNil)) F_check_bounds))
abbrev clR : ME := (mCall (mCons (mCall (mCons (mTup (mCons (mv 4) (mCons (mFn (mCons (mv 0) (mCons (mv 4) mNil)) F_new_key) mNil))) mNil) (cSortT cSortD)) mNil) cTup)
abbrev clB : MStm := (sIf (mB (mFn (mCons (mv 4) (mCons (mv 0) (mCons (mv 1) (mCons (mv 2) (mCons (mv 3) mNil))))) F_meets_conflict)) (sRet clR) sNx)
def cl4 : MStm := (sIf (mNot (mB (mFn (mCons (mv 0) (mCons (mv 1) (mCons (mv 2) (mCons (mv 3) mNil)))) F_is_safe_m1))) (sForI (iSeq (mFn (mCons (mv 0) (mCons (mv 1) (mCons (mv 2) (mCons (mv 3) mNil)))) F_trial_keys)) (gSet 4) clB) sNx)
theorem clm_eq : m_clash = sSeq cl1 (sSeq cl2 (sSeq cl3 (sSeq cl4 (sRet (mc .non))))) := rfl
/-- the two keys of x and its new key, the lesser first -/
def PrT (t q x a b : Int) : Prop := a ≤ b ∧ ((a = x ∧ b = t * x + q) ∨ (a = t * x + q ∧ b = x))
def prM (t q x : Int) : M := if x ≤ t * x + q then .tup [.int x, .int (t * x + q)] else .tup [.int (t * x + q), .int x]
theorem prM_pr (t q x : Int) : ∃ a b : Int, prM t q x = .tup [.int a, .int b] ∧ PrT t q x a b := by
  by_cases h : x ≤ t * x + q
  · exact ⟨x, t * x + q, if_pos h, h, .inl ⟨rfl, rfl⟩⟩
  · exact ⟨t * x + q, x, if_neg h, by omega, .inr ⟨rfl, rfl⟩⟩
theorem clR_at (hf : hp[n]? = some (fr t q)) (ht : T15 t) : clR ⟨eC n w lo hi (some (.int x)), hp⟩ = .ok (prM t q x) ⟨eC n w lo hi (some (.int x)), hp⟩ := by
  have tp : mTup (mCons (mv 4) (mCons (mFn (mCons (mv 0) (mCons (mv 4) mNil)) F_new_key) mNil)) ⟨eC n w lo hi (some (.int x)), hp⟩ = .ok (.tup ([x, t * x + q].map M.int)) ⟨eC n w lo hi (some (.int x)), hp⟩ := by
    unfold mTup
    rw [mcons_of (a := mv 4) (x := .int x) (mv_of rfl) (mone (fnE (F := F_new_key) (mcons_of (a := mv 0) (mv_of rfl) (mone (a := mv 4) (mv_of rfl))) (newk_at hf ht)))]
    rfl
  by_cases h : x ≤ t * x + q
  · rw [show prM t q x = .tup [.int x, .int (t * x + q)] from if_pos h]
    exact call_of (o := cTup) (mone (call_of (mone tp) ((show cSortT cSortD [.tup ([x, t * x + q].map M.int)] _ = cSortD [.lst ([x, t * x + q].map M.int)] _ from rfl).trans (sortD_ints (List.Perm.refl _) (by simp [h]))))) rfl
  · rw [show prM t q x = .tup [.int (t * x + q), .int x] from if_neg h]
    exact call_of (o := cTup) (mone (call_of (mone tp) ((show cSortT cSortD [.tup ([x, t * x + q].map M.int)] _ = cSortD [.lst ([x, t * x + q].map M.int)] _ from rfl).trans (sortD_ints (m := [t * x + q, x]) (List.Perm.swap _ _ _) (by simp; omega))))) rfl
theorem cl_loop (hf : hp[n]? = some (fr t q)) (ht : T15 t) {x : Int} : ∀ (L : List Int) {o : Option M}, L.find? (fun k => decide (Cfl t q w lo hi k)) = some x → sFor (gSet 4) clB (L.map M.int) ⟨eC n w lo hi o, hp⟩ = .ok (.rt (prM t q x)) ⟨eC n w lo hi (some (.int x)), hp⟩
  | [], o, h => by cases h
  | y :: L, o, h => by
    have g := b_of (fnE (F := F_meets_conflict) (env := eC n w lo hi (some (.int y))) (mcons_of (a := mv 4) (mv_of rfl) (mcons_of (a := mv 0) (mv_of rfl) (mcons_of (a := mv 1) (mv_of rfl) (mcons_of (a := mv 2) (mv_of rfl) (mone (a := mv 3) (mv_of rfl)))))) (meets_at (w := w) (lo := lo) (hi := hi) (x := y) hf ht))
    by_cases c : Cfl t q w lo hi y
    · rw [List.find?_cons_of_pos (p := fun k => decide (Cfl t q w lo hi k)) (decide_eq_true c)] at h
      have e0 : y = x := Option.some.inj h
      subst e0
      rw [decide_eq_true c] at g
      have e := clR_at (w := w) (lo := lo) (hi := hi) (x := y) hf ht
      have st : clB ⟨eC n w lo hi (some (.int y)), hp⟩ = .ok (.rt (prM t q y)) ⟨eC n w lo hi (some (.int y)), hp⟩ := (if_of (k := true) g).trans (ret_of e)
      rw [List.map_cons, sFor]
      show (clB ⟨eC n w lo hi (some (.int y)), hp⟩).bind _ = _
      rw [st]
      rfl
    · rw [List.find?_cons_of_neg (p := fun k => decide (Cfl t q w lo hi k)) (by simp [c])] at h
      rw [decide_eq_false c] at g
      have st : clB ⟨eC n w lo hi (some (.int y)), hp⟩ = .ok .nx ⟨eC n w lo hi (some (.int y)), hp⟩ := (if_of (k := false) g).trans rfl
      exact (for_nx1 (s1 := ⟨eC n w lo hi (some (.int y)), hp⟩) rfl st).trans (cl_loop hf ht L (o := some (.int y)) h)
/-- what clash answers -/
def clV (t q : Int) (w : Way) (lo hi : Option Int) : M := if Sfe t q w lo hi FAR then .non else match (trL t q w lo hi).find? (fun k => decide (Cfl t q w lo hi k)) with
  | some x => prM t q x
  | none => .non
theorem clV_no (h : Sfe t q w lo hi FAR) : clV t q w lo hi = .non := if_pos h
theorem clV_yes (hf : hp[n]? = some (fr t q)) (ht : T15 t) (h : ¬Sfe t q w lo hi FAR) : ∃ x, (trL t q w lo hi).find? (fun k => decide (Cfl t q w lo hi k)) = some x ∧ clV t q w lo hi = prM t q x ∧ (WI lo hi x ∧ Bk lo hi x) ∧ Cfl t q w lo hi x := by
  obtain ⟨_, e, hw⟩ := trial_at (w := w) (lo := lo) (hi := hi) hf ht
  obtain ⟨k, hk, c⟩ := hw h
  cases g : (trL t q w lo hi).find? (fun k => decide (Cfl t q w lo hi k)) with
  | none =>
    have := List.find?_eq_none.mp g k hk
    simp [c] at this
  | some x =>
    refine ⟨x, rfl, ?_, e x (List.mem_of_find?_eq_some g), of_decide_eq_true (List.find?_some (p := fun k => decide (Cfl t q w lo hi k)) g)⟩
    unfold clV
    rw [if_neg h, g]
theorem clash_at (hf : hp[n]? = some (fr t q)) (ht : T15 t) (h1 : SmO lo) (h2 : SmO hi) : bodyF 4 5 m_clash [.box n, wM w, oM lo, oM hi] hp = .ok (clV t q w lo hi) hp := by
  have s1 : cl1 ⟨eC n w lo hi none, hp⟩ = .ok .nx ⟨eC n w lo hi none, hp⟩ := expr_ok (fnE (F := F_check_formula) (mone (a := mv 0) (mv_of rfl)) (form_ok hf))
  have s2 : cl2 ⟨eC n w lo hi none, hp⟩ = .ok .nx ⟨eC n w lo hi none, hp⟩ := expr_ok (fnE (F := F_check_scan) (mone (a := mv 1) (mv_of rfl)) scan_ok)
  have s3 : cl3 ⟨eC n w lo hi none, hp⟩ = .ok .nx ⟨eC n w lo hi none, hp⟩ := expr_ok (fnE (F := F_check_bounds) (mcons_of (a := mv 2) (mv_of rfl) (mone (a := mv 3) (mv_of rfl))) (bnd_ok h1 h2))
  have g := not_of (b_of (fnE (F := F_is_safe_m1) (env := eC n w lo hi none) (mcons_of (a := mv 0) (mv_of rfl) (mcons_of (a := mv 1) (mv_of rfl) (mcons_of (a := mv 2) (mv_of rfl) (mone (a := mv 3) (mv_of rfl))))) (safe1_at (w := w) (lo := lo) (hi := hi) hf ht)))
  by_cases c : Sfe t q w lo hi FAR
  · rw [decide_eq_true c] at g
    have s4 : cl4 ⟨eC n w lo hi none, hp⟩ = .ok .nx ⟨eC n w lo hi none, hp⟩ := (if_of (k := false) g).trans rfl
    rw [clV_no c]
    refine body_rt (s' := ⟨eC n w lo hi none, hp⟩) ?_
    rw [clm_eq]
    exact (seq_nx s1).trans ((seq_nx s2).trans ((seq_nx s3).trans ((seq_nx s4).trans (ret_of rfl))))
  · rw [decide_eq_false c] at g
    obtain ⟨e, _, _⟩ := trial_at (w := w) (lo := lo) (hi := hi) hf ht
    obtain ⟨x, fx, ev, _, _⟩ := clV_yes (w := w) (lo := lo) (hi := hi) hf ht c
    have it : iSeq (mFn (mCons (mv 0) (mCons (mv 1) (mCons (mv 2) (mCons (mv 3) mNil)))) F_trial_keys) ⟨eC n w lo hi none, hp⟩ = .ok ((trL t q w lo hi).map M.int) ⟨eC n w lo hi none, hp⟩ := by
      unfold iSeq
      rw [fnE (F := F_trial_keys) (env := eC n w lo hi none) (mcons_of (a := mv 0) (mv_of rfl) (mcons_of (a := mv 1) (mv_of rfl) (mcons_of (a := mv 2) (mv_of rfl) (mone (a := mv 3) (mv_of rfl))))) e]
      rfl
    have e2 := cl_loop (w := w) (lo := lo) (hi := hi) hf ht (trL t q w lo hi) (o := none) fx
    have s4 : cl4 ⟨eC n w lo hi none, hp⟩ = .ok (.rt (prM t q x)) ⟨eC n w lo hi (some (.int x)), hp⟩ := (if_of (k := true) g).trans (for_of it e2)
    rw [ev]
    refine body_rt (s' := ⟨eC n w lo hi (some (.int x)), hp⟩) ?_
    rw [clm_eq]
    exact (seq_nx s1).trans ((seq_nx s2).trans ((seq_nx s3).trans (seq_rt s4)))
end
end Lw
namespace Lw
open L2 Ma PySem.Spec PySem PyProof.Rows
/-! what the law says of a scan; its bounds -/
def ls0 : MStm := (sAsg (mv 0) (gUnpN [5, 6]))
def ls1 : MStm := (sSet 4 (mAndV (m2 (oIsN true) (mv 2) (mc .non)) (m2 (oIsN true) (mv 3) (mc .non))))
def ls2 : MStm := (sIf (mOr (mAnd (mB (mv 4)) (mB (m2 oGt (mv 2) (mv 3)))) (mAnd (mB (m2 (oEqK false (oEqD false)) (mv 5) (mc (.int 1)))) (mB (m2 (oEqK false (oEqD false)) (mv 6) (mc (.int 0)))))) (sRet (mc (.bl true))) sNx)
def ls3 : MStm := (sIf (mAnd (mB (mv 4)) (mB (m2 (oEqK false (oEqD false)) (mv 2) (mv 3)))) (sRet (m2 (oEqK false (oEqD false)) (m2 oAdd (m2 oMul (mv 5) (mv 2)) (mv 6)) (mv 2))) sNx)
def ls4 : MStm := (sIf (mB (m2 (oEqK false (oEqD false)) (mv 5) (mc (.int 1)))) (sRet (mIf (mB (m2 oGt (mv 6) (mc (.int 0)))) (mAndV (m2 (oIsN false) (mv 3) (mc .non)) (m2 (oEqK false (oEqD false)) (mv 1) (mc (.str "down")))) (mAndV (m2 (oIsN false) (mv 2) (mc .non)) (m2 (oEqK true (oEqD true)) (mv 1) (mc (.str "down")))))) sNx)
def ls5 : MStm := (sIf (mOr (mB (m2 oLt (mCall (mCons (mv 5) mNil) cAbs) (mc (.int 2)))) (mB (mv 4))) (sRet (mc (.bl false))) sNx)
def ls6 : MStm := (sIf (mAnd (mB (m2 (oIsN false) (mv 2) (mc .non))) (mB (m2 (oIsN false) (mv 3) (mc .non)))) (sRet (m2 (oEqK false (oEqD false)) (mv 1) (mc (.str "far")))) sNx)
def ls7 : MStm := (sIf (mB (m2 oLt (mv 5) (mc (.int 0)))) (sRet (mc (.bl false))) sNx)
def ls8 : MStm := (sIf (mB (m2 (oIsN false) (mv 3) (mc .non))) (sRet (mAndV (m2 oGe (m2 oAdd (m2 oMul (mv 5) (mv 2)) (mv 6)) (mv 2)) (m2 (oInTs false) (mv 1) (mTup (mCons (mc (.str "down")) (mCons (mc (.str "far")) mNil)))))) sNx)
def ls9 : MStm := (sRet (mAndV (m2 oLe (m2 oAdd (m2 oMul (mv 5) (mv 3)) (mv 6)) (mv 3)) (m2 (oInTs false) (mv 1) (mTup (mCons (mc (.str "up")) (mCons (mc (.str "far")) mNil))))))
abbrev lsT2 : MT := (mOr (mAnd (mB (mv 4)) (mB (m2 oGt (mv 2) (mv 3)))) (mAnd (mB (m2 (oEqK false (oEqD false)) (mv 5) (mc (.int 1)))) (mB (m2 (oEqK false (oEqD false)) (mv 6) (mc (.int 0))))))
abbrev lsT3 : MT := (mAnd (mB (mv 4)) (mB (m2 (oEqK false (oEqD false)) (mv 2) (mv 3))))
abbrev lsE3 : ME := (m2 (oEqK false (oEqD false)) (m2 oAdd (m2 oMul (mv 5) (mv 2)) (mv 6)) (mv 2))
abbrev lsE4 : ME := (mIf (mB (m2 oGt (mv 6) (mc (.int 0)))) (mAndV (m2 (oIsN false) (mv 3) (mc .non)) (m2 (oEqK false (oEqD false)) (mv 1) (mc (.str "down")))) (mAndV (m2 (oIsN false) (mv 2) (mc .non)) (m2 (oEqK true (oEqD true)) (mv 1) (mc (.str "down")))))
abbrev lsT5 : MT := (mOr (mB (m2 oLt (mCall (mCons (mv 5) mNil) cAbs) (mc (.int 2)))) (mB (mv 4)))
abbrev lsT7 : MT := (mB (m2 oLt (mv 5) (mc (.int 0))))
theorem lsm_eq : m__law_safe = (sSeq ls0 (sSeq ls1 (sSeq ls2 (sSeq ls3 (sSeq ls4 (sSeq ls5 (sSeq ls6 (sSeq ls7 (sSeq ls8 ls9))))))))) := rfl
def bo0 : MStm := (sSet 2 (mIf (mB (m2 (oEqK true (oEqD true)) (m2 (oIxD oIx) (mv 1) (mc (.int 0))) (mc (.int 1)))) (m2 oFdv (m2 (oIxD oIx) (mv 1) (mc (.int 1))) (m2 oSub (mc (.int 1)) (m2 (oIxD oIx) (mv 1) (mc (.int 0))))) (mc (.int 0))))
def bo1 : MStm := (sSet 2 (mCall (mCons (mNeg (m2 oPow (mc (.int 10)) (mc (.int 14)))) (mCons (mCall (mCons (m2 oPow (mc (.int 10)) (mc (.int 14))) (mCons (mv 2) mNil)) cMin) mNil)) cMax))
def bo2 : MStm := (sPar2 4 5 (mCons (m2 oSub (m2 oAdd (mv 2) (mFn (mCons (mv 0) (mCons (mc (.int 9)) mNil)) F__law_draw)) (mc (.int 4))) (mCons (m2 oSub (m2 oAdd (mv 2) (mFn (mCons (mv 0) (mCons (mc (.int 25)) mNil)) F__law_draw)) (mc (.int 12))) mNil)))
def bo3 : MStm := (sPar2 6 7 (mCons (mCall (mCons (mv 4) (mCons (mv 5) mNil)) cMin) (mCons (mCall (mCons (mv 4) (mCons (mv 5) mNil)) cMax) mNil)))
def bo4 : MStm := (sSet 3 (mLstB (mCons (mTup (mCons (mc .non) (mCons (mc .non) mNil))) (mCons (mTup (mCons (mv 6) (mCons (mc .non) mNil))) (mCons (mTup (mCons (mc .non) (mCons (mv 7) mNil))) (mCons (mTup (mCons (mv 6) (mCons (mv 7) mNil))) (mCons (mTup (mCons (mv 6) (mCons (mv 6) mNil))) (mCons (mTup (mCons (m2 oAdd (mv 7) (mc (.int 1))) (mCons (m2 oSub (mv 6) (mc (.int 1))) mNil))) mNil))))))))
def bo5 : MStm := (sExpr (mAppend (mv 3) (mTup (mCons (mv 4) (mCons (m2 oSub (m2 (oIxD oIx) (mv 1) (mc (.int 1))) (mv 4)) mNil)))))
def bo6 : MStm := (sAsg (mFn (mCons (mv 0) (mCons (mv 3) mNil)) F__law_pick) (gUnpN [8, 9]))
def bo7 : MStm := (sRet (mIf (mOr (mB (m2 (oIsN false) (mv 9) (mc .non))) (mB (m2 oLt (mCall (mCons (mv 9) mNil) cAbs) (m2 oPow (mc (.int 10)) (mc (.int 15)))))) (mTup (mCons (mv 8) (mCons (mv 9) mNil))) (mTup (mCons (mv 8) (mCons (mc .non) mNil)))))
theorem bom_eq : m__law_bounds = (sSeq bo0 (sSeq bo1 (sSeq bo2 (sSeq bo3 (sSeq bo4 (sSeq bo5 (sSeq bo6 bo7))))))) := rfl
section
variable {hp : List Cell} {n e : Nat} {t q x y f : Int} {w : Way} {lo hi : Option Int} {env : List (Option M)} {s s1 : MS} {o5 : Option M}
theorem sq_dec {tt : MT} {e : ME} {rest : MStm} {p : Prop} [Decidable p] {m : M} (g : tt s = .ok (decide p) s) (he : p → e s = .ok m s) : sSeq (sIf tt (sRet e) sNx) rest s = if p then .ok (.rt m) s else rest s := by
  by_cases h : p
  · rw [decide_eq_true h] at g
    rw [if_pos h]
    exact seq_rt ((if_of (k := true) g).trans (ret_of (he h)))
  · rw [decide_eq_false h] at g
    rw [if_neg h]
    exact seq_nx ((if_of (k := false) g).trans rfl)
theorem sq_no {tt : MT} {e : ME} {rest : MStm} (g : tt s = .ok false s) : sSeq (sIf tt (sRet e) sNx) rest s = rest s := seq_nx ((if_of (k := false) g).trans rfl)
theorem sq_yes {tt : MT} {e : ME} {rest : MStm} {m : M} (g : tt s = .ok true s) (he : e s = .ok m s) : sSeq (sIf tt (sRet e) sNx) rest s = .ok (.rt m) s := seq_rt ((if_of (k := true) g).trans (ret_of he))
theorem and_d {a b : MT} {p r : Prop} [Decidable p] [Decidable r] (h1 : a s = .ok (decide p) s) (h2 : b s = .ok (decide r) s) : mAnd a b s = .ok (decide (p ∧ r)) s := by
  by_cases hp' : p
  · rw [decide_eq_true hp'] at h1
    rw [(and_tt h1).trans h2]
    by_cases hr : r
    · rw [decide_eq_true hr, decide_eq_true ⟨hp', hr⟩]
    · rw [decide_eq_false hr, decide_eq_false (fun z => hr z.2)]
  · rw [decide_eq_false hp'] at h1
    rw [and_f h1, decide_eq_false (fun z => hp' z.1)]
instance : Decidable (LS t q w lo hi) := by cases lo <;> cases hi <;> (unfold LS; infer_instance)
abbrev eLw (t q : Int) (w : Way) (lo hi : Option Int) (c : Bool) : List (Option M) := [some (.tup [.int t, .int q]), some (wM w), some (oM lo), some (oM hi), some (.bl c), some (.int t), some (.int q)]
theorem rt_iff {b : Bool} {P : Prop} [Decidable P] (h : b = true ↔ P) : (Res.ok (Fl.rt (.bl b)) s : Res Fl) = .ok (.rt (.bl (decide P))) s := by
  cases b with
  | true => rw [decide_eq_true (h.mp rfl)]
  | false => rw [decide_eq_false (fun z => by cases h.mpr z)]
theorem abs2 : absI t < 2 ↔ (-2 < t ∧ t < 2) := by
  unfold absI
  split <;> omega
theorem eqd {a b : Int} : (a == b) = decide (a = b) := by
  by_cases h : a = b
  · rw [decide_eq_true h, beq_iff_eq.mpr h]
  · rw [decide_eq_false h, beq_eq_false_iff_ne.mpr h]
section
variable {c : Bool}
theorem t_one : mB (m2 (oEqK false (oEqD false)) (mv 5) (mc (.int 1))) ⟨eLw t q w lo hi c, hp⟩ = .ok (decide (t = 1)) ⟨eLw t q w lo hi c, hp⟩ := by
  rw [← eqd]
  exact b_of (m2_of (mv_of rfl) (b := mc (.int 1)) (y := .int 1) rfl eq_int)
theorem q_zero : mB (m2 (oEqK false (oEqD false)) (mv 6) (mc (.int 0))) ⟨eLw t q w lo hi c, hp⟩ = .ok (decide (q = 0)) ⟨eLw t q w lo hi c, hp⟩ := by
  rw [← eqd]
  exact b_of (m2_of (mv_of rfl) (b := mc (.int 0)) (y := .int 0) rfl eq_int)
theorem t_two : mB (m2 oLt (mCall (mCons (mv 5) mNil) cAbs) (mc (.int 2))) ⟨eLw t q w lo hi c, hp⟩ = .ok (decide (-2 < t ∧ t < 2)) ⟨eLw t q w lo hi c, hp⟩ := by
  rw [← decide_eq_decide.mpr abs2]
  rfl
theorem w_down : m2 (oEqK false (oEqD false)) (mv 1) (mc (.str "down")) ⟨eLw t q w lo hi c, hp⟩ = .ok (.bl (decide (w = .down))) ⟨eLw t q w lo hi c, hp⟩ := by cases w <;> kernel_rfl
theorem w_ndown : m2 (oEqK true (oEqD true)) (mv 1) (mc (.str "down")) ⟨eLw t q w lo hi c, hp⟩ = .ok (.bl (decide (w ≠ .down))) ⟨eLw t q w lo hi c, hp⟩ := by cases w <;> kernel_rfl
theorem w_far : m2 (oEqK false (oEqD false)) (mv 1) (mc (.str "far")) ⟨eLw t q w lo hi c, hp⟩ = .ok (.bl (decide (w = .far))) ⟨eLw t q w lo hi c, hp⟩ := by cases w <;> kernel_rfl
theorem w_df : m2 (oInTs false) (mv 1) (mTup (mCons (mc (.str "down")) (mCons (mc (.str "far")) mNil))) ⟨eLw t q w lo hi c, hp⟩ = .ok (.bl (decide (w = .down ∨ w = .far))) ⟨eLw t q w lo hi c, hp⟩ := by cases w <;> kernel_rfl
theorem w_uf : m2 (oInTs false) (mv 1) (mTup (mCons (mc (.str "up")) (mCons (mc (.str "far")) mNil))) ⟨eLw t q w lo hi c, hp⟩ = .ok (.bl (decide (w = .up ∨ w = .far))) ⟨eLw t q w lo hi c, hp⟩ := by cases w <;> kernel_rfl
theorem q_pos {u v : ME} : mIf (mB (m2 oGt (mv 6) (mc (.int 0)))) u v ⟨eLw t q w lo hi c, hp⟩ = if 0 < q then u ⟨eLw t q w lo hi c, hp⟩ else v ⟨eLw t q w lo hi c, hp⟩ := by
  have g : mB (m2 oGt (mv 6) (mc (.int 0))) ⟨eLw t q w lo hi c, hp⟩ = .ok (decide (0 < q)) ⟨eLw t q w lo hi c, hp⟩ := rfl
  refine (Lw.mif_of g).trans ?_
  by_cases h : 0 < q
  · rw [decide_eq_true h, if_pos rfl, if_pos h]
  · rw [decide_eq_false h, if_neg (by decide), if_neg h]
end
theorem or_ff {a b : MT} {p : Prop} [Decidable p] (h1 : a s = .ok (decide p) s) (h2 : b s = .ok false s) : mOr a b s = .ok (decide p) s := by
  by_cases hp' : p
  · rw [decide_eq_true hp'] at h1 ⊢
    unfold mOr; rw [h1]; rfl
  · rw [decide_eq_false hp'] at h1 ⊢
    exact (or_f h1).trans h2
theorem start_at : sSeq ls0 (sSeq ls1 (sSeq ls2 (sSeq ls3 (sSeq ls4 (sSeq ls5 (sSeq ls6 (sSeq ls7 (sSeq ls8 ls9)))))))) ⟨[some (.tup [.int t, .int q]), some (wM w), some (oM lo), some (oM hi), none, none, none], hp⟩ = (sSeq ls2 (sSeq ls3 (sSeq ls4 (sSeq ls5 (sSeq ls6 (sSeq ls7 (sSeq ls8 ls9))))))) ⟨eLw t q w lo hi (lo.isSome && hi.isSome), hp⟩ := by
  refine (seq_nx (a := ls0) (s1 := ⟨[some (.tup [.int t, .int q]), some (wM w), some (oM lo), some (oM hi), none, some (.int t), some (.int q)], hp⟩) rfl).trans ?_
  refine seq_nx (a := ls1) ?_
  cases lo <;> cases hi <;> rfl
theorem lsafe_at (ht : T15 t) : F__law_safe [.tup [.int t, .int q], wM w, oM lo, oM hi] hp = .ok (.bl (decide (LS t q w lo hi))) hp := by
  have mo : ∀ x, mulOk t x = true := fun x => decide_eq_true (Or.inl ⟨by have := ht.1; omega, by have := ht.2; omega⟩)
  refine (show F__law_safe [.tup [.int t, .int q], wM w, oM lo, oM hi] hp = bodyF 4 7 m__law_safe [.tup [.int t, .int q], wM w, oM lo, oM hi] hp from rfl).trans (body_rt (s' := ⟨eLw t q w lo hi (lo.isSome && hi.isSome), hp⟩) ?_)
  rw [lsm_eq]
  refine start_at.trans ?_
  cases lo with
  | none =>
    cases hi with
    | none =>
      have g2 : lsT2 ⟨eLw t q w none none false, hp⟩ = .ok (decide (t = 1 ∧ q = 0)) ⟨eLw t q w none none false, hp⟩ := (or_f (and_f rfl)).trans (and_d t_one q_zero)
      have g5 : lsT5 ⟨eLw t q w none none false, hp⟩ = .ok (decide (-2 < t ∧ t < 2)) ⟨eLw t q w none none false, hp⟩ := or_ff t_two rfl
      have v4 : lsE4 ⟨eLw t q w none none false, hp⟩ = .ok (.bl (if 0 < q then decide (w = .down) else decide (w ≠ .down))) ⟨eLw t q w none none false, hp⟩ := by
        refine q_pos.trans ?_
        by_cases h : 0 < q
        · rw [if_pos h, if_pos h]; exact (andv_t rfl).trans w_down
        · rw [if_neg h, if_neg h]; exact (andv_t rfl).trans w_ndown
      refine (sq_dec (m := .bl true) g2 fun _ => rfl).trans ?_
      rw [show (sSeq ls3 (sSeq ls4 (sSeq ls5 (sSeq ls6 (sSeq ls7 (sSeq ls8 ls9)))))) ⟨eLw t q w none none false, hp⟩ = _ from sq_no (and_f rfl), show (sSeq ls4 (sSeq ls5 (sSeq ls6 (sSeq ls7 (sSeq ls8 ls9))))) ⟨eLw t q w none none false, hp⟩ = _ from sq_dec t_one fun _ => v4,
        show (sSeq ls5 (sSeq ls6 (sSeq ls7 (sSeq ls8 ls9)))) ⟨eLw t q w none none false, hp⟩ = _ from sq_dec (m := .bl false) g5 fun _ => rfl, show (sSeq ls6 (sSeq ls7 (sSeq ls8 ls9))) ⟨eLw t q w none none false, hp⟩ = _ from sq_yes rfl w_far]
      repeat' split
      all_goals refine rt_iff ?_
      all_goals unfold LS
      all_goals simp only [decide_eq_true_eq]
      all_goals (cases w <;> simp <;> omega)
    | some h =>
      have g2 : lsT2 ⟨eLw t q w none (some h) false, hp⟩ = .ok (decide (t = 1 ∧ q = 0)) ⟨eLw t q w none (some h) false, hp⟩ := (or_f (and_f rfl)).trans (and_d t_one q_zero)
      have g5 : lsT5 ⟨eLw t q w none (some h) false, hp⟩ = .ok (decide (-2 < t ∧ t < 2)) ⟨eLw t q w none (some h) false, hp⟩ := or_ff t_two rfl
      have v4 : lsE4 ⟨eLw t q w none (some h) false, hp⟩ = .ok (.bl (if 0 < q then false else decide (w ≠ .down))) ⟨eLw t q w none (some h) false, hp⟩ := by
        refine q_pos.trans ?_
        by_cases z : 0 < q
        · rw [if_pos z, if_pos z]; exact andv_f rfl
        · rw [if_neg z, if_neg z]; exact (andv_t rfl).trans w_ndown
      have g7 : lsT7 ⟨eLw t q w none (some h) false, hp⟩ = .ok (decide (t < 0)) ⟨eLw t q w none (some h) false, hp⟩ := rfl
      have le : m2 oLe (m2 oAdd (m2 oMul (mv 5) (mv 3)) (mv 6)) (mv 3) ⟨eLw t q w none (some h) false, hp⟩ = .ok (.bl (decide (t * h + q ≤ h))) ⟨eLw t q w none (some h) false, hp⟩ := m2_of (m2_of (m2_of (mv_of rfl) (mv_of rfl) (mul_g (mo h))) (mv_of rfl) rfl) (mv_of rfl) rfl
      refine (sq_dec (m := .bl true) g2 fun _ => rfl).trans ?_
      rw [show (sSeq ls3 (sSeq ls4 (sSeq ls5 (sSeq ls6 (sSeq ls7 (sSeq ls8 ls9)))))) ⟨eLw t q w none (some h) false, hp⟩ = _ from sq_no (and_f rfl), show (sSeq ls4 (sSeq ls5 (sSeq ls6 (sSeq ls7 (sSeq ls8 ls9))))) ⟨eLw t q w none (some h) false, hp⟩ = _ from sq_dec t_one fun _ => v4,
        show (sSeq ls5 (sSeq ls6 (sSeq ls7 (sSeq ls8 ls9)))) ⟨eLw t q w none (some h) false, hp⟩ = _ from sq_dec (m := .bl false) g5 fun _ => rfl, show (sSeq ls6 (sSeq ls7 (sSeq ls8 ls9))) ⟨eLw t q w none (some h) false, hp⟩ = _ from sq_no rfl,
        show (sSeq ls7 (sSeq ls8 ls9)) ⟨eLw t q w none (some h) false, hp⟩ = _ from sq_dec (m := .bl false) g7 fun _ => rfl, show (sSeq ls8 ls9) ⟨eLw t q w none (some h) false, hp⟩ = _ from sq_no rfl, show ls9 ⟨eLw t q w none (some h) false, hp⟩ = _ from ret_of (andv_d le w_uf)]
      repeat' split
      all_goals refine rt_iff ?_
      all_goals unfold LS
      all_goals simp only [decide_eq_true_eq]
      all_goals (cases w <;> simp <;> omega)
  | some l =>
    cases hi with
    | none =>
      have g2 : lsT2 ⟨eLw t q w (some l) none false, hp⟩ = .ok (decide (t = 1 ∧ q = 0)) ⟨eLw t q w (some l) none false, hp⟩ := (or_f (and_f rfl)).trans (and_d t_one q_zero)
      have g5 : lsT5 ⟨eLw t q w (some l) none false, hp⟩ = .ok (decide (-2 < t ∧ t < 2)) ⟨eLw t q w (some l) none false, hp⟩ := or_ff t_two rfl
      have v4 : lsE4 ⟨eLw t q w (some l) none false, hp⟩ = .ok (.bl (if 0 < q then decide (w = .down) else false)) ⟨eLw t q w (some l) none false, hp⟩ := by
        refine q_pos.trans ?_
        by_cases z : 0 < q
        · rw [if_pos z, if_pos z]; exact (andv_t rfl).trans w_down
        · rw [if_neg z, if_neg z]; exact andv_f rfl
      have g7 : lsT7 ⟨eLw t q w (some l) none false, hp⟩ = .ok (decide (t < 0)) ⟨eLw t q w (some l) none false, hp⟩ := rfl
      have ge : m2 oGe (m2 oAdd (m2 oMul (mv 5) (mv 2)) (mv 6)) (mv 2) ⟨eLw t q w (some l) none false, hp⟩ = .ok (.bl (decide (l ≤ t * l + q))) ⟨eLw t q w (some l) none false, hp⟩ := m2_of (m2_of (m2_of (mv_of rfl) (mv_of rfl) (mul_g (mo l))) (mv_of rfl) rfl) (mv_of rfl) rfl
      refine (sq_dec (m := .bl true) g2 fun _ => rfl).trans ?_
      rw [show (sSeq ls3 (sSeq ls4 (sSeq ls5 (sSeq ls6 (sSeq ls7 (sSeq ls8 ls9)))))) ⟨eLw t q w (some l) none false, hp⟩ = _ from sq_no (and_f rfl), show (sSeq ls4 (sSeq ls5 (sSeq ls6 (sSeq ls7 (sSeq ls8 ls9))))) ⟨eLw t q w (some l) none false, hp⟩ = _ from sq_dec t_one fun _ => v4,
        show (sSeq ls5 (sSeq ls6 (sSeq ls7 (sSeq ls8 ls9)))) ⟨eLw t q w (some l) none false, hp⟩ = _ from sq_dec (m := .bl false) g5 fun _ => rfl, show (sSeq ls6 (sSeq ls7 (sSeq ls8 ls9))) ⟨eLw t q w (some l) none false, hp⟩ = _ from sq_no (and_f rfl),
        show (sSeq ls7 (sSeq ls8 ls9)) ⟨eLw t q w (some l) none false, hp⟩ = _ from sq_dec (m := .bl false) g7 fun _ => rfl, show (sSeq ls8 ls9) ⟨eLw t q w (some l) none false, hp⟩ = _ from sq_yes rfl (andv_d ge w_df)]
      repeat' split
      all_goals refine rt_iff ?_
      all_goals unfold LS
      all_goals simp only [decide_eq_true_eq]
      all_goals (cases w <;> simp <;> omega)
    | some h =>
      have g2 : lsT2 ⟨eLw t q w (some l) (some h) true, hp⟩ = .ok (decide (h < l ∨ (t = 1 ∧ q = 0))) ⟨eLw t q w (some l) (some h) true, hp⟩ := or_d ((and_tt rfl).trans rfl) (and_d t_one q_zero)
      have g3 : lsT3 ⟨eLw t q w (some l) (some h) true, hp⟩ = .ok (decide (l = h)) ⟨eLw t q w (some l) (some h) true, hp⟩ := by
        rw [← eqd]
        exact (and_tt rfl).trans (b_of (m2_of (mv_of rfl) (mv_of rfl) eq_int))
      have v3 : lsE3 ⟨eLw t q w (some l) (some h) true, hp⟩ = .ok (.bl (decide (t * l + q = l))) ⟨eLw t q w (some l) (some h) true, hp⟩ := by
        rw [← eqd]
        exact m2_of (m2_of (m2_of (mv_of rfl) (mv_of rfl) (mul_g (mo l))) (mv_of rfl) rfl) (mv_of rfl) eq_int
      have v4 : lsE4 ⟨eLw t q w (some l) (some h) true, hp⟩ = .ok (.bl false) ⟨eLw t q w (some l) (some h) true, hp⟩ := by
        refine q_pos.trans ?_
        by_cases z : 0 < q
        · rw [if_pos z]; exact andv_f rfl
        · rw [if_neg z]; exact andv_f rfl
      have g5 : lsT5 ⟨eLw t q w (some l) (some h) true, hp⟩ = .ok true ⟨eLw t q w (some l) (some h) true, hp⟩ := by
        have := or_d (s := ⟨eLw t q w (some l) (some h) true, hp⟩) (b := mB (mv 4)) (r := True) t_two rfl
        rw [decide_eq_true (Or.inr trivial)] at this
        exact this
      refine (sq_dec (m := .bl true) g2 fun _ => rfl).trans ?_
      rw [show (sSeq ls3 (sSeq ls4 (sSeq ls5 (sSeq ls6 (sSeq ls7 (sSeq ls8 ls9)))))) ⟨eLw t q w (some l) (some h) true, hp⟩ = _ from sq_dec g3 fun _ => v3, show (sSeq ls4 (sSeq ls5 (sSeq ls6 (sSeq ls7 (sSeq ls8 ls9))))) ⟨eLw t q w (some l) (some h) true, hp⟩ = _ from sq_dec t_one fun _ => v4,
        show (sSeq ls5 (sSeq ls6 (sSeq ls7 (sSeq ls8 ls9)))) ⟨eLw t q w (some l) (some h) true, hp⟩ = _ from sq_yes (m := .bl false) g5 rfl]
      repeat' split
      all_goals refine rt_iff ?_
      all_goals unfold LS
      all_goals simp only [decide_eq_true_eq]
      all_goals (simp <;> omega)
end
end Lw
namespace Lw
open L2 Ma PySem.Spec PySem PyProof.Rows
/-! bounds drawn; sums of formulas -/
section
variable {hp hp1 B : List Cell} {n L k j : Nat} {a b i t q p t' p' x : Int} {m v : M} {env : List (Option M)} {s : MS} {c c0 : Cell}
theorem pickB_at {ms : List M} (h : hp[n]? = some c0) (P : IsPen c0) (hL : hp[L]? = some (.lst ms)) (hne : n ≠ L) (h0 : 0 < ms.length) (h1 : (ms.length : Int) < 1073741824) :
    ∃ m c', m ∈ ms ∧ F__law_pick [.box n, .box L] hp = .ok m (hp.set n c') ∧ IsPen c' := by
  obtain ⟨d, c', e, d0, d1, p'⟩ := draw_at h P (m := (ms.length : Int)) (by omega) (by omega)
  have hd : d.toNat < ms.length := by omega
  have hL2 : (hp.set n c')[L]? = some (.lst ms) := by rw [List.getElem?_set_ne hne]; exact hL
  refine ⟨ms[d.toNat], c', List.getElem_mem hd, ?_, p'⟩
  have l1 : mCall (mCons (mv 1) mNil) (cLenD cLen) ⟨[some (.box n), some (.box L)], hp⟩ = .ok (.int ms.length) ⟨[some (.box n), some (.box L)], hp⟩ := by
    refine call_of (mone (mv_of rfl)) ?_
    simp [cLenD, dictOf, hL, cLen, seqL, lstOf]
  have f := fnE (F := F__law_draw) (env := [some (.box n), some (.box L)]) (mcons_of (a := mv 0) (mv_of rfl) (mone l1)) e
  refine (show F__law_pick [.box n, .box L] hp = bodyF 2 2 m__law_pick [.box n, .box L] hp from rfl).trans (body_rt (s' := ⟨[some (.box n), some (.box L)], hp.set n c'⟩) (ret_of (m2_of (mv_of rfl) f ?_)))
  have h3 : d < ms.length := d1
  simp [oIxD, dictOf, hL2, oIx, seqL, lstOf, atI, ixN, d0, h3, hd]
abbrev optM (z : Option Int × Option Int) : M := .tup [oM z.1, oM z.2]
abbrev b0T : MT := (mB (m2 (oEqK true (oEqD true)) (m2 (oIxD oIx) (mv 1) (mc (.int 0))) (mc (.int 1))))
abbrev b1E : ME := (mCall (mCons (mNeg (m2 oPow (mc (.int 10)) (mc (.int 14)))) (mCons (mCall (mCons (m2 oPow (mc (.int 10)) (mc (.int 14))) (mCons (mv 2) mNil)) cMin) mNil)) cMax)
abbrev b5E : ME := (mTup (mCons (mv 4) (mCons (m2 oSub (m2 (oIxD oIx) (mv 1) (mc (.int 1))) (mv 4)) mNil)))
abbrev b7E : ME := (mIf (mOr (mB (m2 (oIsN false) (mv 9) (mc .non))) (mB (m2 oLt (mCall (mCons (mv 9) mNil) cAbs) (m2 oPow (mc (.int 10)) (mc (.int 15)))))) (mTup (mCons (mv 8) (mCons (mv 9) mNil))) (mTup (mCons (mv 8) (mCons (mc .non) mNil))))
abbrev eB (n : Nat) (t q : Int) (o2 o3 o4 o5 o6 o7 o8 o9 : Option M) : List (Option M) := [some (.box n), some (.tup [.int t, .int q]), o2, o3, o4, o5, o6, o7, o8, o9]
theorem b0_at (ht : T15 t) : ∃ m0 : Int, bo0 ⟨eB n t q none none none none none none none none, hp⟩ = .ok .nx ⟨eB n t q (some (.int m0)) none none none none none none none, hp⟩ := by
  have g : b0T ⟨eB n t q none none none none none none none none, hp⟩ = .ok (!(t == 1)) ⟨eB n t q none none none none none none none none, hp⟩ := by rfl
  by_cases h : t = 1
  · rw [show (t == 1) = true from beq_iff_eq.mpr h] at g
    exact ⟨0, set_of (s1 := ⟨eB n t q none none none none none none none none, hp⟩) ((Lw.mif_of (q := false) g).trans rfl)⟩
  · rw [show (t == 1) = false from beq_eq_false_iff_ne.mpr h] at g
    refine ⟨q.fdiv (1 - t), set_of (s1 := ⟨eB n t q none none none none none none none none, hp⟩) ((Lw.mif_of (q := true) g).trans ?_)⟩
    rw [if_pos rfl]
    unfold T15 at ht
    exact m2_of (x := .int q) (y := .int (1 - t)) rfl rfl (if_pos (decide_eq_true ⟨by omega, by omega⟩))
theorem b1_at {m0 : Int} : ∃ m1 : Int, bo1 ⟨eB n t q (some (.int m0)) none none none none none none none, hp⟩ = .ok .nx ⟨eB n t q (some (.int m1)) none none none none none none none, hp⟩ ∧ -100000000000000 ≤ m1 ∧ m1 ≤ 100000000000000 := by
  have e : b1E ⟨eB n t q (some (.int m0)) none none none none none none none, hp⟩ = .ok (.int (if (if m0 < 100000000000000 then m0 else 100000000000000) > -100000000000000 then (if m0 < 100000000000000 then m0 else 100000000000000) else -100000000000000)) ⟨eB n t q (some (.int m0)) none none none none none none none, hp⟩ := by rfl
  exact ⟨_, set_of (s1 := ⟨eB n t q (some (.int m0)) none none none none none none none, hp⟩) e, by split <;> omega, by (repeat' split) <;> omega⟩
theorem draw2 {e : ME} {d0 : Int} (o : Option M) {m1 dm : Int} (hc : hp[n]? = some c) (P : IsPen c) (h0 : 0 < dm) (h2 : dm < 18446744073709551616) {o3 o4 o5 o6 o7 o8 o9 : Option M} {cc : Int} :
    ∃ d c', m2 oSub (m2 oAdd (mv 2) (mFn (mCons (mv 0) (mCons (mc (.int dm)) mNil)) F__law_draw)) (mc (.int cc)) ⟨eB n t q (some (.int m1)) o3 o4 o5 o6 o7 o8 o9, hp⟩ = .ok (.int (m1 + d - cc)) ⟨eB n t q (some (.int m1)) o3 o4 o5 o6 o7 o8 o9, hp.set n c'⟩ ∧ 0 ≤ d ∧ d < dm ∧ IsPen c' := by
  obtain ⟨d, c', e, d0, d1, P'⟩ := draw_at (m := dm) hc P h0 h2
  exact ⟨d, c', m2_of (m2_of (mv_of rfl) (fnE (F := F__law_draw) (mcons_of (a := mv 0) (mv_of rfl) (mone (a := mc (.int dm)) rfl)) e) rfl) (b := mc (.int cc)) (y := .int cc) rfl rfl, d0, d1, P'⟩
theorem bounds_at (hc : hp[n]? = some c) (P : IsPen c) (ht : T15 t) (hq : T15 q) : ∃ lo hi c' ex, F__law_bounds [.box n, .tup [.int t, .int q]] hp = .ok (.tup [oM lo, oM hi]) (hp.set n c' ++ ex) ∧ IsPen c' ∧ SmO lo ∧ SmO hi := by
  have hn := lt_of hc
  obtain ⟨m0, s0⟩ := b0_at (n := n) (q := q) (hp := hp) ht
  obtain ⟨m1, s1, ml, mu⟩ := b1_at (n := n) (t := t) (q := q) (hp := hp) (m0 := m0)
  obtain ⟨d, c1, e1, d0, d1, P1⟩ := draw2 (t := t) (q := q) (e := mv 0) (d0 := 0) none (m1 := m1) (dm := 9) (cc := 4) hc P (by decide) (by decide) (o3 := none) (o4 := none) (o5 := none) (o6 := none) (o7 := none) (o8 := none) (o9 := none)
  have hc1 : (hp.set n c1)[n]? = some c1 := List.getElem?_set_self hn
  obtain ⟨d', c2, e2, d0', d1', P2⟩ := draw2 (t := t) (q := q) (e := mv 0) (d0 := 0) none (m1 := m1) (dm := 25) (cc := 12) hc1 P1 (by decide) (by decide) (o3 := none) (o4 := none) (o5 := none) (o6 := none) (o7 := none) (o8 := none) (o9 := none)
  rw [List.set_set] at e2
  generalize hy : m1 + d - 4 = y at e1
  generalize hz : m1 + d' - 12 = z at e2
  have s2 : bo2 ⟨eB n t q (some (.int m1)) none none none none none none none, hp⟩ = .ok .nx ⟨eB n t q (some (.int m1)) none (some (.int y)) (some (.int z)) none none none none, hp.set n c2⟩ := par2_of (s1 := ⟨eB n t q (some (.int m1)) none none none none none none none, hp.set n c2⟩) (mcons_of e1 (mone e2))
  generalize hsm : (if z < y then z else y) = sm
  generalize hgr : (if z > y then z else y) = gr
  have s3 : bo3 ⟨eB n t q (some (.int m1)) none (some (.int y)) (some (.int z)) none none none none, hp.set n c2⟩ = .ok .nx ⟨eB n t q (some (.int m1)) none (some (.int y)) (some (.int z)) (some (.int sm)) (some (.int gr)) none none, hp.set n c2⟩ := by
    rw [← hsm, ← hgr]
    rfl
  have hlen : (hp.set n c2).length = hp.length := List.length_set
  have s4 : bo4 ⟨eB n t q (some (.int m1)) none (some (.int y)) (some (.int z)) (some (.int sm)) (some (.int gr)) none none, hp.set n c2⟩ = .ok .nx ⟨eB n t q (some (.int m1)) (some (.box (hp.set n c2).length)) (some (.int y)) (some (.int z)) (some (.int sm)) (some (.int gr)) none none, hp.set n c2 ++ [.lst ([(none, none), (some sm, none), (none, some gr), (some sm, some gr), (some sm, some sm), (some (gr + 1), some (sm - 1))].map optM)]⟩ := by rfl
  rw [hlen] at s4
  generalize hA : hp.set n c2 ++ [Cell.lst ([(none, none), (some sm, none), (none, some gr), (some sm, some gr), (some sm, some sm), (some (gr + 1), some (sm - 1))].map optM)] = A at s4
  have gA : A[hp.length]? = some (.lst ([(none, none), (some sm, none), (none, some gr), (some sm, some gr), (some sm, some sm), (some (gr + 1), some (sm - 1))].map optM)) := by
    rw [← hA, ← hlen]
    exact List.getElem?_concat_length
  have nA : A[n]? = some c2 := by
    rw [← hA, List.getElem?_append_left (by rw [hlen]; exact hn)]
    exact List.getElem?_set_self hn
  have s5 : bo5 ⟨eB n t q (some (.int m1)) (some (.box hp.length)) (some (.int y)) (some (.int z)) (some (.int sm)) (some (.int gr)) none none, A⟩ = .ok .nx ⟨eB n t q (some (.int m1)) (some (.box hp.length)) (some (.int y)) (some (.int z)) (some (.int sm)) (some (.int gr)) none none, A.set hp.length (.lst ([(none, none), (some sm, none), (none, some gr), (some sm, some gr), (some sm, some sm), (some (gr + 1), some (sm - 1)), (some y, some (q - y))].map optM))⟩ := by
    have v : b5E ⟨eB n t q (some (.int m1)) (some (.box hp.length)) (some (.int y)) (some (.int z)) (some (.int sm)) (some (.int gr)) none none, A⟩ = .ok (optM (some y, some (q - y))) ⟨eB n t q (some (.int m1)) (some (.box hp.length)) (some (.int y)) (some (.int z)) (some (.int sm)) (some (.int gr)) none none, A⟩ := by rfl
    show sExpr (mAppend (mv 3) b5E) _ = _
    simp [sExpr, mAppend, mMeth, mv, isBoxL, gA, mone v, Res.bind, fAppend, big]
  generalize hC : A.set hp.length (.lst ([(none, none), (some sm, none), (none, some gr), (some sm, some gr), (some sm, some sm), (some (gr + 1), some (sm - 1)), (some y, some (q - y))].map optM)) = D at s5
  have gD : D[hp.length]? = some (.lst ([(none, none), (some sm, none), (none, some gr), (some sm, some gr), (some sm, some sm), (some (gr + 1), some (sm - 1)), (some y, some (q - y))].map optM)) := by
    rw [← hC]
    exact List.getElem?_set_self (lt_of gA)
  have nD : D[n]? = some c2 := by
    rw [← hC, List.getElem?_set_ne (by omega)]
    exact nA
  obtain ⟨mm, c3, hmm, e6, P3⟩ := pickB_at nD P2 gD (by omega) (by simp) (by simp)
  obtain ⟨⟨lo, hi⟩, hmem, rfl⟩ := List.mem_map.mp hmm
  have s6 : bo6 ⟨eB n t q (some (.int m1)) (some (.box hp.length)) (some (.int y)) (some (.int z)) (some (.int sm)) (some (.int gr)) none none, D⟩ = .ok .nx ⟨eB n t q (some (.int m1)) (some (.box hp.length)) (some (.int y)) (some (.int z)) (some (.int sm)) (some (.int gr)) (some (oM lo)) (some (oM hi)), D.set n c3⟩ := by
    have f := fnE (F := F__law_pick) (env := eB n t q (some (.int m1)) (some (.box hp.length)) (some (.int y)) (some (.int z)) (some (.int sm)) (some (.int gr)) none none) (mcons_of (a := mv 0) (mv_of rfl) (mone (a := mv 3) (mv_of rfl))) e6
    show (mFn (mCons (mv 0) (mCons (mv 3) mNil)) F__law_pick _).bind _ = _
    rw [f]
    rfl
  have bnd : (∀ l, lo = some l → -200000000000000 < l ∧ l < 200000000000000) := by
    simp only [List.mem_cons, List.not_mem_nil, or_false, Prod.mk.injEq] at hmem
    intro l hl
    have h1 : sm = y ∨ sm = z := by rw [← hsm]; split <;> simp
    have h2 : gr = y ∨ gr = z := by rw [← hgr]; split <;> simp
    rcases hmem with h | h | h | h | h | h | h <;> (rw [hl] at h; simp at h) <;> omega
  have Dx : ∃ ex, D.set n c3 = hp.set n c3 ++ ex := by
    refine ⟨[.lst ([(none, none), (some sm, none), (none, some gr), (some sm, some gr), (some sm, some sm), (some (gr + 1), some (sm - 1)), (some y, some (q - y))].map optM)], ?_⟩
    rw [← hC, ← hA, List.set_append_right _ _ (by rw [hlen]; exact Nat.le_refl _), hlen, Nat.sub_self, List.set_append_left _ _ (by rw [hlen]; exact hn), List.set_set]
    rfl
  obtain ⟨ex, hex⟩ := Dx
  have g7 : ∃ hi', b7E ⟨eB n t q (some (.int m1)) (some (.box hp.length)) (some (.int y)) (some (.int z)) (some (.int sm)) (some (.int gr)) (some (oM lo)) (some (oM hi)), D.set n c3⟩ = .ok (.tup [oM lo, oM hi']) ⟨eB n t q (some (.int m1)) (some (.box hp.length)) (some (.int y)) (some (.int z)) (some (.int sm)) (some (.int gr)) (some (oM lo)) (some (oM hi)), D.set n c3⟩ ∧ SmO hi' := by
    cases hi with
    | none => exact ⟨none, (Lw.mif_of (q := true) (or_t' rfl)).trans rfl, fun l h => by cases h⟩
    | some u =>
      have g : mOr (mB (m2 (oIsN false) (mv 9) (mc .non))) (mB (m2 oLt (mCall (mCons (mv 9) mNil) cAbs) (m2 oPow (mc (.int 10)) (mc (.int 15))))) ⟨eB n t q (some (.int m1)) (some (.box hp.length)) (some (.int y)) (some (.int z)) (some (.int sm)) (some (.int gr)) (some (oM lo)) (some (oM (some u))), D.set n c3⟩ = .ok (decide (absI u < 1000000000000000)) ⟨eB n t q (some (.int m1)) (some (.box hp.length)) (some (.int y)) (some (.int z)) (some (.int sm)) (some (.int gr)) (some (oM lo)) (some (oM (some u))), D.set n c3⟩ := (or_f rfl).trans (by kernel_rfl)
      by_cases h : absI u < 1000000000000000
      · rw [decide_eq_true h] at g
        refine ⟨some u, (Lw.mif_of g).trans rfl, fun l hl => ?_⟩
        cases hl
        unfold absI at h
        unfold T15
        split at h <;> omega
      · rw [decide_eq_false h] at g
        exact ⟨none, (Lw.mif_of g).trans rfl, fun l hl => by cases hl⟩
  obtain ⟨hi', e7, sh⟩ := g7
  refine ⟨lo, hi', c3, ex, ?_, P3, fun l hl => by have := bnd l hl; unfold T15; omega, sh⟩
  rw [← hex]
  refine (show F__law_bounds [.box n, .tup [.int t, .int q]] hp = bodyF 2 10 m__law_bounds [.box n, .tup [.int t, .int q]] hp from rfl).trans (body_rt (s' := ⟨eB n t q (some (.int m1)) (some (.box hp.length)) (some (.int y)) (some (.int z)) (some (.int sm)) (some (.int gr)) (some (oM lo)) (some (oM hi)), D.set n c3⟩) ?_)
  rw [bom_eq]
  exact (seq_nx s0).trans ((seq_nx s1).trans ((seq_nx s2).trans ((seq_nx s3).trans ((seq_nx s4).trans ((seq_nx s5).trans ((seq_nx s6).trans (ret_of e7)))))))
/-! ### sums of formulas -/
end
end Lw
namespace Lw
/-- what the law calls safe is safe at every key, however far -/
theorem ls_all {t q x : Int} {w : Way} {lo hi : Option Int} (h : LS t q w lo hi) (hw : WI lo hi x) : ¬Cfl t q w lo hi x := by
  unfold Cfl
  cases lo with
  | none =>
    cases hi with
    | none =>
      simp only [LS, WI] at *
      rintro ⟨a, b⟩
      rcases h with ⟨rfl, rfl⟩ | ⟨rfl, h⟩ | ⟨h, rfl⟩
      · omega
      · cases w <;> simp [VB] at * <;> omega
      · simp [VB] at b; omega
    | some u =>
      simp only [LS, WI] at *
      rintro ⟨a, b⟩
      rcases h with ⟨rfl, rfl⟩ | ⟨rfl, h, h'⟩ | ⟨h, h2, h'⟩
      · omega
      · cases w <;> simp [VB] at * <;> omega
      · have m := mul_up h hw
        generalize t * u = y at *
        generalize t * x = z at *
        rcases h' with rfl | rfl <;> simp only [VB] at b <;> omega
  | some l =>
    cases hi with
    | none =>
      simp only [LS, WI] at *
      rintro ⟨a, b⟩
      rcases h with ⟨rfl, rfl⟩ | ⟨rfl, h, rfl⟩ | ⟨h, h2, h'⟩
      · omega
      · simp only [VB] at b; omega
      · have m := mul_up h hw
        generalize t * l = y at *
        generalize t * x = z at *
        rcases h' with rfl | rfl <;> simp only [VB] at b <;> omega
    | some u =>
      simp only [LS, WI] at *
      rintro ⟨a, b⟩
      rcases h with h | ⟨rfl, rfl⟩ | ⟨rfl, h⟩
      · omega
      · omega
      · have : x = l := by omega
        subst this; exact a h
def mvI (t q k : Int) : Int := t * k + q - k
/-- the row a is visited before the row b -/
def Bf (t q : Int) : Way → Int → Int → Prop
  | .up, a, b => a < b
  | .down, a, b => b < a
  | .near, a, b => (mvI t q a).natAbs < (mvI t q b).natAbs ∨ ((mvI t q a).natAbs = (mvI t q b).natAbs ∧ a < b)
  | .far, a, b => (mvI t q b).natAbs < (mvI t q a).natAbs ∨ ((mvI t q a).natAbs = (mvI t q b).natAbs ∧ a < b)
theorem mv_new {t q n x : Int} (e : n = t * x + q) : (mvI t q n).natAbs = t.natAbs * (mvI t q x).natAbs := by
  rw [← Int.natAbs_mul]; congr 1; subst e; unfold mvI
  rw [Int.mul_sub, Int.mul_add]; omega
theorem vb_bf {t q n x : Int} {w : Way} (t0 : t ≠ 0) (e : n = t * x + q) (ne : n ≠ x) : VB w t n x ↔ Bf t q w n x := by
  have m := mv_new e
  have p : 0 < (mvI t q x).natAbs := by unfold mvI; omega
  cases w with
  | up => rfl
  | down => rfl
  | far =>
    simp only [VB, Bf]
    by_cases h1 : t = 1 ∨ t = -1
    · have : t.natAbs = 1 := by omega
      rw [m, this]; simp [h1]
    · have : 2 ≤ t.natAbs := by omega
      have := Nat.mul_le_mul_right (mvI t q x).natAbs this
      simp [h1]; omega
  | near =>
    simp only [VB, Bf]
    by_cases h1 : t = 1 ∨ t = -1
    · have : t.natAbs = 1 := by omega
      rw [m, this]; simp [h1]
    · have : 2 ≤ t.natAbs := by omega
      have := Nat.mul_le_mul_right (mvI t q x).natAbs this
      simp [h1]; omega
/-- where the row r goes -/
def NwR (t q : Int) (lo hi : Option Int) (r n : Int) : Prop := (WI lo hi r ∧ n = t * r + q) ∨ (¬WI lo hi r ∧ n = r)
/-- a row that meets no conflict anywhere: whatever rows there are, none of them holds its new key when it is visited -/
theorem no_hit {t q r o nr no : Int} {w : Way} {lo hi : Option Int} {P : Prop} (hs : ∀ x, WI lo hi x → ¬Cfl t q w lo hi x)
    (hr : NwR t q lo hi r nr) (ho : NwR t q lo hi o no) (ne : nr ≠ r) (or : o ≠ r) (hb : ¬P → WI lo hi o → Bf t q w r o) (as : ∀ {a b}, Bf t q w a b → ¬Bf t q w b a) :
    ¬((P ∧ no = nr) ∨ (¬P ∧ o = nr)) := by
  rcases hr with ⟨hi1, e⟩ | ⟨_, e⟩
  · have c := hs r hi1
    unfold Cfl at c
    rw [← e] at c
    have c2 : t ≠ 0 ∧ t ≠ -1 := by constructor <;> intro z <;> exact c ⟨ne, .inl (by simp [z])⟩
    have c3 : WI lo hi nr := Classical.byContradiction fun z => c ⟨ne, .inr (.inl z)⟩
    have c4 : VB w t nr r := Classical.byContradiction fun z => c ⟨ne, .inr (.inr z)⟩
    rintro (⟨_, h⟩ | ⟨np, h⟩)
    · rcases ho with ⟨_, e2⟩ | ⟨z, e2⟩
      · have : t * o = t * r := by omega
        exact or (Int.eq_of_mul_eq_mul_left c2.1 this)
      · rw [e2] at h; rw [h] at z; exact z c3
    · subst h
      exact as (hb np c3) ((vb_bf c2.1 e ne).1 c4)
  · exact absurd e ne
theorem Bf.asymm {t q a b : Int} {w : Way} (h : Bf t q w a b) : ¬Bf t q w b a := by
  cases w <;> simp only [Bf] at * <;> omega
/-- of a row that meets a conflict and the row at its new key, one meets it when both are visited: the new key's row first -/
theorem hit_first {t q k o no : Int} {w : Way} {lo hi : Option Int} (hk : WI lo hi k) (c : Cfl t q w lo hi k) (e : o = t * k + q) (ho : NwR t q lo hi o no) (b : WI lo hi o) (hb : Bf t q w o k) :
    no = o ∨ no = k := by
  rcases ho with ⟨_, e2⟩ | ⟨z, _⟩
  · rcases c with ⟨ne, (rfl | rfl) | z | z⟩
    · left; rw [e2, e]; simp
    · right; rw [e2, e]; omega
    · rw [← e] at z; exact absurd b z
    · rw [← e] at z ne
      by_cases t0 : t = 0
      · subst t0; left; rw [e2, e]; simp
      · exact absurd ((vb_bf t0 e ne).2 hb) z
  · exact absurd b z
end Lw
-- LACK srtP_perm
-- LACK srtP_srt
namespace Lw
open L2 Ma PySem.Spec PySem PyProof.Rows
/-! RB -/
def KB (i : Int) : Prop := -10 ^ 30 < i ∧ i < 10 ^ 30
def KP (p : IP) : Prop := KB p.1 ∧ KB p.2
/-- the rows of a table: keys, each once, at most 40 -/
structure Rows (ps : List IP) : Prop where
  kp : ∀ p ∈ ps, KP p
  nd : (keysP ps).Nodup
  le : ps.length ≤ 40
/-! RC -/
abbrev insT (d : Nat) : Cell := .ins "Table" [("_new_keys", .box d)]
structure TabAt (hp : List Cell) (n d : Nat) (T : List IP) : Prop where
  i : hp[n]? = some (insT d)
  d : hp[d]? = some (.dK (dm T))
/-! RG -/
theorem TabAt.app {hp ex : List Cell} {n d : Nat} {T : List IP} (h : TabAt hp n d T) : TabAt (hp ++ ex) n d T := by
  have g : ∀ {i : Nat} {c : Cell}, hp[i]? = some c → (hp ++ ex)[i]? = some c := fun {i c} e => by
    obtain ⟨hl, _⟩ := List.getElem?_eq_some_iff.mp e
    rw [List.getElem?_append_left hl]; exact e
  exact ⟨g h.i, g h.d⟩
theorem ix_lst {ms : List M} {j : Nat} {m : M} {s : MS} (h : ms[j]? = some m) : oIxD oIx (.lst ms) (.int (j : Nat)) s = .ok m s := by
  obtain ⟨hl, e⟩ := List.getElem?_eq_some_iff.mp h
  have h1 : ((j : Nat) : Int) < ms.length := by omega
  simp [oIxD, dictOf, oIx, seqL, lstOf, atI, ixN, h1, h]
  try omega
/-! RJ -/
theorem ix_int {js : List Int} {j : Nat} {s : MS} (h : j < js.length) : oIxD oIx (.lst (js.map M.int)) (.int (j : Nat)) s = .ok (.int js[j]) s :=
  ix_lst (by rw [List.getElem?_map, List.getElem?_eq_getElem h]; rfl)
/-! SB -/
theorem dictOf_w {hp : List Cell} {w : Nat} {kms : List (L2.Key × M)} (h : hp[w]? = some (.dK kms)) : dictOf hp (.box w) = some kms := by
  unfold dictOf
  dsimp only
  rw [h]
section
variable {L w : Nat} {hp : List Cell} {W : List IP} {k v row : Int} {env : List (Option M)} {i j : Nat} {neg : Bool} {o : M → M → MS → Res M}
theorem ne_int {x y : Int} {s : MS} : oEqK true (oEqD true) (.int x) (.int y) s = .ok (.bl (!(x == y))) s := rfl
end
/-! SC -/
structure TW (hp : List Cell) (n d w : Nat) (T W : List IP) : Prop where
  t : TabAt hp n d T
  hw : hp[w]? = some (.dK (dm W))
  dw : d ≠ w
  r : Rows T
  s : Srt T
  p : W.Perm T
theorem TW.app {hp ex : List Cell} {n d w : Nat} {T W : List IP} (h : TW hp n d w T W) : TW (hp ++ ex) n d w T W := by
  have g : ∀ {i : Nat} {c : Cell}, hp[i]? = some c → (hp ++ ex)[i]? = some c := fun {i c} e => by
    obtain ⟨hl, _⟩ := List.getElem?_eq_some_iff.mp e
    rw [List.getElem?_append_left hl]; exact e
  exact ⟨⟨g h.t.i, g h.t.d⟩, g h.hw, h.dw, h.r, h.s, h.p⟩
theorem set_back {hp : List Cell} {w : Nat} {c c' : Cell} (h : hp[w]? = some c) : (hp.set w c').set w c = hp := by
  obtain ⟨hl, e⟩ := List.getElem?_eq_some_iff.mp h
  rw [List.set_set, ← e, List.set_getElem_self]
theorem keysM_dm (W : List IP) : keysM (dm W) = (keysP W).map M.int := by
  unfold keysM dm keysP
  rw [List.map_map, List.map_map, List.map_map]
  rfl
/-! GA -/
section
variable {A B hp hp' : List Cell} {n d w : Nat} {T W : List IP} {c c' : Cell}
theorem dictOf_f {kms : List (L2.Key × M)} (h : hp[w]? = some (.dF kms)) : dictOf hp (.box w) = some kms := by
  unfold dictOf
  dsimp only
  rw [h]
theorem Ext.set2 (e : Ext (A.set w c) hp) (h : A[w]? = some c') : Ext A (hp.set w c') := fun k q hk => by
  by_cases z : w = k
  · subst z
    rw [h] at hk
    cases hk
    have hl := lt_of h
    have := e w c (List.getElem?_set_self hl)
    exact List.getElem?_set_self (lt_of this)
  · rw [List.getElem?_set_ne z]
    exact e k q (by rw [List.getElem?_set_ne z]; exact hk)
theorem lock_ext {i w : Nat} {kms : List (L2.Key × M)} {b : MStm} {env env' : List (Option M)} {fl : Fl} (hs : env[i]? = some (some (.box w))) (hw : hp[w]? = some (.dK kms)) (hb : b ⟨env, hp.set w (.dF kms)⟩ = .ok fl ⟨env', hp'⟩) (e : Ext (hp.set w (.dF kms)) hp') :
    sLock i b ⟨env, hp⟩ = .ok fl ⟨env', hp'.set w (.dK kms)⟩ ∧ Ext hp (hp'.set w (.dK kms)) := by
  have hl := lt_of hw
  refine ⟨?_, Ext.set2 e hw⟩
  unfold sLock
  rw [show (MS.env ⟨env, hp⟩)[i]? = some (some (.box w)) from hs]
  dsimp only
  rw [hw]
  dsimp only
  rw [hb]
  unfold unlk
  dsimp only
  rw [e w _ (List.getElem?_set_self hl)]
end
/-! GB -/
section
variable {n d w L : Nat} {T W : List IP} {hp B : List Cell} {k : Int}
theorem ikey_f {i : Nat} {env : List (Option M)} (hi : env[i]? = some (some (.box d))) (h : hp[d]? = some (.dF (dm T))) : iKey (mv i) ⟨env, hp⟩ = .ok ((keysP T).map M.int) ⟨env, hp⟩ := by
  unfold iKey
  rw [mv_of hi]
  show (match hp[d]? with | some (.dF kms) => Res.ok (keysM kms) _ | _ => Res.stuck) = _
  rw [h]
  dsimp only
  rw [keysM_dm]
end
/-! HB -/
section
variable {n d w D : Nat} {T W : List IP} {hp B : List Cell} {acc : List Int}
theorem ix_hdL {a : Int} {r : List Int} {s : MS} : oIxD oIx (.lst ((a :: r).map M.int)) (.int 0) s = .ok (.int a) s := ix_int (js := a :: r) (j := 0) (by simp)
end
/-! CL -/
section
variable {n d w L D : Nat} {T W ps : List IP} {hp hp' A B : List Cell} {c c' : Cell} {k v row : Int} {env : List (Option M)} {i j : Nat} {neg : Bool} {o : M → M → MS → Res M} {l : List Int} {ks p done acc R : List Int} {y : M} {g : Int → Option Int} {st res : List Int} {e : Str}
theorem eq_nil {neg : Bool} {ms : List M} (h : ∀ m ∈ ms, DatOk m) {s : MS} : oEqK neg (oEqD neg) (.lst ms) (.lst []) s = .ok (.bl (if neg then !ms.isEmpty else ms.isEmpty)) s := by
  obtain ⟨ds, e1, e2, e3, e4⟩ := datL_ok h
  unfold oEqK
  rw [show dictOf s.hp (.lst ms) = none from rfl, show dictOf s.hp (.lst []) = none from rfl]
  dsimp only
  unfold oEqD
  have t1 : datT s.hp (.lst ms) = some (.list ds) := by
    show (datL ms).map PyData.list = _
    rw [e1]; rfl
  rw [t1, show datT s.hp (.lst []) = some (.list []) from rfl]
  dsimp only
  have sh : (SeqAt.shaped (.list ds) && SeqAt.shaped (.list [])) = true := by
    have a : SeqAt.shaped (.list ds) = true := by
      unfold SeqAt.shaped
      rw [show PyData.canLay0 (.list ds) = true from e2, show PyData.depth (.list ds) = PyData.depthAll ds + 1 from rfl, decide_eq_true (by omega)]; rfl
    rw [a]; rfl
  rw [if_pos sh]
  cases ms with
  | nil =>
    cases ds with
    | nil => cases neg <;> rfl
    | cons _ _ => simp at e4
  | cons m l =>
    cases ds with
    | nil => simp at e4
    | cons d ds => cases neg <;> simp [PyData.eqv, PyData.eqvAll]
theorem mtup2 {a b : ME} {s s1 s2 : MS} {x y : M} (ha : a s = .ok x s1) (hb : b s1 = .ok y s2) : mTup (mCons a (mCons b mNil)) s = .ok (.tup [x, y]) s2 := by
  unfold mTup
  rw [mcons_of ha (mone hb)]
  rfl
theorem sub_of {o i : ME} {f : FSet} {e : ME} {s s1 s2 s3 s4 : MS} {u x k : M} (he : e s = .ok u s1) (ho : o s1 = .ok x s2) (hi : i s2 = .ok k s3) (hf : f x k u s3 = .ok () s4) : sAsg e (Ma.gSub o i f) s = .ok .nx s4 := by
  unfold sAsg
  rw [he]
  show Res.bind (Ma.gSub o i f u s1) _ = _
  unfold Ma.gSub
  rw [ho]
  show Res.bind (Res.bind (i s2) _) _ = _
  rw [hi]
  show Res.bind (f x k u s3) _ = _
  rw [hf]
  rfl
theorem lock_same {hp : List Cell} {i w : Nat} {kms : List (L2.Key × M)} {b : MStm} {env env' : List (Option M)} {fl : Fl} (hs : env[i]? = some (some (.box w))) (hw : hp[w]? = some (.dK kms)) (hb : b ⟨env, hp.set w (.dF kms)⟩ = .ok fl ⟨env', hp.set w (.dF kms)⟩) : sLock i b ⟨env, hp⟩ = .ok fl ⟨env', hp⟩ := by
  have h := (lock_ext hs hw hb (Ext.refl _)).1
  rw [set_back hw] at h
  exact h
theorem map_rows (f : Int → Int) : ∀ l : List Int, (l.filter fun _ => true).map (fun k => pM (k, f k)) = rm (l.map fun k => (k, f k)) := fun l => by
  rw [List.filter_eq_self.mpr (fun _ _ => rfl)]
  unfold rm
  rw [List.map_map]
  rfl
theorem str_cmp {x y : Str} (hx : lowB x = true) (hy : lowB y = true) {s : MS} : oEqK false (oEqD false) (.str x) (.str y) s = .ok (.bl (x == y)) s := by
  show oEqD false (.str x) (.str y) _ = _
  rw [oEqD_str (lowS_of hx) (lowS_of hy)]
  rfl
end
/-! IA -/
abbrev Pl := Int → Option Int
section
variable {T : List IP} {P : Pl} {k r v n : Int} {o : List Int}
abbrev P0 : Pl := fun k => some k
end
/-! IC -/
def pv : Option Int → M
  | some i => .int i
  | none => .non
abbrev plM (ks : List Int) (P : Pl) : List (L2.Key × M) := ks.map fun k => (.inl k, pv (P k))
abbrev upP (P : Pl) (r : Int) (x : Option Int) : Pl := fun k => if k = r then x else P k
theorem plM_val {ks : List Int} {P : Pl} {k : Int} (h : k ∈ ks) : valG (plM ks P) (.inl k) = some (pv (P k)) := by
  unfold valG
  have : (plM ks P).find? (fun kv => decide (kv.1 = (.inl k : L2.Key))) = some (.inl k, pv (P k)) := by
    induction ks with
    | nil => simp at h
    | cons a ks ih =>
      by_cases e : a = k
      · subst e
        rw [plM, List.map_cons, List.find?_cons_of_pos (by simp)]
      · have hk : k ∈ ks := by
          rcases List.mem_cons.mp h with z | z
          · exact absurd z.symm e
          · exact z
        rw [plM, List.map_cons, List.find?_cons_of_neg (by simp; exact e)]
        exact ih hk
  rw [this]
  rfl
theorem plM_put {ks : List Int} {P : Pl} {r : Int} {x : Option Int} (h : r ∈ ks) : putG (plM ks P) (.inl r) (pv x) = plM ks (upP P r x) := by
  unfold putG
  have e : ((plM ks P).any fun kv => decide (kv.1 = (.inl r : L2.Key))) = true := List.any_eq_true.mpr ⟨(.inl r, pv (P r)), List.mem_map.mpr ⟨r, h, rfl⟩, by simp⟩
  rw [e, if_pos rfl, List.map_map]
  refine List.map_congr_left fun k _ => ?_
  by_cases z : k = r
  · subst z
    simp [upP]
  · have : ¬ (Sum.inl k : L2.Key) = .inl r := fun q => z (Sum.inl.inj q)
    simp [upP, z]
theorem plM_keys (ks : List Int) (P : Pl) : keysM (plM ks P) = ks.map M.int := by
  unfold keysM plM
  rw [List.map_map, List.map_map]
  rfl
theorem plM_congr {ks : List Int} {P Q : Pl} (h : ∀ k ∈ ks, P k = Q k) : plM ks P = plM ks Q := List.map_congr_left fun k hk => by rw [h k hk]
def hldB (P : Pl) (v r o : Int) : Bool := (P o == some v) && (o != r)
abbrev hldR (ks : List Int) (P : Pl) (v r : Int) : List Int := ks.filter (hldB P v r)
section
variable {w D : Nat} {T W ps : List IP} {hp B : List Cell} {p o ks : List Int} {r k : Int} {o5 o6 o7 : Option M} {P : Pl} {neg : Bool} {env : List (Option M)}
theorem ixp (hd : dictOf hp (.box D) = some (plM ks P)) (hk : k ∈ ks) : oIxD oIx (.box D) (.int k) ⟨env, hp⟩ = .ok (pv (P k)) ⟨env, hp⟩ := by
  unfold oIxD
  rw [show dictOf (MS.hp ⟨env, hp⟩) (.box D) = some (plM ks P) from hd]
  show (match valG (plM ks P) (.inl k) with | some m => Res.ok m _ | none => Res.stuck) = _
  rw [plM_val hk]
theorem ikey_p {i : Nat} (hi : env[i]? = some (some (.box D))) (h : hp[D]? = some (.dF (plM ks P))) : iKey (mv i) ⟨env, hp⟩ = .ok (ks.map M.int) ⟨env, hp⟩ := by
  unfold iKey
  rw [mv_of hi]
  show (match hp[D]? with | some (.dF kms) => Res.ok (keysM kms) _ | _ => Res.stuck) = _
  rw [h]
  dsimp only
  rw [plM_keys]
theorem pv_eq {x : Option Int} {v : Int} {s : MS} : oEqK false (oEqD false) (pv x) (.int v) s = .ok (.bl (x == some v)) s := by
  cases x with
  | none => rfl
  | some i =>
    have : (some i == some v) = (i == v) := rfl
    rw [this]
    exact eq_int
theorem pv_non {x : Option Int} {s : MS} : oIsN true (pv x) .non s = .ok (.bl x.isSome) s := by
  cases x <;> rfl
/-- the rows that are left, with their places -/
def lfR (ks : List Int) (P : Pl) : List IP := srtP ((ks.filter fun k => (P k).isSome).map fun k => (k, (P k).getD 0))
theorem ends_at (hD : hp[D]? = some (.dK (plM ks P))) (hl : ks.length ≤ 40) : F__law_ends [.box D] hp = .ok (.tup (rm (lfR ks P))) hp := by
  have hF : (hp.set D (.dF (plM ks P)))[D]? = some (.dF (plM ks P)) := List.getElem?_set_self (lt_of hD)
  have c1 : mLc [1] (iKey (mv 0)) (gSet 1) (mB (m2 (oIsN true) (m2 (oIxD oIx) (mv 0) (mv 1)) (mc .non))) (mTup (mCons (mv 1) (mCons (m2 (oIxD oIx) (mv 0) (mv 1)) mNil))) ⟨[some (.box D), none], hp.set D (.dF (plM ks P))⟩ = .ok (.lst ((ks.filter fun k => (P k).isSome).map fun k => pM (k, (P k).getD 0))) ⟨[some (.box D), none], hp.set D (.dF (plM ks P))⟩ := by
    refine mlc_if (em := M.int) (f := fun k => pM (k, (P k).getD 0)) (p := fun k => (P k).isSome) (ikey_p rfl hF) (Nat.le_trans hl (by decide)) fun k hk => ?_
    have ix : m2 (oIxD oIx) (mv 0) (mv 1) ⟨[some (.box D), some (.int k)], hp.set D (.dF (plM ks P))⟩ = .ok (pv (P k)) ⟨[some (.box D), some (.int k)], hp.set D (.dF (plM ks P))⟩ := m2_of (mv_of rfl) (mv_of rfl) (ixp (dictOf_f hF) hk)
    refine ⟨⟨[some (.box D), some (.int k)], hp.set D (.dF (plM ks P))⟩, [some (.box D), some (.int k)], rfl, b_of (m2_of ix (y := .non) rfl pv_non), fun z => ⟨[some (.box D), some (.int k)], ?_⟩⟩
    obtain ⟨i, hi⟩ := Option.isSome_iff_exists.mp z
    rw [hi] at ix ⊢
    exact mtup2 (mv_of rfl) ix
  have e : ((ks.filter fun k => (P k).isSome).map fun k => pM (k, (P k).getD 0)) = rm ((ks.filter fun k => (P k).isSome).map fun k => (k, (P k).getD 0)) := by
    unfold rm
    rw [List.map_map]
    rfl
  rw [e] at c1
  have c2 : mCall (mCons (mCall (mCons (mLc [1] (iKey (mv 0)) (gSet 1) (mB (m2 (oIsN true) (m2 (oIxD oIx) (mv 0) (mv 1)) (mc .non))) (mTup (mCons (mv 1) (mCons (m2 (oIxD oIx) (mv 0) (mv 1)) mNil)))) mNil) cSort) mNil) cTup ⟨[some (.box D), none], hp.set D (.dF (plM ks P))⟩ = .ok (.tup (rm (lfR ks P))) ⟨[some (.box D), none], hp.set D (.dF (plM ks P))⟩ := by
    refine call_of (mone (x := .lst (rm (lfR ks P))) (s1 := ⟨[some (.box D), none], hp.set D (.dF (plM ks P))⟩) (call_of (mone c1) ?_)) rfl
    show (match pairsOf (rm ((ks.filter fun k => (P k).isSome).map fun k => (k, (P k).getD 0))) with | some ps => Res.ok (M.lst ((srtP ps).map pM)) _ | none => Res.stuck) = _
    rw [pairsOf_rm]
    rfl
  have l := lock_same (i := 0) (env := [some (.box D), none]) rfl hD (ret_of c2)
  exact (show F__law_ends [.box D] hp = bodyF 1 2 m__law_ends [.box D] hp from rfl).trans (body_rt (s' := ⟨[some (.box D), none], hp⟩) l)
abbrev ixPl : ME := (m2 (oIxD oIx) (mv 4) (mv 9))
abbrev hLc : ME := (mLc [9] (iKey (mv 4)) (gSet 9) (mAnd (mB (m2 (oEqK false (oEqD false)) ixPl (mv 6))) (mB (m2 (oEqK true (oEqD true)) (mv 9) (mv 5)))) (mv 9))
def u1 : MStm := (sSet 6 (m2 (oIxD oIx) (mv 3) (mv 5)))
def u2 : MStm := (sLock 4 (sSet 7 hLc))
def uT : MT := (mAnd (mB (m2 (oIsN true) (m2 (oIxD oIx) (mv 4) (mv 5)) (mc .non))) (mB (m2 (oEqK true (oEqD true)) (mv 6) (mv 5))))
def wT (x : Str) : MT := (mAnd (mB (m2 (oEqK true (oEqD true)) (mv 7) (mLst mNil))) (mB (m2 (oEqK false (oEqD false)) (mv 2) (mc (.str x)))))
def eTf : MT := (mOr (mB (m2 (oEqK false (oEqD false)) (mv 7) (mLst mNil))) (mB (m2 (oEqK false (oEqD false)) (mv 2) (mc (.str "replace")))))
def xA : MStm := (sLock 3 (sRet (mTup (mCons (mTup (mCons (mv 5) (mCons (m2 (oIxD oIx) (mv 7) (mc (.int 0))) mNil))) (mCons (mCall (mCons (mCall (mCons (mLc [8] (iKey (mv 3)) (gSet 8) mYes (mTup (mCons (mv 8) (mCons (mv 8) mNil)))) mNil) cSort) mNil) cTup) mNil)))))
def xF : MStm := (sRet (mTup (mCons (mTup (mCons (mv 5) (mCons (m2 (oIxD oIx) (mv 7) (mc (.int 0))) mNil))) (mCons (mFn (mCons (mv 4) mNil) F__law_ends) mNil))))
def xR : MStm := (sAsg (mc .non) (Ma.gSub (mv 4) (m2 (oIxD oIx) (mv 7) (mc (.int 0))) (fSetD fSetL)))
def xM : MStm := (sAsg (mv 6) (Ma.gSub (mv 4) (mv 5) (fSetD fSetL)))
def u3 : MStm := sIf uT (sSeq (sIf (wT "abort") xA sNx) (sSeq (sIf (wT "fail") xF sNx) (sSeq (sIf (wT "replace") xR sNx) (sIf eTf xM sNx)))) sNx
def uB : MStm := sSeq u1 (sSeq u2 u3)
def u0 : MStm := (sLock 3 (sSet 4 (mCall (mCons (mLc [8] (iKey (mv 3)) (gSet 8) mYes (mTup (mCons (mv 8) (mCons (mv 8) mNil)))) mNil) cDict)))
def u9 : MStm := (sRet (mTup (mCons (mTup mNil) (mCons (mFn (mCons (mv 4) mNil) F__law_ends) mNil))))
theorem run_eq : m__law_run = (sSeq (sSet 3 (mCall (mCons (mv 0) mNil) cDict)) (sSeq u0 (sSeq (sForI (iSeq (mv 1)) (gSet 5) uB) u9))) := rfl
abbrev envU (x : Str) (ps : List IP) (o : List Int) (w D : Nat) (o5 o6 o7 : Option M) : List (Option M) := [some (.lst (rm ps)), some (tupI o), some (.str x), some (.box w), some (.box D), o5, o6, o7, none, none]
theorem u2_at {x : Str} {v : Int} (kl : ks.length ≤ 40) (hD : hp[D]? = some (.dK (plM ks P))) : u2 ⟨envU x ps o w D (some (.int r)) (some (.int v)) o7, hp⟩ = .ok .nx ⟨envU x ps o w D (some (.int r)) (some (.int v)) (some (.lst ((hldR ks P v r).map M.int))), hp⟩ := by
  have hF : (hp.set D (.dF (plM ks P)))[D]? = some (.dF (plM ks P)) := List.getElem?_set_self (lt_of hD)
  refine lock_same rfl hD (set_of (s1 := ⟨envU x ps o w D (some (.int r)) (some (.int v)) o7, hp.set D (.dF (plM ks P))⟩) ?_)
  refine mlc_if (em := M.int) (f := M.int) (p := hldB P v r) (ikey_p (i := 4) (env := envU x ps o w D (some (.int r)) (some (.int v)) o7) rfl hF) (Nat.le_trans kl (by decide)) fun q hq => ?_
  have ix : ixPl ⟨[some (.lst (rm ps)), some (tupI o), some (.str x), some (.box w), some (.box D), some (.int r), some (.int v), o7, none, some (.int q)], hp.set D (.dF (plM ks P))⟩ = .ok (pv (P q)) ⟨[some (.lst (rm ps)), some (tupI o), some (.str x), some (.box w), some (.box D), some (.int r), some (.int v), o7, none, some (.int q)], hp.set D (.dF (plM ks P))⟩ := m2_of (mv_of rfl) (mv_of rfl) (ixp (dictOf_f hF) hq)
  have t1 := b_of (m2_of (b := mv 6) (y := .int v) ix (mv_of rfl) pv_eq)
  have t2 : mB (m2 (oEqK true (oEqD true)) (mv 9) (mv 5)) ⟨[some (.lst (rm ps)), some (tupI o), some (.str x), some (.box w), some (.box D), some (.int r), some (.int v), o7, none, some (.int q)], hp.set D (.dF (plM ks P))⟩ = .ok (q != r) ⟨[some (.lst (rm ps)), some (tupI o), some (.str x), some (.box w), some (.box D), some (.int r), some (.int v), o7, none, some (.int q)], hp.set D (.dF (plM ks P))⟩ := b_of (m2_of (mv_of rfl) (mv_of rfl) ne_int)
  refine ⟨⟨[some (.lst (rm ps)), some (tupI o), some (.str x), some (.box w), some (.box D), some (.int r), some (.int v), o7, none, some (.int q)], hp.set D (.dF (plM ks P))⟩, [some (.lst (rm ps)), some (tupI o), some (.str x), some (.box w), some (.box D), some (.int r), some (.int v), o7, none, some (.int q)], rfl, ?_, fun _ => ⟨[some (.lst (rm ps)), some (tupI o), some (.str x), some (.box w), some (.box D), some (.int r), some (.int v), o7, none, some (.int q)], mv_of rfl⟩⟩
  unfold hldB
  cases e : P q == some v with
  | false => rw [e] at t1; exact and_f t1
  | true => rw [e] at t1; exact (and_tt t1).trans t2
abbrev envV (x : Str) (ps : List IP) (o : List Int) (w D : Nat) (r v : Int) (hs : List Int) : List (Option M) := envU x ps o w D (some (.int r)) (some (.int v)) (some (.lst (hs.map M.int)))
theorem wT_at {hs : List Int} {v : Int} {x y : Str} (hx : lowB x = true) (hy : lowB y = true) : wT x ⟨envV y ps o w D r v hs, hp⟩ = .ok (!hs.isEmpty && (y == x)) ⟨envV y ps o w D r v hs, hp⟩ := by
  have t1 : mB (m2 (oEqK true (oEqD true)) (mv 7) (mLst mNil)) ⟨envV y ps o w D r v hs, hp⟩ = .ok (!(hs.map M.int).isEmpty) ⟨envV y ps o w D r v hs, hp⟩ := b_of (m2_of (mv_of rfl) (y := .lst []) rfl (eq_nil fun m hm => by
    obtain ⟨i, _, rfl⟩ := List.mem_map.mp hm
    exact dat_int i))
  have t2 : mB (m2 (oEqK false (oEqD false)) (mv 2) (mc (.str x))) ⟨envV y ps o w D r v hs, hp⟩ = .ok (y == x) ⟨envV y ps o w D r v hs, hp⟩ := b_of (m2_of (mv_of rfl) (y := .str x) rfl (str_cmp hy hx))
  cases hs with
  | nil => exact and_f t1
  | cons a l => exact (and_tt t1).trans t2
theorem uT_at {hs : List Int} {v : Int} {x : Str} (hk : r ∈ ks) (hD : hp[D]? = some (.dK (plM ks P))) : uT ⟨envV x ps o w D r v hs, hp⟩ = .ok ((P r).isSome && (v != r)) ⟨envV x ps o w D r v hs, hp⟩ := by
  have ix : m2 (oIxD oIx) (mv 4) (mv 5) ⟨envV x ps o w D r v hs, hp⟩ = .ok (pv (P r)) ⟨envV x ps o w D r v hs, hp⟩ := m2_of (mv_of rfl) (mv_of rfl) (ixp (dictOf_w hD) hk)
  have t1 := b_of (m2_of ix (b := mc .non) (y := .non) rfl pv_non)
  unfold uT
  cases e : (P r).isSome with
  | false => rw [e] at t1; exact and_f t1
  | true => rw [e] at t1; exact (and_tt t1).trans (b_of (m2_of (mv_of rfl) (mv_of rfl) ne_int))
theorem put_p {x : Str} {hs : List Int} {v k : Int} {q : Option Int} {s : MS} (hk : k ∈ ks) (kl : ks.length ≤ 40) (hD : s.hp[D]? = some (.dK (plM ks P))) : fSetD fSetL (.box D) (.int k) (pv q) s = .ok () ⟨s.env, s.hp.set D (.dK (plM ks (upP P k q)))⟩ := by
  unfold fSetD
  have e2 : dictL s.hp (.box D) = some (plM ks P) := by unfold dictL; dsimp only; rw [hD]
  rw [e2]
  show (if (plM ks P).length < big then Res.ok () ⟨s.env, s.hp.set D (.dK (putG (plM ks P) (.inl k) (pv q)))⟩ else Res.stuck) = _
  rw [if_pos (by rw [List.length_map]; exact Nat.lt_of_le_of_lt kl (by decide)), plM_put hk]
theorem u0_at {x : Str} (kl : (keysP ps).length ≤ 40) (nd : (keysP ps).Nodup) (hB : B[w]? = some (.dK (dm ps))) : u0 ⟨[some (.lst (rm ps)), some (tupI o), some (.str x), some (.box w), none, none, none, none, none, none], B⟩ = .ok .nx ⟨envU x ps o w B.length none none none, B ++ [.dK (plM (keysP ps) P0)]⟩ := by
  have hF : (B.set w (.dF (dm ps)))[w]? = some (.dF (dm ps)) := List.getElem?_set_self (lt_of hB)
  have c1 : mLc [8] (iKey (mv 3)) (gSet 8) mYes (mTup (mCons (mv 8) (mCons (mv 8) mNil))) ⟨[some (.lst (rm ps)), some (tupI o), some (.str x), some (.box w), none, none, none, none, none, none], B.set w (.dF (dm ps))⟩ = .ok (.lst (((keysP ps).filter fun _ => true).map fun k => pM (k, id k))) ⟨[some (.lst (rm ps)), some (tupI o), some (.str x), some (.box w), none, none, none, none, none, none], B.set w (.dF (dm ps))⟩ := by
    refine mlc_if (em := M.int) (f := fun k => pM (k, id k)) (p := fun _ => true) (ikey_f rfl hF) (Nat.le_trans kl (by decide)) fun k hk => ?_
    exact ⟨⟨[some (.lst (rm ps)), some (tupI o), some (.str x), some (.box w), none, none, none, none, some (.int k), none], B.set w (.dF (dm ps))⟩, [some (.lst (rm ps)), some (tupI o), some (.str x), some (.box w), none, none, none, none, some (.int k), none], rfl, rfl, fun _ => ⟨[some (.lst (rm ps)), some (tupI o), some (.str x), some (.box w), none, none, none, none, some (.int k), none], mtup2 (mv_of rfl) (mv_of rfl)⟩⟩
  rw [map_rows id (keysP ps)] at c1
  have kk : keysP ((keysP ps).map fun k => (k, id k)) = keysP ps := by
    unfold keysP
    rw [List.map_map]
    conv => rhs; rw [← List.map_id (ps.map (·.1))]
    rfl
  have ed : dm ((keysP ps).map fun k => (k, id k)) = plM (keysP ps) P0 := by
    unfold dm plM
    rw [List.map_map]
    rfl
  have c2 : mCall (mCons (mLc [8] (iKey (mv 3)) (gSet 8) mYes (mTup (mCons (mv 8) (mCons (mv 8) mNil)))) mNil) cDict ⟨[some (.lst (rm ps)), some (tupI o), some (.str x), some (.box w), none, none, none, none, none, none], B.set w (.dF (dm ps))⟩ = .ok (.box B.length) ⟨[some (.lst (rm ps)), some (tupI o), some (.str x), some (.box w), none, none, none, none, none, none], B.set w (.dF (dm ps)) ++ [.dK (plM (keysP ps) P0)]⟩ := by
    refine call_of (mone c1) ?_
    unfold cDict
    dsimp only
    rw [show seqL (MS.hp ⟨[some (.lst (rm ps)), some (tupI o), some (.str x), some (.box w), none, none, none, none, none, none], B.set w (.dF (dm ps))⟩) (.lst (rm ((keysP ps).map fun k => (k, id k)))) = some (rm ((keysP ps).map fun k => (k, id k))) from rfl]
    dsimp only
    rw [pairsM_rm]
    dsimp only
    rw [show mergeM [] (dm ((keysP ps).map fun k => (k, id k))) = dm ((keysP ps).map fun k => (k, id k)) from mergeM_dm (ps := []) (show (keysP ([] ++ (keysP ps).map fun k => (k, id k))).Nodup by rw [List.nil_append, kk]; exact nd)]
    rw [List.length_set, ed]
  have l := (lock_ext (i := 3) (env := [some (.lst (rm ps)), some (tupI o), some (.str x), some (.box w), none, none, none, none, none, none]) rfl hB (set_of (i := 4) c2) (Ext.app _ _)).1
  refine l.trans ?_
  rw [List.set_append_left _ _ (by rw [List.length_set]; exact lt_of hB), set_back hB]
  rfl
end
/-! N1 -/
def hB (v : Int → Int) (ks : List Int) (P : Int → Int) (r : Int) : Bool := ks.any fun o => (P o == v r) && (o != r)
def stN (v : Int → Int) (ks : List Int) (P : Int → Int) (r : Int) : Int → Int := if v r ≠ r ∧ hB v ks P r = false then fun k => if k = r then v r else P k else P
section
variable {v : Int → Int} {P : Int → Int} {k r a b x : Int} {o p q ks S L R : List Int}
theorem hB_no : hB v ks P r = false ↔ ∀ o ∈ ks, P o = v r → o = r := by
  unfold hB
  rw [List.any_eq_false]
  simp
theorem hB_yes : hB v ks P r = true ↔ ∃ o ∈ ks, P o = v r ∧ o ≠ r := by
  unfold hB
  simp
theorem sn_no (h : v r = r ∨ hB v ks P r = true) : stN v ks P r = P := by
  unfold stN
  rw [if_neg]
  rintro ⟨h1, h2⟩
  rcases h with h | h
  · exact h1 h
  · rw [h] at h2; cases h2
theorem sn_mv (h1 : v r ≠ r) (h2 : hB v ks P r = false) (k : Int) : stN v ks P r k = if k = r then v r else P k := by
  unfold stN
  rw [if_pos ⟨h1, h2⟩]
end
/-! F1 -/
def flN (v : Int → Int) (ks : List Int) (P : Int → Int) : List Int → Option Int × (Int → Int)
  | [] => (none, P)
  | r :: o => if v r ≠ r ∧ hB v ks P r = true then (some r, P) else flN v ks (stN v ks P r) o
/-! FR -/
abbrev PN (P : Int → Int) : Pl := fun k => some (P k)
section
variable {w D : Nat} {T W ps : List IP} {hp B : List Cell} {o ks : List Int} {r k : Int} {o5 o6 o7 : Option M} {P Q : Int → Int} {env : List (Option M)} {v : Int → Int} {e : Option Int}
theorem hld_N {u : Int} : (hldR ks (PN P) u r).isEmpty = !(ks.any fun o => (P o == u) && (o != r)) := by
  unfold hldR
  rw [Bool.eq_iff_iff, List.isEmpty_iff, Bool.not_eq_true', List.filter_eq_nil_iff, List.any_eq_false]
  unfold hldB
  simp
theorem eT_fa {u : Int} : eTf ⟨envV "fail" ps o w D r u [], hp⟩ = .ok true ⟨envV "fail" ps o w D r u [], hp⟩ := by
  have t1 : mB (m2 (oEqK false (oEqD false)) (mv 7) (mLst mNil)) ⟨envV "fail" ps o w D r u [], hp⟩ = .ok ((([] : List Int).map M.int).isEmpty) ⟨envV "fail" ps o w D r u [], hp⟩ := b_of (m2_of (mv_of rfl) (y := .lst []) rfl (eq_nil fun m hm => by simp at hm))
  exact or_t t1
theorem f3_nx (kl : ks.length ≤ 40) (hk : r ∈ ks) (hD : hp[D]? = some (.dK (plM ks (PN P)))) (hn : ¬ (v r ≠ r ∧ hB v ks P r = true)) :
    ∃ hp', u3 ⟨envV "fail" ps o w D r (v r) (hldR ks (PN P) (v r) r), hp⟩ = .ok .nx ⟨envV "fail" ps o w D r (v r) (hldR ks (PN P) (v r) r), hp'⟩ ∧ (hp' = hp ∨ ∃ c, hp' = hp.set D c) ∧ hp'[D]? = some (.dK (plM ks (PN (stN v ks P r)))) := by
  have t0 := uT_at (ps := ps) (o := o) (w := w) (hs := hldR ks (PN P) (v r) r) (v := v r) (x := "fail") hk hD
  rw [show ((PN P) r).isSome = true from rfl, Bool.true_and] at t0
  by_cases c2 : v r = r
  · rw [show (v r != r) = false by simp [c2]] at t0
    refine ⟨hp, (if_of t0).trans rfl, .inl rfl, ?_⟩
    rw [sn_no (.inl c2)]
    exact hD
  · rw [show (v r != r) = true by simpa using c2] at t0
    have hh : hB v ks P r = false := by
      cases h : hB v ks P r with
      | false => rfl
      | true => exact absurd ⟨c2, h⟩ hn
    have em : (hldR ks (PN P) (v r) r).isEmpty = true := by
      rw [hld_N, show (ks.any fun o => (P o == v r) && (o != r)) = false from hh]
      rfl
    have el : hldR ks (PN P) (v r) r = [] := List.isEmpty_iff.mp em
    rw [el] at t0 ⊢
    have no : ∀ {x : Str} {b : MStm}, lowB x = true → sIf (wT x) b sNx ⟨envV "fail" ps o w D r (v r) [], hp⟩ = .ok .nx ⟨envV "fail" ps o w D r (v r) [], hp⟩ := fun {x b} hx => by
      have t := wT_at (ps := ps) (o := o) (w := w) (D := D) (r := r) (hp := hp) (hs := []) (v := v r) (y := "fail") hx (by decide +kernel)
      exact (if_of t).trans rfl
    have m := put_p (x := "fail") (hs := []) (v := 0) (q := some (v r)) (s := ⟨envV "fail" ps o w D r (v r) [], hp⟩) hk kl hD
    have q : xM ⟨envV "fail" ps o w D r (v r) [], hp⟩ = .ok .nx ⟨envV "fail" ps o w D r (v r) [], hp.set D (.dK (plM ks (upP (PN P) r (some (v r)))))⟩ := sub_of (u := .int (v r)) (x := .box D) (k := .int r) (s3 := ⟨envV "fail" ps o w D r (v r) [], hp⟩) rfl rfl rfl m
    refine ⟨hp.set D (.dK (plM ks (upP (PN P) r (some (v r))))), ?_, .inr ⟨_, rfl⟩, ?_⟩
    · exact (if_of t0).trans ((if_pos rfl).trans ((seq_nx (no (by decide +kernel))).trans ((seq_nx (no (by decide +kernel))).trans ((seq_nx (no (by decide +kernel))).trans ((if_of eT_fa).trans ((if_pos rfl).trans q))))))
    · rw [List.getElem?_set_self (lt_of hD)]
      refine congrArg some (congrArg Cell.dK (plM_congr fun k _ => ?_))
      show (if k = r then some (v r) else some (P k)) = some (stN v ks P r k)
      rw [sn_mv c2 hh]
      split <;> rfl
theorem f3_rt (kl : ks.length ≤ 40) (hk : r ∈ ks) (hD : hp[D]? = some (.dK (plM ks (PN P)))) (hn : v r ≠ r ∧ hB v ks P r = true) :
    ∃ h0 : Int, u3 ⟨envV "fail" ps o w D r (v r) (hldR ks (PN P) (v r) r), hp⟩ = .ok (.rt (.tup [.tup [.int r, .int h0], .tup (rm (lfR ks (PN P)))])) ⟨envV "fail" ps o w D r (v r) (hldR ks (PN P) (v r) r), hp⟩ := by
  have t0 := uT_at (ps := ps) (o := o) (w := w) (hs := hldR ks (PN P) (v r) r) (v := v r) (x := "fail") hk hD
  rw [show ((PN P) r).isSome = true from rfl, Bool.true_and, show (v r != r) = true by simpa using hn.1] at t0
  have em : (hldR ks (PN P) (v r) r).isEmpty = false := by
    rw [hld_N, show (ks.any fun o => (P o == v r) && (o != r)) = true from hn.2]
    rfl
  cases el : hldR ks (PN P) (v r) r with
  | nil => rw [el] at em; cases em
  | cons a l =>
    rw [el] at t0
    have t1 := wT_at (ps := ps) (o := o) (w := w) (D := D) (r := r) (hp := hp) (hs := a :: l) (v := v r) (x := "abort") (y := "fail") (by decide +kernel) (by decide +kernel)
    rw [show (("fail" : Str) == "abort") = false from by decide +kernel, Bool.and_false] at t1
    have t2 := wT_at (ps := ps) (o := o) (w := w) (D := D) (r := r) (hp := hp) (hs := a :: l) (v := v r) (x := "fail") (y := "fail") (by decide +kernel) (by decide +kernel)
    rw [show (("fail" : Str) == "fail") = true from by decide +kernel] at t2
    have f1 := fnE (F := F__law_ends) (env := envV "fail" ps o w D r (v r) (a :: l)) (ma := mCons (mv 4) mNil) (mone (mv_of rfl)) (ends_at hD kl)
    have x1 : xF ⟨envV "fail" ps o w D r (v r) (a :: l), hp⟩ = .ok (.rt (.tup [.tup [.int r, .int a], .tup (rm (lfR ks (PN P)))])) ⟨envV "fail" ps o w D r (v r) (a :: l), hp⟩ :=
      ret_of (mtup2 (mtup2 (mv_of rfl) (m2_of (mv_of rfl) (y := .int 0) rfl ix_hdL)) f1)
    exact ⟨a, (if_of t0).trans ((if_pos rfl).trans ((seq_nx ((if_of t1).trans rfl)).trans (seq_rt ((if_of t2).trans ((if_pos rfl).trans x1)))))⟩
end
end Lw
namespace Lw
section
variable {v : Int → Int} {P : Int → Int} {k r a b x : Int} {o p q ks S L R : List Int}
/-- who has been asked is at its new key: a run that fails without a hit -/
def AtN (v : Int → Int) (p : List Int) (k : Int) : Int := if k ∈ p then v k else k
theorem at_step (h : v r = r ∨ hB v ks (AtN v p) r = false) : stN v ks (AtN v p) r = AtN v (p ++ [r]) := by
  unfold stN
  funext k
  by_cases e : v r = r
  · rw [if_neg (fun z => z.1 e)]
    unfold AtN
    by_cases kp : k ∈ p
    · rw [if_pos kp, if_pos (by simp [kp])]
    · by_cases kr : k = r
      · subst kr; rw [if_neg kp, if_pos (by simp), e]
      · rw [if_neg kp, if_neg (by simp [kp, kr])]
  · rw [if_pos ⟨e, h.resolve_left e⟩]
    unfold AtN
    by_cases kr : k = r
    · subst kr; rw [if_pos rfl, if_pos (by simp)]
    · rw [if_neg kr]
      by_cases kp : k ∈ p
      · rw [if_pos kp, if_pos (by simp [kp])]
      · rw [if_neg kp, if_neg (by simp [kp, kr])]
theorem fl_safe_go : ∀ (o : List Int) {p : List Int}, (∀ p' r q, p ++ o = p' ++ r :: q → p.length ≤ p'.length → v r ≠ r → hB v ks (AtN v p') r = false) → (flN v ks (AtN v p) o).1 = none
  | [], _, _ => rfl
  | r :: o, p, h => by
    have h0 := h p r o rfl (Nat.le_refl _)
    have c : ¬(v r ≠ r ∧ hB v ks (AtN v p) r = true) := fun z => by rw [h0 z.1] at z; cases z.2
    unfold flN
    rw [if_neg c, at_step (by by_cases e : v r = r; exact .inl e; exact .inr (h0 e))]
    exact fl_safe_go o fun p' r' q e l => h p' r' q (by rw [← e]; simp) (by simp at l; omega)
theorem at_0 : AtN v [] = fun k => k := by funext k; simp [AtN]
/-- no row is hit: the run does not stop -/
theorem fl_safe (h : ∀ p r q, o = p ++ r :: q → v r ≠ r → ∀ x ∈ ks, x ≠ r → ¬((x ∈ p ∧ v x = v r) ∨ (x ∉ p ∧ x = v r))) : (flN v ks (fun k => k) o).1 = none := by
  rw [← at_0 (v := v)]
  refine fl_safe_go o fun p r q e _ n => hB_no.mpr fun x hx hv => Classical.byContradiction fun ne => h p r q e n x hx ne ?_
  unfold AtN at hv
  by_cases xp : x ∈ p
  · rw [if_pos xp] at hv; exact .inl ⟨xp, hv⟩
  · rw [if_neg xp] at hv; exact .inr ⟨xp, hv⟩
/-- the row is asked first and its new key is the other's -/
theorem fl_two_first (ne : v a ≠ a) (e : v a = b) (hb : b ∈ ks) : (flN v ks (fun k => k) [a, b]).1 = some a := by
  unfold flN
  rw [if_pos ⟨ne, hB_yes.mpr ⟨b, hb, e.symm, fun z => ne (e.trans z)⟩⟩]
/-- the row at the new key is asked first: it stays, or wants this row's key -/
theorem fl_two_second (ne : v a ≠ a) (e : v a = b) (ha : a ∈ ks) (hb : b ∈ ks) (h : v b = b ∨ v b = a) : (flN v ks (fun k => k) [b, a]).1 ≠ none := by
  have nb : b ≠ a := fun z => ne (e.trans z)
  unfold flN
  by_cases c : v b ≠ b ∧ hB v ks (fun k => k) b = true
  · rw [if_pos c]; simp
  · rw [if_neg c]
    rcases h with h | h
    · have : stN v ks (fun k => k) b = fun k => k := by unfold stN; rw [if_neg (fun z => z.1 h)]
      rw [this]
      unfold flN
      rw [if_pos ⟨ne, hB_yes.mpr ⟨b, hb, e.symm, nb⟩⟩]; simp
    · exact absurd ⟨by rw [h]; exact fun z => nb z.symm, hB_yes.mpr ⟨a, ha, h.symm, fun z => nb z.symm⟩⟩ c
end
end Lw
namespace Lw
section
variable {t q : Int} {w : Way} {lo hi : Option Int} {v : Int → Int} {ks o : List Int}
/-- whatever rows there are: a safe scan of them stops nowhere -/
theorem scan_none (hs : ∀ x, WI lo hi x → ¬Cfl t q w lo hi x) (hv : ∀ k ∈ ks, NwR t q lo hi k (v k)) (ho : ∀ r ∈ o, r ∈ ks) (ha : ∀ k ∈ ks, k ∈ o)
    (P : o.Pairwise fun a b => WI lo hi a → WI lo hi b → Bf t q w a b) : (flN v ks (fun k => k) o).1 = none := by
  refine fl_safe fun p r qq e n x hx ne => ?_
  have hr : r ∈ ks := ho r (by rw [e]; simp)
  have wr : WI lo hi r := by
    rcases hv r hr with ⟨h, _⟩ | ⟨_, h⟩
    · exact h
    · exact absurd h n
  rw [e] at P
  have P2 := (List.pairwise_cons.mp (List.pairwise_append.mp P).2.1).1
  refine no_hit hs (hv r hr) (hv x hx) n ne (fun np wx => P2 x ?_ wr wx) Bf.asymm
  have := ha x hx
  rw [e] at this
  simp [np, ne] at this
  exact this
/-- a row that meets a conflict and the row at its new key: the scan of the two stops -/
theorem scan_two {k : Int} (hk : WI lo hi k) (c : Cfl t q w lo hi k) (hv : ∀ x ∈ ks, NwR t q lo hi x (v x)) (h1 : k ∈ ks) (h2 : t * k + q ∈ ks) (ho : o = [k, t * k + q] ∨ o = [t * k + q, k])
    (P : o.Pairwise fun a b => WI lo hi a → WI lo hi b → Bf t q w a b) (hf : o = [t * k + q, k] → WI lo hi (t * k + q)) : (flN v ks (fun k => k) o).1 ≠ none := by
  have e : v k = t * k + q := by
    rcases hv k h1 with ⟨_, h⟩ | ⟨h, _⟩
    · exact h
    · exact absurd hk h
  have ne : v k ≠ k := by rw [e]; exact c.1
  rcases ho with rfl | rfl
  · rw [fl_two_first ne e h2]; simp
  · have b := hf rfl
    have := (List.pairwise_cons.mp P).1 k (by simp) b hk
    exact fl_two_second ne e h1 h2 (hit_first hk c rfl (hv _ h2) b this)
end
end Lw
namespace Lw
open L2 Ma PySem.Spec PySem PyProof.Rows
/-! the law's order of keys -/
theorem Bf.trans {t q a b c : Int} {w : Way} (h : Bf t q w a b) (h2 : Bf t q w b c) : Bf t q w a c := by
  cases w <;> simp only [Bf] at * <;> omega
theorem Bf.total {t q a b : Int} (w : Way) (h : a ≠ b) : Bf t q w a b ∨ Bf t q w b a := by
  cases w <;> simp only [Bf] at * <;> omega
instance {t q a b : Int} {w : Way} : Decidable (Bf t q w a b) := by cases w <;> (unfold Bf; infer_instance)
theorem ex_ord (t q : Int) (w : Way) {I : List Int} (nd : I.Nodup) : ∃ J : List Int, J.Perm I ∧ J.Pairwise (Bf t q w) := by
  refine ⟨I.mergeSort fun a b => decide (a = b ∨ Bf t q w a b), List.mergeSort_perm _ _, ?_⟩
  have h := List.pairwise_mergeSort (le := fun a b => decide (a = b ∨ Bf t q w a b)) (fun a b c h1 h2 => by
    have h1 := of_decide_eq_true h1
    have h2 := of_decide_eq_true h2
    refine decide_eq_true ?_
    rcases h1 with rfl | h1
    · exact h2
    · rcases h2 with rfl | h2
      · exact .inr h1
      · exact .inr (h1.trans h2)) (fun a b => by
    by_cases e : a = b
    · rw [decide_eq_true (.inl e)]; rfl
    · rcases Bf.total (t := t) (q := q) w e with z | z
      · rw [decide_eq_true (.inr z)]; rfl
      · rw [Bool.or_eq_true]; exact .inr (decide_eq_true (.inr z))) I
  have n2 : (I.mergeSort fun a b => decide (a = b ∨ Bf t q w a b)).Nodup := (List.mergeSort_perm _ _).nodup_iff.mpr nd
  exact (h.and n2).imp fun {a b} z => (of_decide_eq_true z.1).resolve_left z.2
section
variable {t q k : Int} {w : Way} {lo hi : Option Int} {hp : List Cell} {I J K : List Int} {env : List (Option M)}
abbrev mA (t q k : Int) : Int := ((mvI t q k).natAbs : Int)
theorem absI_mv : (if t * k + q - k < 0 then -(t * k + q - k) else t * k + q - k) = mA t q k := by
  unfold mA mvI
  split <;> omega
def od0 : MStm := (sSet 3 (mCall (mCons (mLc [5] (iSeq (mv 0)) (gSet 5) mYes (mTup (mCons (mv 5) (mCons (mCall (mCons (m2 oSub (m2 oAdd (m2 oMul (m2 (oIxD oIx) (mv 1) (mc (.int 0))) (mv 5)) (m2 (oIxD oIx) (mv 1) (mc (.int 1)))) (mv 5)) mNil) cAbs) mNil)))) mNil) cDict))
abbrev odU : MT := mB (m2 (oEqK false (oEqD false)) (mv 2) (mc (.str "up")))
abbrev odT : MT := (mOr (mB (m2 (oEqK false (oEqD false)) (mv 2) (mc (.str "up")))) (mB (m2 (oEqK false (oEqD false)) (mv 2) (mc (.str "down")))))
abbrev odS : ME := (mIf (mB (m2 (oEqK false (oEqD false)) (mv 2) (mc (.str "up")))) (mCall (mCons (mv 0) mNil) cSortD) (mRevL (mCall (mCons (mv 0) mNil) cSortD)))
def od1 : MStm := (sIf odT (sRet odS) sNx)
abbrev odR : ME := (mCall (mCons (mLc [5] (iSeq (mv 0)) (gSet 5) mYes (mTup (mCons (m2 (oIxD oIx) (mv 3) (mv 5)) (mCons (mv 5) mNil)))) mNil) cSortD)
def od2 : MStm := (sSet 4 odR)
abbrev odN : ME := (mLc [6, 5] (iSeq (mv 4)) (gTupN [6, 5]) mYes (mv 5))
def od3 : MStm := (sIf (mB (m2 (oEqK false (oEqD false)) (mv 2) (mc (.str "near")))) (sRet odN) sNx)
abbrev odF : ME := (mCall (mCons (mLc [6, 5] (iSeq (mv 4)) (gTupN [6, 5]) mYes (mTup (mCons (m2 oSub (mc (.int 0)) (mv 6)) (mCons (mv 5) mNil)))) mNil) cSortD)
def od4 : MStm := (sRet (mLc [6, 5] (iSeq odF) (gTupN [6, 5]) mYes (mv 5)))
theorem od_eq : m__law_ordered = sSeq od0 (sSeq od1 (sSeq od2 (sSeq od3 od4))) := rfl
abbrev eO (I : List Int) (t q : Int) (w : Way) (o3 o4 : Option M) : List (Option M) := [some (.lst (I.map M.int)), some (.tup [.int t, .int q]), some (.str (wS w)), o3, o4, none, none]
theorem nk_at (ht : T15 t) {s : MS} {ke pe : ME} (hk : ke s = .ok (.int k) s) (hpr : pe s = .ok (.tup [.int t, .int q]) s) : m2 oAdd (m2 oMul (m2 (oIxD oIx) pe (mc (.int 0))) ke) (m2 (oIxD oIx) pe (mc (.int 1))) s = .ok (.int (t * k + q)) s := by
  have mo : mulOk t k = true := decide_eq_true (Or.inl ⟨by have := ht.1; omega, by have := ht.2; omega⟩)
  exact m2_of (m2_of (x := .int t) (m2_of hpr (b := mc (.int 0)) (y := .int 0) rfl rfl) hk (if_pos mo)) (y := .int q) (m2_of hpr (b := mc (.int 1)) (y := .int 1) rfl rfl) rfl
theorem dict_rws (ks : List Int) (v : Int → Int) (nd : ks.Nodup) {s : MS} : cDict [.lst (rm (ks.map fun k => (k, v k)))] s = .ok (.box s.hp.length) ⟨s.env, s.hp ++ [.dK (plM ks (PN v))]⟩ := by
  have kk : keysP (ks.map fun k => (k, v k)) = ks := by
    unfold keysP
    rw [List.map_map]
    conv => rhs; rw [← List.map_id ks]
    rfl
  unfold cDict
  dsimp only
  rw [show seqL s.hp (.lst (rm (ks.map fun k => (k, v k)))) = some (rm (ks.map fun k => (k, v k))) from rfl]
  dsimp only
  rw [pairsM_rm]
  dsimp only
  rw [show mergeM [] (dm (ks.map fun k => (k, v k))) = dm (ks.map fun k => (k, v k)) from mergeM_dm (ps := []) (show (keysP ([] ++ ks.map fun k => (k, v k))).Nodup by rw [List.nil_append, kk]; exact nd)]
  rw [show dm (ks.map fun k => (k, v k)) = plM ks (PN v) by unfold dm plM; rw [List.map_map]; rfl]
theorem filt_true {α β : Type} (l : List α) (f : α → β) : (l.filter fun _ => true).map f = l.map f := by
  rw [List.filter_eq_self.mpr (fun _ _ => rfl)]
theorem od0_at (ht : T15 t) (hl : I.length ≤ 40) (nd : I.Nodup) : od0 ⟨eO I t q w none none, hp⟩ = .ok .nx ⟨eO I t q w (some (.box hp.length)) none, hp ++ [.dK (plM I (PN (mA t q)))]⟩ := by
  have z := mlc_if (vs := [5]) (it := iSeq (mv 0)) (tg := gSet 5) (tt := mYes) (el := mTup (mCons (mv 5) (mCons (mCall (mCons (m2 oSub (m2 oAdd (m2 oMul (m2 (oIxD oIx) (mv 1) (mc (.int 0))) (mv 5)) (m2 (oIxD oIx) (mv 1) (mc (.int 1)))) (mv 5)) mNil) cAbs) mNil))) (em := M.int) (f := fun k => pM (k, mA t q k)) (p := fun _ => true) (xs := I) (s := ⟨eO I t q w none none, hp⟩) (s1 := ⟨eO I t q w none none, hp⟩) rfl (Nat.le_trans hl (by decide)) fun k _ =>
    ⟨⟨[some (.lst (I.map M.int)), some (.tup [.int t, .int q]), some (.str (wS w)), none, none, some (.int k), none], hp⟩, [some (.lst (I.map M.int)), some (.tup [.int t, .int q]), some (.str (wS w)), none, none, some (.int k), none], rfl, rfl, fun _ => ⟨_, mtup2 (mv_of rfl) (by
      refine call_of (mone (m2_of (nk_at (q := q) ht (mv_of rfl) (mv_of rfl)) (mv_of rfl) rfl)) ?_
      show Res.ok (M.int (if t * k + q - k < 0 then -(t * k + q - k) else t * k + q - k)) _ = _
      rw [absI_mv])⟩⟩
  rw [filt_true, show I.map (fun k => pM (k, mA t q k)) = rm (I.map fun k => (k, mA t q k)) by unfold rm; rw [List.map_map]; rfl] at z
  exact set_of (s1 := ⟨eO I t q w none none, hp ++ [.dK (plM I (PN (mA t q)))]⟩) (call_of (mone z) (dict_rws I (mA t q) nd))
theorem pw_lt_le {J : List Int} (h : J.Pairwise (· < ·)) : J.Pairwise (· ≤ ·) := h.imp fun z => Int.le_of_lt z
theorem lex2 {a b c d : Int} (h : a < c ∨ (a = c ∧ b < d)) : List.Lex (· < ·) [a, b] [c, d] := by
  rcases h with h | ⟨rfl, h⟩
  · exact .rel h
  · exact .cons (.rel h)
theorem od2_at (hD : hp[k.toNat]? = some (.dK (plM I (PN (mA t q))))) (hl : I.length ≤ 40) (hJ : J.Perm I) (pw : J.Pairwise (Bf t q .near)) {o4 : Option M} :
    od2 ⟨eO I t q w (some (.box k.toNat)) o4, hp⟩ = .ok .nx ⟨eO I t q w (some (.box k.toNat)) (some (.lst (J.map fun k => tupI [mA t q k, k]))), hp⟩ := by
  have z := mlc_if (vs := [5]) (it := iSeq (mv 0)) (tg := gSet 5) (tt := mYes) (el := mTup (mCons (m2 (oIxD oIx) (mv 3) (mv 5)) (mCons (mv 5) mNil))) (em := M.int) (f := fun k => tupI [mA t q k, k]) (p := fun _ => true) (xs := I) (s := ⟨eO I t q w (some (.box k.toNat)) o4, hp⟩) (s1 := ⟨eO I t q w (some (.box k.toNat)) o4, hp⟩) rfl (Nat.le_trans hl (by decide)) fun j hj =>
    ⟨⟨[some (.lst (I.map M.int)), some (.tup [.int t, .int q]), some (.str (wS w)), some (.box k.toNat), o4, some (.int j), none], hp⟩, [some (.lst (I.map M.int)), some (.tup [.int t, .int q]), some (.str (wS w)), some (.box k.toNat), o4, some (.int j), none], rfl, rfl, fun _ => ⟨_, mtup2 (x := .int (mA t q j)) (m2_of (mv_of rfl) (mv_of rfl) (ixp (dictOf_w hD) hj)) (mv_of rfl)⟩⟩
  rw [filt_true] at z
  have s := sortD_tups (L1 := I.map fun k => [mA t q k, k]) (L2 := J.map fun k => [mA t q k, k]) (hJ.symm.map _) (List.pairwise_map.mpr (pw.imp fun {a b} h => lex2 (by simp only [Bf] at h; unfold mA; omega))) (fun l hl => by
    obtain ⟨a, _, rfl⟩ := List.mem_map.mp hl
    simp) (s := ⟨eO I t q w (some (.box k.toNat)) o4, hp⟩)
  rw [List.map_map, List.map_map] at s
  exact set_of (s1 := ⟨eO I t q w (some (.box k.toNat)) o4, hp⟩) (call_of (mone z) s)
theorem odN_at (hl : J.length ≤ 40) {o3 : Option M} : odN ⟨eO I t q w o3 (some (.lst (J.map fun k => tupI [mA t q k, k]))), hp⟩ = .ok (.lst (J.map M.int)) ⟨eO I t q w o3 (some (.lst (J.map fun k => tupI [mA t q k, k]))), hp⟩ := by
  have z := mlc_if (vs := [6, 5]) (it := iSeq (mv 4)) (tg := gTupN [6, 5]) (tt := mYes) (el := mv 5) (em := fun k => tupI [mA t q k, k]) (f := M.int) (p := fun _ => true) (xs := J) (s := ⟨eO I t q w o3 (some (.lst (J.map fun k => tupI [mA t q k, k]))), hp⟩) (s1 := ⟨eO I t q w o3 (some (.lst (J.map fun k => tupI [mA t q k, k]))), hp⟩) rfl (Nat.le_trans hl (by decide)) fun j _ =>
    ⟨⟨[some (.lst (I.map M.int)), some (.tup [.int t, .int q]), some (.str (wS w)), o3, some (.lst (J.map fun k => tupI [mA t q k, k])), some (.int j), some (.int (mA t q j))], hp⟩, [some (.lst (I.map M.int)), some (.tup [.int t, .int q]), some (.str (wS w)), o3, some (.lst (J.map fun k => tupI [mA t q k, k])), some (.int j), some (.int (mA t q j))], rfl, rfl, fun _ => ⟨_, mv_of rfl⟩⟩
  rw [filt_true] at z
  exact z
theorem odF_at {J0 : List Int} (hl : J0.length ≤ 40) (hJ : J.Perm J0) (pw : J.Pairwise (Bf t q .far)) {o3 : Option M} :
    odF ⟨eO I t q w o3 (some (.lst (J0.map fun k => tupI [mA t q k, k]))), hp⟩ = .ok (.lst (J.map fun k => tupI [0 - mA t q k, k])) ⟨eO I t q w o3 (some (.lst (J0.map fun k => tupI [mA t q k, k]))), hp⟩ := by
  have z := mlc_if (vs := [6, 5]) (it := iSeq (mv 4)) (tg := gTupN [6, 5]) (tt := mYes) (el := mTup (mCons (m2 oSub (mc (.int 0)) (mv 6)) (mCons (mv 5) mNil))) (em := fun k => tupI [mA t q k, k]) (f := fun k => tupI [0 - mA t q k, k]) (p := fun _ => true) (xs := J0) (s := ⟨eO I t q w o3 (some (.lst (J0.map fun k => tupI [mA t q k, k]))), hp⟩) (s1 := ⟨eO I t q w o3 (some (.lst (J0.map fun k => tupI [mA t q k, k]))), hp⟩) rfl (Nat.le_trans hl (by decide)) fun j _ =>
    ⟨⟨[some (.lst (I.map M.int)), some (.tup [.int t, .int q]), some (.str (wS w)), o3, some (.lst (J0.map fun k => tupI [mA t q k, k])), some (.int j), some (.int (mA t q j))], hp⟩, [some (.lst (I.map M.int)), some (.tup [.int t, .int q]), some (.str (wS w)), o3, some (.lst (J0.map fun k => tupI [mA t q k, k])), some (.int j), some (.int (mA t q j))], rfl, rfl, fun _ => ⟨_, mtup2 (m2_of (x := .int 0) rfl (mv_of rfl) rfl) (mv_of rfl)⟩⟩
  rw [filt_true] at z
  have s := sortD_tups (L1 := J0.map fun k => [0 - mA t q k, k]) (L2 := J.map fun k => [0 - mA t q k, k]) (hJ.symm.map _) (List.pairwise_map.mpr (pw.imp fun {a b} h => lex2 (by simp only [Bf] at h; unfold mA; omega))) (fun l hl => by
    obtain ⟨a, _, rfl⟩ := List.mem_map.mp hl
    simp) (s := ⟨eO I t q w o3 (some (.lst (J0.map fun k => tupI [mA t q k, k]))), hp⟩)
  rw [List.map_map, List.map_map] at s
  exact call_of (mone z) s
theorem iseq_of {a : ME} {s s1 : MS} {xs : List M} (h : a s = .ok (.lst xs) s1) : iSeq a s = .ok xs s1 := by
  unfold iSeq; rw [h]; rfl
theorem od4_at (hl : J.length ≤ 40) {o3 o4 : Option M} (h : odF ⟨eO I t q w o3 o4, hp⟩ = .ok (.lst (J.map fun k => tupI [0 - mA t q k, k])) ⟨eO I t q w o3 o4, hp⟩) : od4 ⟨eO I t q w o3 o4, hp⟩ = .ok (.rt (.lst (J.map M.int))) ⟨eO I t q w o3 o4, hp⟩ := by
  have z := mlc_if (vs := [6, 5]) (it := iSeq odF) (tg := gTupN [6, 5]) (tt := mYes) (el := mv 5) (em := fun k => tupI [0 - mA t q k, k]) (f := M.int) (p := fun _ => true) (xs := J) (s := ⟨eO I t q w o3 o4, hp⟩) (s1 := ⟨eO I t q w o3 o4, hp⟩) ((iseq_of h).trans rfl) (Nat.le_trans hl (by decide)) fun j _ =>
    ⟨⟨[some (.lst (I.map M.int)), some (.tup [.int t, .int q]), some (.str (wS w)), o3, o4, some (.int j), some (.int (0 - mA t q j))], hp⟩, [some (.lst (I.map M.int)), some (.tup [.int t, .int q]), some (.str (wS w)), o3, o4, some (.int j), some (.int (0 - mA t q j))], rfl, rfl, fun _ => ⟨_, mv_of rfl⟩⟩
  rw [filt_true] at z
  exact ret_of z
theorem ordered_at (ht : T15 t) (hl : I.length ≤ 40) (nd : I.Nodup) : ∃ (J : List Int) (hp' : List Cell), F__law_ordered [.lst (I.map M.int), .tup [.int t, .int q], .str (wS w)] hp = .ok (.lst (J.map M.int)) hp' ∧ Ext hp hp' ∧ J.Perm I ∧ J.Pairwise (Bf t q w) := by
  obtain ⟨J, hJ, pw⟩ := ex_ord t q w nd
  refine ⟨J, hp ++ [.dK (plM I (PN (mA t q)))], ?_, Ext.app _ _, hJ, pw⟩
  obtain ⟨N, hN, pn⟩ := ex_ord t q .near nd
  have s0 := od0_at (q := q) (w := w) (hp := hp) ht hl nd
  have lJ : J.length ≤ 40 := by rw [hJ.length_eq]; exact hl
  have lN : N.length ≤ 40 := by rw [hN.length_eq]; exact hl
  have hD : (hp ++ [Cell.dK (plM I (PN (mA t q)))])[((hp.length : Nat) : Int).toNat]? = some (.dK (plM I (PN (mA t q)))) := by simp
  have s2 := od2_at (w := w) (o4 := none) hD hl hN pn
  rw [Int.toNat_natCast] at s2
  refine (show F__law_ordered [.lst (I.map M.int), .tup [.int t, .int q], .str (wS w)] hp = bodyF 3 7 m__law_ordered [.lst (I.map M.int), .tup [.int t, .int q], .str (wS w)] hp from rfl).trans ?_
  generalize hp ++ [Cell.dK (plM I (PN (mA t q)))] = A at s0 s2
  cases w with
  | up =>
    refine body_rt (s' := ⟨eO I t q .up (some (.box hp.length)) none, A⟩) ?_
    rw [od_eq]
    have g : odU ⟨eO I t q .up (some (.box hp.length)) none, A⟩ = .ok true ⟨eO I t q .up (some (.box hp.length)) none, A⟩ := by kernel_rfl
    have r : od1 ⟨eO I t q .up (some (.box hp.length)) none, A⟩ = .ok (.rt (.lst (J.map M.int))) ⟨eO I t q .up (some (.box hp.length)) none, A⟩ := (if_of (k := true) (or_t g)).trans ((if_pos rfl).trans (ret_of ((Lw.mif_of (q := true) g).trans ((if_pos rfl).trans (call_of (mone (mv_of rfl)) (sortD_ints hJ.symm (pw_lt_le pw)))))))
    exact (seq_nx s0).trans (seq_rt r)
  | down =>
    refine body_rt (s' := ⟨eO I t q .down (some (.box hp.length)) none, A⟩) ?_
    rw [od_eq]
    have p2 : J.reverse.Pairwise (· < ·) := List.pairwise_reverse.mpr pw
    have e : mRevL (mCall (mCons (mv 0) mNil) cSortD) ⟨eO I t q .down (some (.box hp.length)) none, A⟩ = .ok (.lst (J.map M.int)) ⟨eO I t q .down (some (.box hp.length)) none, A⟩ := by
      unfold mRevL
      rw [call_of (mone (mv_of rfl)) (sortD_ints (hJ.symm.trans J.reverse_perm.symm) (pw_lt_le p2))]
      show Res.ok (M.lst ((J.reverse.map M.int).reverse)) _ = _
      rw [List.map_reverse, List.reverse_reverse]
    have g : odU ⟨eO I t q .down (some (.box hp.length)) none, A⟩ = .ok false ⟨eO I t q .down (some (.box hp.length)) none, A⟩ := by kernel_rfl
    have g2 : odT ⟨eO I t q .down (some (.box hp.length)) none, A⟩ = .ok true ⟨eO I t q .down (some (.box hp.length)) none, A⟩ := (or_f g).trans (by kernel_rfl)
    have r : od1 ⟨eO I t q .down (some (.box hp.length)) none, A⟩ = .ok (.rt (.lst (J.map M.int))) ⟨eO I t q .down (some (.box hp.length)) none, A⟩ := (if_of (k := true) g2).trans ((if_pos rfl).trans (ret_of ((Lw.mif_of (q := false) g).trans e)))
    exact (seq_nx s0).trans (seq_rt r)
  | near =>
    refine body_rt (s' := ⟨eO I t q .near (some (.box hp.length)) (some (.lst (N.map fun k => tupI [mA t q k, k]))), A⟩) ?_
    rw [od_eq]
    have e : N = J := List.Perm.eq_of_pairwise (le := Bf t q .near) (fun a b _ _ h1 h2 => absurd h2 h1.asymm) pn pw (hN.trans hJ.symm)
    have r1 : od1 ⟨eO I t q .near (some (.box hp.length)) none, A⟩ = .ok .nx ⟨eO I t q .near (some (.box hp.length)) none, A⟩ := by kernel_rfl
    have g : mB (m2 (oEqK false (oEqD false)) (mv 2) (mc (.str "near"))) ⟨eO I t q .near (some (.box hp.length)) (some (.lst (N.map fun k => tupI [mA t q k, k]))), A⟩ = .ok true ⟨eO I t q .near (some (.box hp.length)) (some (.lst (N.map fun k => tupI [mA t q k, k]))), A⟩ := by kernel_rfl
    have r3 : od3 ⟨eO I t q .near (some (.box hp.length)) (some (.lst (N.map fun k => tupI [mA t q k, k]))), A⟩ = .ok (.rt (.lst (N.map M.int))) ⟨eO I t q .near (some (.box hp.length)) (some (.lst (N.map fun k => tupI [mA t q k, k]))), A⟩ := (if_of (k := true) g).trans ((if_pos rfl).trans (ret_of (odN_at lN)))
    rw [e] at r3 s2
    rw [e]
    exact (seq_nx s0).trans ((seq_nx r1).trans ((seq_nx s2).trans (seq_rt r3)))
  | far =>
    refine body_rt (s' := ⟨eO I t q .far (some (.box hp.length)) (some (.lst (N.map fun k => tupI [mA t q k, k]))), A⟩) ?_
    rw [od_eq]
    have r1 : od1 ⟨eO I t q .far (some (.box hp.length)) none, A⟩ = .ok .nx ⟨eO I t q .far (some (.box hp.length)) none, A⟩ := by kernel_rfl
    have r3 : od3 ⟨eO I t q .far (some (.box hp.length)) (some (.lst (N.map fun k => tupI [mA t q k, k]))), A⟩ = .ok .nx ⟨eO I t q .far (some (.box hp.length)) (some (.lst (N.map fun k => tupI [mA t q k, k]))), A⟩ := by kernel_rfl
    exact (seq_nx s0).trans ((seq_nx r1).trans ((seq_nx s2).trans ((seq_nx r3).trans (od4_at lJ (odF_at lN (hJ.trans hN.symm) pw)))))
end
end Lw
namespace Lw
open L2 Ma PySem.Spec PySem PyProof.Rows
/-! rows and order of a statement; the law's run -/
section
variable {t q k x : Int} {w : Way} {lo hi : Option Int} {hp B : List Cell} {I J K ks o : List Int} {env : List (Option M)} {v : Int → Int} {W D : Nat}
theorem inside_at : F__law_inside [.int x, oM lo, oM hi] hp = .ok (.bl (decide (WI lo hi x))) hp := by
  refine (show F__law_inside [.int x, oM lo, oM hi] hp = bodyF 3 3 m__law_inside [.int x, oM lo, oM hi] hp from rfl).trans (body_rt (s' := ⟨[some (.int x), some (oM lo), some (oM hi)], hp⟩) (ret_of ?_))
  have a : mOrV (m2 (oIsN false) (mv 1) (mc .non)) (m2 oGe (mv 0) (mv 1)) ⟨[some (.int x), some (oM lo), some (oM hi)], hp⟩ = .ok (.bl (decide (WI lo none x))) ⟨[some (.int x), some (oM lo), some (oM hi)], hp⟩ := by
    cases lo with
    | none => exact orv_t' rfl
    | some l => exact (orv_f' rfl).trans rfl
  have b : mOrV (m2 (oIsN false) (mv 2) (mc .non)) (m2 oLe (mv 0) (mv 2)) ⟨[some (.int x), some (oM lo), some (oM hi)], hp⟩ = .ok (.bl (decide (WI none hi x))) ⟨[some (.int x), some (oM lo), some (oM hi)], hp⟩ := by
    cases hi with
    | none => exact orv_t' rfl
    | some l => exact (orv_f' rfl).trans rfl
  refine (andv_d a b).trans ?_
  rw [bl_iff (p := WI lo none x ∧ WI none hi x) (r := WI lo hi x) (by cases lo <;> cases hi <;> simp [WI])]
abbrev eP (K : List Int) (t q : Int) (w : Way) (lo hi : Option Int) (o5 o6 o7 o8 : Option M) : List (Option M) := [some (.lst (K.map M.int)), some (.tup [.int t, .int q]), some (.str (wS w)), some (oM lo), some (oM hi), o5, o6, o7, o8]
abbrev plI : MT := (mB (mFn (mCons (mv 8) (mCons (mv 3) (mCons (mv 4) mNil))) F__law_inside))
def pl0 : MStm := (sSet 5 (mLc [8] (iSeq (mv 0)) (gSet 8) plI (mv 8)))
def pl1 : MStm := (sSet 6 (mCall (mCons (mLc [8] (iSeq (mv 0)) (gSet 8) (mNot plI) (mv 8)) mNil) (cSortT cSortD)))
def pl2 : MStm := (sSet 7 (m2 oAdd (mLc [8] (iSeq (mv 5)) (gSet 8) mYes (mTup (mCons (mv 8) (mCons (m2 oAdd (m2 oMul (m2 (oIxD oIx) (mv 1) (mc (.int 0))) (mv 8)) (m2 (oIxD oIx) (mv 1) (mc (.int 1)))) mNil)))) (mLc [8] (iSeq (mv 6)) (gSet 8) mYes (mTup (mCons (mv 8) (mCons (mv 8) mNil))))))
def pl3 : MStm := (sRet (mTup (mCons (mv 7) (mCons (mCall (mCons (m2 oAdd (mFn (mCons (mv 5) (mCons (mv 1) (mCons (mv 2) mNil))) F__law_ordered) (mv 6)) mNil) cTup) mNil))))
theorem pl_eq : m__law_planned = sSeq pl0 (sSeq pl1 (sSeq pl2 pl3)) := rfl
abbrev inS (lo hi : Option Int) (K : List Int) : List Int := K.filter fun k => decide (WI lo hi k)
abbrev ouS (lo hi : Option Int) (K : List Int) : List Int := (K.filter fun k => !decide (WI lo hi k)).mergeSort (fun a b => decide (a ≤ b))
def vP (t q : Int) (lo hi : Option Int) (k : Int) : Int := if WI lo hi k then t * k + q else k
theorem ou_perm (K : List Int) : (ouS lo hi K).Perm (K.filter fun k => !decide (WI lo hi k)) := List.mergeSort_perm _ _
theorem ou_pw (K : List Int) : (ouS lo hi K).Pairwise (· ≤ ·) :=
  (List.pairwise_mergeSort (le := fun a b : Int => decide (a ≤ b)) (fun a b c h1 h2 => decide_eq_true (by have := of_decide_eq_true h1; have := of_decide_eq_true h2; omega)) (fun a b => by simp; omega) _).imp fun {a b} h => of_decide_eq_true h
theorem io_perm (K : List Int) : (inS lo hi K ++ ouS lo hi K).Perm K := ((ou_perm (lo := lo) (hi := hi) K).append_left _).trans (List.filter_append_perm _ K)
theorem sortT_ints {l m : List Int} (hp : l.Perm m) (hs : m.Pairwise (· ≤ ·)) {s : MS} : cSortT cSortD [.lst (l.map M.int)] s = .ok (.lst (m.map M.int)) s := sortD_ints hp hs
theorem rm_map (f : Int → Int) (l : List Int) : l.map (fun k => pM (k, f k)) = rm (l.map fun k => (k, f k)) := by unfold rm; rw [List.map_map]; rfl
theorem rows_vP : ((inS lo hi K).map fun k => (k, t * k + q)) ++ ((ouS lo hi K).map fun k => (k, k)) = (inS lo hi K ++ ouS lo hi K).map fun k => (k, vP t q lo hi k) := by
  rw [List.map_append]
  congr 1
  · refine List.map_congr_left fun k hk => ?_
    have := of_decide_eq_true (List.mem_filter.mp hk).2
    unfold vP
    rw [if_pos this]
  · refine List.map_congr_left fun k hk => ?_
    have := (List.mem_filter.mp ((ou_perm K).mem_iff.mp hk)).2
    simp at this
    unfold vP
    rw [if_neg this]
theorem planned_at (ht : T15 t) (hl : K.length ≤ 40) (nd : K.Nodup) : ∃ (J : List Int) (hp' : List Cell), F__law_planned [.lst (K.map M.int), .tup [.int t, .int q], .str (wS w), oM lo, oM hi] hp = .ok (.tup [.lst (rm ((inS lo hi K ++ ouS lo hi K).map fun k => (k, vP t q lo hi k))), tupI (J ++ ouS lo hi K)]) hp' ∧ Ext hp hp' ∧ J.Perm (inS lo hi K) ∧ J.Pairwise (Bf t q w) := by
  have il : (inS lo hi K).length ≤ 40 := Nat.le_trans (List.length_filter_le _ _) hl
  have ol : (ouS lo hi K).length ≤ 40 := by rw [(ou_perm K).length_eq]; exact Nat.le_trans (List.length_filter_le _ _) hl
  obtain ⟨J, hp', e, x, hJ, pw⟩ := ordered_at (t := t) (q := q) (w := w) (hp := hp) ht il (nd.filter _)
  have z0 := mlc_if (vs := [8]) (it := iSeq (mv 0)) (tg := gSet 8) (tt := plI) (el := mv 8) (em := M.int) (f := M.int) (p := fun k => decide (WI lo hi k)) (xs := K) (s := ⟨eP K t q w lo hi none none none none, hp⟩) (s1 := ⟨eP K t q w lo hi none none none none, hp⟩) rfl (Nat.le_trans hl (by decide)) fun k _ =>
    ⟨⟨eP K t q w lo hi none none none (some (.int k)), hp⟩, eP K t q w lo hi none none none (some (.int k)), rfl, b_of (fnE (F := F__law_inside) (mcons_of (mv_of rfl) (mcons_of (mv_of rfl) (mone (mv_of rfl)))) inside_at), fun _ => ⟨_, mv_of rfl⟩⟩
  have s0 : pl0 ⟨eP K t q w lo hi none none none none, hp⟩ = .ok .nx ⟨eP K t q w lo hi (some (.lst ((inS lo hi K).map M.int))) none none none, hp⟩ := set_of (s1 := ⟨eP K t q w lo hi none none none none, hp⟩) z0
  generalize hI : inS lo hi K = I at *
  have z1 := mlc_if (vs := [8]) (it := iSeq (mv 0)) (tg := gSet 8) (tt := mNot plI) (el := mv 8) (em := M.int) (f := M.int) (p := fun k => !decide (WI lo hi k)) (xs := K) (s := ⟨eP K t q w lo hi (some (.lst (I.map M.int))) none none none, hp⟩) (s1 := ⟨eP K t q w lo hi (some (.lst (I.map M.int))) none none none, hp⟩) rfl (Nat.le_trans hl (by decide)) fun k _ =>
    ⟨⟨eP K t q w lo hi (some (.lst (I.map M.int))) none none (some (.int k)), hp⟩, eP K t q w lo hi (some (.lst (I.map M.int))) none none (some (.int k)), rfl, not_of (b_of (fnE (F := F__law_inside) (mcons_of (mv_of rfl) (mcons_of (mv_of rfl) (mone (mv_of rfl)))) inside_at)), fun _ => ⟨_, mv_of rfl⟩⟩
  have s1 : pl1 ⟨eP K t q w lo hi (some (.lst (I.map M.int))) none none none, hp⟩ = .ok .nx ⟨eP K t q w lo hi (some (.lst (I.map M.int))) (some (.lst ((ouS lo hi K).map M.int))) none none, hp⟩ :=
    set_of (s1 := ⟨eP K t q w lo hi (some (.lst (I.map M.int))) none none none, hp⟩) (call_of (mone z1) (sortT_ints (ou_perm K).symm (ou_pw K)))
  have hrow := rows_vP (t := t) (q := q) (lo := lo) (hi := hi) (K := K)
  rw [hI] at hrow
  generalize hO : ouS lo hi K = O at *
  have z2 := mlc_if (vs := [8]) (it := iSeq (mv 5)) (tg := gSet 8) (tt := mYes) (el := mTup (mCons (mv 8) (mCons (m2 oAdd (m2 oMul (m2 (oIxD oIx) (mv 1) (mc (.int 0))) (mv 8)) (m2 (oIxD oIx) (mv 1) (mc (.int 1)))) mNil))) (em := M.int) (f := fun k => pM (k, t * k + q)) (p := fun _ => true) (xs := I) (s := ⟨eP K t q w lo hi (some (.lst (I.map M.int))) (some (.lst (O.map M.int))) none none, hp⟩) (s1 := ⟨eP K t q w lo hi (some (.lst (I.map M.int))) (some (.lst (O.map M.int))) none none, hp⟩) rfl (Nat.le_trans il (by decide)) fun k _ =>
    ⟨⟨eP K t q w lo hi (some (.lst (I.map M.int))) (some (.lst (O.map M.int))) none (some (.int k)), hp⟩, eP K t q w lo hi (some (.lst (I.map M.int))) (some (.lst (O.map M.int))) none (some (.int k)), rfl, rfl, fun _ => ⟨_, mtup2 (mv_of rfl) (nk_at ht (mv_of rfl) (mv_of rfl))⟩⟩
  have z3 := mlc_if (vs := [8]) (it := iSeq (mv 6)) (tg := gSet 8) (tt := mYes) (el := mTup (mCons (mv 8) (mCons (mv 8) mNil))) (em := M.int) (f := fun k => pM (k, id k)) (p := fun _ => true) (xs := O) (s := ⟨eP K t q w lo hi (some (.lst (I.map M.int))) (some (.lst (O.map M.int))) none none, hp⟩) (s1 := ⟨eP K t q w lo hi (some (.lst (I.map M.int))) (some (.lst (O.map M.int))) none none, hp⟩) rfl (Nat.le_trans ol (by decide)) fun k _ =>
    ⟨⟨eP K t q w lo hi (some (.lst (I.map M.int))) (some (.lst (O.map M.int))) none (some (.int k)), hp⟩, eP K t q w lo hi (some (.lst (I.map M.int))) (some (.lst (O.map M.int))) none (some (.int k)), rfl, rfl, fun _ => ⟨_, mtup2 (mv_of rfl) (mv_of rfl)⟩⟩
  rw [filt_true, rm_map fun k => t * k + q] at z2
  rw [filt_true, rm_map id] at z3
  have s2 : pl2 ⟨eP K t q w lo hi (some (.lst (I.map M.int))) (some (.lst (O.map M.int))) none none, hp⟩ = .ok .nx ⟨eP K t q w lo hi (some (.lst (I.map M.int))) (some (.lst (O.map M.int))) (some (.lst (rm ((I ++ O).map fun k => (k, vP t q lo hi k))))) none, hp⟩ := by
    refine set_of (s1 := ⟨eP K t q w lo hi (some (.lst (I.map M.int))) (some (.lst (O.map M.int))) none none, hp⟩) ((m2_of z2 z3 (oAdd_lst ?_)).trans ?_)
    · simp [rm]
      have : (80 : Nat) ≤ big := by decide
      omega
    · rw [← hrow]
      unfold rm
      rw [List.map_append]
      rfl
  have f := fnE (F := F__law_ordered) (env := eP K t q w lo hi (some (.lst (I.map M.int))) (some (.lst (O.map M.int))) (some (.lst (rm ((I ++ O).map fun k => (k, vP t q lo hi k))))) none) (ma := mCons (mv 5) (mCons (mv 1) (mCons (mv 2) mNil))) (mcons_of (mv_of rfl) (mcons_of (mv_of rfl) (mone (mv_of rfl)))) e
  have jl : J.length ≤ 40 := by rw [hJ.length_eq]; exact il
  have a := m2_of (o := oAdd) f (b := mv 6) (y := .lst (O.map M.int)) (mv_of rfl) (oAdd_lst (by
    simp
    have : (80 : Nat) ≤ big := by decide
    omega))
  rw [← List.map_append] at a
  refine ⟨J, hp', ?_, x, hJ, pw⟩
  refine (show F__law_planned [.lst (K.map M.int), .tup [.int t, .int q], .str (wS w), oM lo, oM hi] hp = bodyF 5 9 m__law_planned [.lst (K.map M.int), .tup [.int t, .int q], .str (wS w), oM lo, oM hi] hp from rfl).trans (body_rt (s' := ⟨eP K t q w lo hi (some (.lst (I.map M.int))) (some (.lst (O.map M.int))) (some (.lst (rm ((I ++ O).map fun k => (k, vP t q lo hi k))))) none, hp'⟩) ?_)
  rw [pl_eq]
  exact (seq_nx s0).trans ((seq_nx s1).trans ((seq_nx s2).trans (ret_of (mtup2 (mv_of rfl) (call_of (o := cTup) (mone a) rfl)))))
/-! ### the run -/
theorem for_rt {tg : MG} {b : MStm} {x m : M} {xs : List M} {s s1 s2 : MS} (h1 : tg x s = .ok () s1) (h2 : b s1 = .ok (.rt m) s2) : sFor tg b (x :: xs) s = .ok (.rt m) s2 := by
  rw [sFor]; dsimp only; rw [h1]; show (b s1).bind _ = _; rw [h2]; rfl
theorem u1_N {ps : List IP} {r : Int} {o6 o7 : Option M} {x : Str} (hw : dictOf hp (.box W) = some (plM ks (PN v))) (hr : r ∈ ks) : u1 ⟨envU x ps o W D (some (.int r)) o6 o7, hp⟩ = .ok .nx ⟨envU x ps o W D (some (.int r)) (some (.int (v r))) o7, hp⟩ :=
  set_of (s1 := ⟨envU x ps o W D (some (.int r)) o6 o7, hp⟩) (m2_of (mv_of rfl) (mv_of rfl) (ixp hw hr))
/-- what the loop ends with -/
def FlE (ps : List IP) (o : List Int) (w D : Nat) (ks : List Int) (e : Option Int) (Q : Int → Int) (fl : Fl) (env' : List (Option M)) (hp' : List Cell) : Prop := match e with
  | none => fl = .nx ∧ (∃ a5 a6 a7, env' = envU "fail" ps o w D a5 a6 a7) ∧ hp'[D]? = some (.dK (plM ks (PN Q)))
  | some r => ∃ h0 : Int, fl = .rt (.tup [.tup [.int r, .int h0], .tup (rm (lfR ks (PN Q)))])
theorem runF_loop {ps : List IP} {Q : Int → Int} {e : Option Int} (kl : ks.length ≤ 40) (hB' : B.length ≤ D) (dw : B[W]? = some (.dK (plM ks (PN v)))) : ∀ (rest : List Int) {P : Int → Int} {hp : List Cell} {o5 o6 o7 : Option M}, Ext B hp → hp[D]? = some (.dK (plM ks (PN P))) → (∀ r ∈ rest, r ∈ ks) → flN v ks P rest = (e, Q) →
    ∃ fl env' hp', sFor (gSet 5) uB (rest.map M.int) ⟨envU "fail" ps o W D o5 o6 o7, hp⟩ = .ok fl ⟨env', hp'⟩ ∧ Ext B hp' ∧ FlE ps o W D ks e Q fl env' hp'
  | [], P, hp, o5, o6, o7, x, hD, _, h => by
    have h : (none, P) = (e, Q) := h
    cases h
    exact ⟨.nx, _, hp, rfl, x, rfl, ⟨o5, o6, o7, rfl⟩, hD⟩
  | r :: rest, P, hp, o5, o6, o7, x, hD, hr, h => by
    have kr := hr r (by simp)
    have e1 := u1_N (ps := ps) (o := o) (D := D) (o6 := o6) (o7 := o7) (x := "fail") (dictOf_w (x _ _ dw)) kr
    have e2 := u2_at (ps := ps) (o := o) (w := W) (r := r) (o7 := o7) (x := "fail") (v := v r) kl hD
    unfold flN at h
    by_cases c : v r ≠ r ∧ hB v ks P r = true
    · rw [if_pos c] at h
      cases h
      obtain ⟨h0, e3⟩ := f3_rt (ps := ps) (o := o) (w := W) (v := v) kl kr hD c
      exact ⟨_, _, hp, for_rt (tg := gSet 5) (b := uB) (x := .int r) (xs := rest.map M.int) (s := ⟨envU "fail" ps o W D o5 o6 o7, hp⟩) (s1 := ⟨envU "fail" ps o W D (some (.int r)) o6 o7, hp⟩) rfl ((seq_nx e1).trans ((seq_nx e2).trans e3)), x, h0, rfl⟩
    · rw [if_neg c] at h
      obtain ⟨hp1, e3, c1, d1⟩ := f3_nx (ps := ps) (o := o) (w := W) (v := v) kl kr hD c
      have x1 : Ext B hp1 := by
        rcases c1 with rfl | ⟨c, rfl⟩
        · exact x
        · exact Ext.set x hB'
      obtain ⟨fl, env', hp', q, x', d'⟩ := runF_loop kl hB' dw rest (P := stN v ks P r) (hp := hp1) (o5 := some (.int r)) (o6 := some (.int (v r))) (o7 := some (.lst ((hldR ks (PN P) (v r) r).map M.int))) x1 d1 (fun z hz => hr z (by simp [hz])) h
      exact ⟨fl, env', hp', (for_nx1 (tg := gSet 5) (b := uB) (x := .int r) (xs := rest.map M.int) (s := ⟨envU "fail" ps o W D o5 o6 o7, hp⟩) (s1 := ⟨envU "fail" ps o W D (some (.int r)) o6 o7, hp⟩) rfl ((seq_nx e1).trans ((seq_nx e2).trans e3))).trans q, x', d'⟩
/-- where the run stopped -/
def StM (e : Option Int) (m : M) : Prop := match e with
  | none => m = .tup []
  | some r => ∃ h0 : Int, m = .tup [.int r, .int h0]
theorem runF_at {Q : Int → Int} {e : Option Int} (kl : ks.length ≤ 40) (nd : ks.Nodup) (ho : ∀ r ∈ o, r ∈ ks) (h : flN v ks (fun k => k) o = (e, Q)) : ∃ m hp' ends, F__law_run [.lst (rm (ks.map fun k => (k, v k))), tupI o, .str "fail"] hp = .ok (.tup [m, ends]) hp' ∧ StM e m ∧ Ext hp hp' := by
  generalize hps : (ks.map fun k => (k, v k)) = ps
  have kk : keysP ps = ks := by
    rw [← hps]
    unfold keysP
    rw [List.map_map]
    conv => rhs; rw [← List.map_id ks]
    rfl
  have dd : dm ps = plM ks (PN v) := by
    rw [← hps]
    unfold dm plM; rw [List.map_map]; rfl
  have c1 : mCall (mCons (mv 0) mNil) cDict ⟨[some (.lst (rm ps)), some (tupI o), some (.str "fail"), none, none, none, none, none, none, none], hp⟩ = .ok (.box hp.length) ⟨[some (.lst (rm ps)), some (tupI o), some (.str "fail"), none, none, none, none, none, none, none], hp ++ [.dK (plM ks (PN v))]⟩ := by
    refine call_of (mone (mv_of rfl)) ?_
    rw [← hps]
    exact dict_rws ks v nd
  have s1 : sSet 3 (mCall (mCons (mv 0) mNil) cDict) ⟨[some (.lst (rm ps)), some (tupI o), some (.str "fail"), none, none, none, none, none, none, none], hp⟩ = .ok .nx ⟨[some (.lst (rm ps)), some (tupI o), some (.str "fail"), some (.box hp.length), none, none, none, none, none, none], hp ++ [.dK (plM ks (PN v))]⟩ := set_of c1
  have x0 : Ext hp (hp ++ [.dK (plM ks (PN v))]) := Ext.app _ _
  generalize hw : hp.length = W at s1
  generalize hA : hp ++ [Cell.dK (plM ks (PN v))] = A at s1 x0
  have hA2 : A[W]? = some (.dK (plM ks (PN v))) := by rw [← hA, ← hw]; simp
  have s2 := u0_at (ps := ps) (o := o) (x := "fail") (w := W) (B := A) (by rw [kk]; exact kl) (by rw [kk]; exact nd) (by rw [dd]; exact hA2)
  rw [kk] at s2
  have x1 : Ext A (A ++ [.dK (plM ks P0)]) := Ext.app _ _
  obtain ⟨fl, env', hp', q, x', d'⟩ := runF_loop (ps := ps) (o := o) (D := A.length) kl (Nat.le_refl _) hA2 o (P := fun k => k) (hp := A ++ [.dK (plM ks P0)]) (o5 := none) (o6 := none) (o7 := none) x1 (by simp) ho h
  have go : ∀ m env2, sSeq (sForI (iSeq (mv 1)) (gSet 5) uB) u9 ⟨envU "fail" ps o W A.length none none none, A ++ [.dK (plM ks P0)]⟩ = .ok (.rt m) ⟨env2, hp'⟩ → F__law_run [.lst (rm ps), tupI o, .str "fail"] hp = .ok m hp' := fun m env2 hq => by
    refine (show F__law_run [.lst (rm ps), tupI o, .str "fail"] hp = bodyF 3 10 m__law_run [.lst (rm ps), tupI o, .str "fail"] hp from rfl).trans (body_rt (s' := ⟨env2, hp'⟩) ?_)
    rw [run_eq]
    exact (seq_nx s1).trans ((seq_nx s2).trans hq)
  have q' := for_of (it := iSeq (mv 1)) (xs := o.map M.int) (s := ⟨envU "fail" ps o W A.length none none none, A ++ [.dK (plM ks P0)]⟩) rfl q
  cases e with
  | none =>
    obtain ⟨rfl, ⟨a5, a6, a7, rfl⟩, hD⟩ := d'
    have f1 := fnE (F := F__law_ends) (env := envU "fail" ps o W A.length a5 a6 a7) (ma := mCons (mv 4) mNil) (mone (mv_of rfl)) (ends_at hD kl)
    exact ⟨.tup [], hp', _, go _ _ ((seq_nx q').trans (ret_of (mtup2 (a := mTup mNil) (x := .tup []) rfl f1))), rfl, x0.trans x'⟩
  | some r =>
    obtain ⟨h0, rfl⟩ := d'
    exact ⟨.tup [.int r, .int h0], hp', _, go _ _ (seq_rt q'), ⟨h0, rfl⟩, x0.trans x'⟩
end
end Lw
namespace Lw
open L2 Ma PySem.Spec PySem PyProof.Rows
/-! whether a conflict happens; drawn keys -/
section
variable {t q k x : Int} {w : Way} {lo hi : Option Int} {hp B : List Cell} {I J K ks o : List Int} {env : List (Option M)} {v : Int → Int} {n : Nat} {c : Cell}
theorem vP_nw (k : Int) : NwR t q lo hi k (vP t q lo hi k) := by
  unfold NwR vP
  by_cases h : WI lo hi k
  · exact .inl ⟨h, if_pos h⟩
  · exact .inr ⟨h, if_neg h⟩
abbrev flK (t q : Int) (lo hi : Option Int) (K o : List Int) : Option Int := (flN (vP t q lo hi) (inS lo hi K ++ ouS lo hi K) (fun k => k) o).1
abbrev eK (K : List Int) (t q : Int) (w : Way) (lo hi : Option Int) (o5 o6 : Option M) : List (Option M) := [some (.lst (K.map M.int)), some (.tup [.int t, .int q]), some (.str (wS w)), some (oM lo), some (oM hi), o5, o6]
def co0 : MStm := (sAsg (mFn (mCons (mv 0) (mCons (mv 1) (mCons (mv 2) (mCons (mv 3) (mCons (mv 4) mNil))))) F__law_planned) (gUnpN [5, 6]))
def co1 : MStm := (sRet (m2 (oEqK true (oEqD true)) (m2 (oIxD oIx) (mFn (mCons (mv 5) (mCons (mv 6) (mCons (mc (.str "fail")) mNil))) F__law_run) (mc (.int 0))) (mTup mNil)))
theorem co_eq : m__law_collides = sSeq co0 co1 := rfl
/-- what the law's run of these keys tells -/
theorem collides_at (ht : T15 t) (hl : K.length ≤ 40) (nd : K.Nodup) : ∃ (J : List Int) (hp' : List Cell), F__law_collides [.lst (K.map M.int), .tup [.int t, .int q], .str (wS w), oM lo, oM hi] hp = .ok (.bl (flK t q lo hi K (J ++ ouS lo hi K)).isSome) hp' ∧ Ext hp hp' ∧ J.Perm (inS lo hi K) ∧ J.Pairwise (Bf t q w) := by
  obtain ⟨J, hp1, e1, x1, hJ, pw⟩ := planned_at (t := t) (q := q) (w := w) (lo := lo) (hi := hi) (hp := hp) ht hl nd
  have P := io_perm (lo := lo) (hi := hi) K
  have ho : ∀ r ∈ J ++ ouS lo hi K, r ∈ inS lo hi K ++ ouS lo hi K := fun r hr => by
    rcases List.mem_append.mp hr with h | h
    · exact List.mem_append_left _ (hJ.mem_iff.mp h)
    · exact List.mem_append_right _ h
  obtain ⟨m, hp2, ends, e2, sm, x2⟩ := runF_at (v := vP t q lo hi) (hp := hp1) (ks := inS lo hi K ++ ouS lo hi K) (by rw [P.length_eq]; exact hl) (P.nodup_iff.mpr nd) ho (e := flK t q lo hi K (J ++ ouS lo hi K)) rfl
  refine ⟨J, hp2, ?_, x1.trans x2, hJ, pw⟩
  have f1 := fnE (F := F__law_planned) (env := eK K t q w lo hi none none) (ma := mCons (mv 0) (mCons (mv 1) (mCons (mv 2) (mCons (mv 3) (mCons (mv 4) mNil))))) (mcons_of (mv_of rfl) (mcons_of (mv_of rfl) (mcons_of (mv_of rfl) (mcons_of (mv_of rfl) (mone (mv_of rfl)))))) e1
  generalize (rm ((inS lo hi K ++ ouS lo hi K).map fun k => (k, vP t q lo hi k))) = R at f1 e2
  have s1 : co0 ⟨eK K t q w lo hi none none, hp⟩ = .ok .nx ⟨eK K t q w lo hi (some (.lst R)) (some (tupI (J ++ ouS lo hi K))), hp1⟩ := by
    show sAsg _ _ _ = _
    unfold sAsg
    rw [f1]
    rfl
  have f2 := fnE (F := F__law_run) (env := eK K t q w lo hi (some (.lst R)) (some (tupI (J ++ ouS lo hi K)))) (ma := mCons (mv 5) (mCons (mv 6) (mCons (mc (.str "fail")) mNil))) (mcons_of (mv_of rfl) (mcons_of (mv_of rfl) (mone rfl))) e2
  have g1 := m2_of (o := oIxD oIx) f2 (b := mc (.int 0)) (y := .int 0) rfl (r := .ok m ⟨eK K t q w lo hi (some (.lst R)) (some (tupI (J ++ ouS lo hi K))), hp2⟩) rfl
  refine (show F__law_collides [.lst (K.map M.int), .tup [.int t, .int q], .str (wS w), oM lo, oM hi] hp = bodyF 5 7 m__law_collides [.lst (K.map M.int), .tup [.int t, .int q], .str (wS w), oM lo, oM hi] hp from rfl).trans (body_rt (s' := ⟨eK K t q w lo hi (some (.lst R)) (some (tupI (J ++ ouS lo hi K))), hp2⟩) ?_)
  rw [co_eq]
  refine (seq_nx s1).trans (ret_of (m2_of g1 (b := mTup mNil) (y := .tup []) rfl ?_))
  generalize flK t q lo hi K (J ++ ouS lo hi K) = e at sm
  cases e with
  | none =>
    have sm : m = .tup [] := sm
    subst sm
    kernel_rfl
  | some r =>
    obtain ⟨h0, rfl⟩ := sm
    kernel_rfl
/-- what is safe meets no conflict -/
theorem col_none (ht : T15 t) (hl : K.length ≤ 40) (nd : K.Nodup) (h : LS t q w lo hi) : ∃ hp', F__law_collides [.lst (K.map M.int), .tup [.int t, .int q], .str (wS w), oM lo, oM hi] hp = .ok (.bl false) hp' ∧ Ext hp hp' := by
  obtain ⟨J, hp', e, x, hJ, pw⟩ := collides_at (t := t) (q := q) (w := w) (lo := lo) (hi := hi) (hp := hp) ht hl nd
  refine ⟨hp', e.trans ?_, x⟩
  have : flK t q lo hi K (J ++ ouS lo hi K) = none := by
    refine scan_none (w := w) (fun x hx => ls_all h hx) (fun k _ => vP_nw k) (fun r hr => ?_) (fun k hk => ?_) ?_
    · rcases List.mem_append.mp hr with h | h
      · exact List.mem_append_left _ (hJ.mem_iff.mp h)
      · exact List.mem_append_right _ h
    · rcases List.mem_append.mp hk with h | h
      · exact List.mem_append_left _ (hJ.mem_iff.mpr h)
      · exact List.mem_append_right _ h
    · refine List.pairwise_append.mpr ⟨pw.imp fun {a b} h _ _ => h, ?_, fun a _ b hb _ wb => ?_⟩
      · exact List.Pairwise.imp_of_mem (R := fun _ _ : Int => True) (fun {a b} ha _ _ wa _ => by
          have := (List.mem_filter.mp ((ou_perm K).mem_iff.mp ha)).2
          simp at this
          exact absurd wa this) (List.pairwise_of_forall fun _ _ => trivial)
      · have := (List.mem_filter.mp ((ou_perm K).mem_iff.mp hb)).2
        simp at this
        exact absurd wb this
  rw [this]
  rfl
/-- two keys that are told collide -/
theorem col_two {a b : Int} (ht : T15 t) (hx : WI lo hi x) (c : Cfl t q w lo hi x) (p : PrT t q x a b) : ∃ hp', F__law_collides [.lst [.int a, .int b], .tup [.int t, .int q], .str (wS w), oM lo, oM hi] hp = .ok (.bl true) hp' ∧ Ext hp hp' ∧ a < b := by
  have ne : t * x + q ≠ x := c.1
  have lt : a < b := by
    obtain ⟨h, h2 | h2⟩ := p <;> omega
  have mem : ∀ z, z ∈ [a, b] ↔ z = x ∨ z = t * x + q := fun z => by
    obtain ⟨h, ⟨rfl, rfl⟩ | ⟨rfl, rfl⟩⟩ := p <;> simp [or_comm]
  have nd : [a, b].Nodup := by simp; omega
  obtain ⟨J, hp', e, x1, hJ, pw⟩ := collides_at (t := t) (q := q) (w := w) (lo := lo) (hi := hi) (hp := hp) (K := [a, b]) ht (by simp) nd
  refine ⟨hp', e.trans ?_, x1, lt⟩
  have P := io_perm (lo := lo) (hi := hi) [a, b]
  have Po : (J ++ ouS lo hi [a, b]).Perm [a, b] := (hJ.append_right _).trans P
  have xI : x ∈ J := hJ.mem_iff.mpr (List.mem_filter.mpr ⟨(mem x).mpr (.inl rfl), decide_eq_true hx⟩)
  have pwA : (J ++ ouS lo hi [a, b]).Pairwise fun a b => WI lo hi a → WI lo hi b → Bf t q w a b := by
    refine List.pairwise_append.mpr ⟨pw.imp fun {a b} h _ _ => h, ?_, fun a _ b hb _ wb => ?_⟩
    · exact List.Pairwise.imp_of_mem (R := fun _ _ : Int => True) (fun {a b} ha _ _ wa _ => by
        have := (List.mem_filter.mp ((ou_perm _).mem_iff.mp ha)).2
        simp at this
        exact absurd wa this) (List.pairwise_of_forall fun _ _ => trivial)
    · have := (List.mem_filter.mp ((ou_perm _).mem_iff.mp hb)).2
      simp at this
      exact absurd wb this
  have two : (J ++ ouS lo hi [a, b]) = [x, t * x + q] ∨ (J ++ ouS lo hi [a, b]) = [t * x + q, x] := by
    have hl : (J ++ ouS lo hi [a, b]).length = 2 := Po.length_eq
    have hn : (J ++ ouS lo hi [a, b]).Nodup := Po.nodup_iff.mpr nd
    have hm : ∀ z, z ∈ J ++ ouS lo hi [a, b] ↔ z = x ∨ z = t * x + q := fun z => Po.mem_iff.trans (mem z)
    generalize J ++ ouS lo hi [a, b] = L at hl hn hm
    match L, hl with
    | [y, z], _ =>
      have h1 := (hm y).mp (by simp)
      have h2 := (hm z).mp (by simp)
      simp at hn
      rcases h1 with rfl | rfl <;> rcases h2 with rfl | rfl
      · exact absurd rfl hn
      · exact .inl rfl
      · exact .inr rfl
      · exact absurd rfl hn
  have : flK t q lo hi [a, b] (J ++ ouS lo hi [a, b]) ≠ none := by
    refine scan_two (w := w) hx c (fun k _ => vP_nw k) (P.mem_iff.mpr ((mem _).mpr (.inl rfl))) (P.mem_iff.mpr ((mem _).mpr (.inr rfl))) two pwA fun e => ?_
    have hJ0 : t * x + q ∈ J := by
      cases J with
      | nil => simp at xI
      | cons z J' =>
        simp only [List.cons_append, List.cons.injEq] at e
        rw [← e.1]; simp
    exact of_decide_eq_true (List.mem_filter.mp (hJ.mem_iff.mp hJ0)).2
  rw [Option.isSome_iff_ne_none.mpr this]
/-! ### two keys are right -/
abbrev eR (a b t q : Int) (w : Way) (lo hi : Option Int) (o5 : Option M) : List (Option M) := [some (.tup [.int a, .int b]), some (.tup [.int t, .int q]), some (.str (wS w)), some (oM lo), some (oM hi), o5]
theorem pair_right_at {a b : Int} (ht : T15 t) (hx : WI lo hi x) (c : Cfl t q w lo hi x) (p : PrT t q x a b) : ∃ hp', F__law_pair_right [.tup [.int a, .int b], .tup [.int t, .int q], .str (wS w), oM lo, oM hi] hp = .ok (.bl true) hp' ∧ Ext hp hp' := by
  obtain ⟨hp', e, x1, lt⟩ := col_two (hp := hp) ht hx c p
  refine ⟨hp', (show F__law_pair_right [.tup [.int a, .int b], .tup [.int t, .int q], .str (wS w), oM lo, oM hi] hp = bodyF 5 6 m__law_pair_right [.tup [.int a, .int b], .tup [.int t, .int q], .str (wS w), oM lo, oM hi] hp from rfl).trans (body_rt (s' := ⟨eR a b t q w lo hi none, hp'⟩) ?_), x1⟩
  have f := fnE (F := F__law_collides) (env := eR a b t q w lo hi none) (ma := mCons (mCall (mCons (mv 0) mNil) cList) (mCons (mv 1) (mCons (mv 2) (mCons (mv 3) (mCons (mv 4) mNil))))) (mcons_of (x := .lst [.int a, .int b]) (call_of (o := cList) (mone (mv_of rfl)) rfl) (mcons_of (mv_of rfl) (mcons_of (mv_of rfl) (mcons_of (mv_of rfl) (mone (mv_of rfl)))))) e
  have g : m2 oLt (m2 (oIxD oIx) (mv 0) (mc (.int 0))) (m2 (oIxD oIx) (mv 0) (mc (.int 1))) ⟨eR a b t q w lo hi none, hp⟩ = .ok (.bl true) ⟨eR a b t q w lo hi none, hp⟩ := by
    refine (m2_of (x := .int a) (y := .int b) rfl rfl (show oLt (.int a) (.int b) _ = .ok (.bl (decide (a < b))) _ from rfl)).trans ?_
    rw [decide_eq_true lt]
  refine (seq_nx (s1 := ⟨eR a b t q w lo hi none, hp⟩) (by kernel_rfl)).trans ((seq_nx (s1 := ⟨eR a b t q w lo hi none, hp⟩) (by kernel_rfl)).trans (ret_of ((andv_t g).trans f)))
/-! ### keys drawn -/
abbrev eW (n : Nat) (t q : Int) (lo hi : Option Int) (o4 o5 o6 o7 o8 : Option M) : List (Option M) := [some (.box n), some (.tup [.int t, .int q]), some (oM lo), some (oM hi), o4, o5, o6, o7, o8]
def dk0 : MStm := (sSet 4 (mIf (mB (m2 (oEqK true (oEqD true)) (m2 (oIxD oIx) (mv 1) (mc (.int 0))) (mc (.int 1)))) (m2 oFdv (m2 (oIxD oIx) (mv 1) (mc (.int 1))) (m2 oSub (mc (.int 1)) (m2 (oIxD oIx) (mv 1) (mc (.int 0))))) (mc (.int 0))))
def dk1 : MStm := (sSet 5 (mLst mNil))
def dkA : MStm := (sSet 7 (mLst (mCons (mv 4) (mCons (mIf (mB (m2 (oIsN true) (mv 2) (mc .non))) (mv 2) (mc (.int 0))) (mCons (mIf (mB (m2 (oIsN true) (mv 3) (mc .non))) (mv 3) (mc (.int 7))) mNil)))))
def dkB : MStm := (sSet 8 (m2 oSub (m2 oAdd (mFn (mCons (mv 0) (mCons (mv 7) mNil)) F__law_pick) (mFn (mCons (mv 0) (mCons (mc (.int 7)) mNil)) F__law_draw)) (mc (.int 3))))
def dkC : MStm := (sSet 5 (m2 oAdd (mv 5) (mLst (mCons (mv 8) (mCons (m2 oAdd (m2 oMul (m2 (oIxD oIx) (mv 1) (mc (.int 0))) (mv 8)) (m2 (oIxD oIx) (mv 1) (mc (.int 1)))) mNil)))))
abbrev dkS : MStm := sSeq dkA (sSeq dkB dkC)
def dk3 : MStm := (sRet (mSetD (mv 5)))
theorem dk_eq : m__law_drawn_keys = sSeq dk0 (sSeq dk1 (sSeq (sForI (iRange1 (mCons (mc (.int 4)) mNil)) (gSet 6) dkS) dk3)) := rfl
theorem dk0_at (ht : T15 t) : ∃ m0 : Int, dk0 ⟨eW n t q lo hi none none none none none, hp⟩ = .ok .nx ⟨eW n t q lo hi (some (.int m0)) none none none none, hp⟩ := by
  have g : b0T ⟨eW n t q lo hi none none none none none, hp⟩ = .ok (!(t == 1)) ⟨eW n t q lo hi none none none none none, hp⟩ := by rfl
  by_cases h : t = 1
  · rw [show (t == 1) = true from beq_iff_eq.mpr h] at g
    exact ⟨0, set_of (s1 := ⟨eW n t q lo hi none none none none none, hp⟩) ((Lw.mif_of (q := false) g).trans rfl)⟩
  · rw [show (t == 1) = false from beq_eq_false_iff_ne.mpr h] at g
    refine ⟨q.fdiv (1 - t), set_of (s1 := ⟨eW n t q lo hi none none none none none, hp⟩) ((Lw.mif_of (q := true) g).trans ?_)⟩
    rw [if_pos rfl]
    unfold T15 at ht
    exact m2_of (x := .int q) (y := .int (1 - t)) rfl rfl (if_pos (decide_eq_true ⟨by omega, by omega⟩))
theorem dkS_at (ht : T15 t) (hc : hp[n]? = some c) (P : IsPen c) {m0 : Int} {L : List Int} (hL : L.length ≤ 20) {o6 o7 o8 : Option M} : ∃ k c' o7', dkS ⟨eW n t q lo hi (some (.int m0)) (some (.lst (L.map M.int))) o6 o7 o8, hp⟩ = .ok .nx ⟨eW n t q lo hi (some (.int m0)) (some (.lst ((L ++ [k, t * k + q]).map M.int))) o6 (some o7') (some (.int k)), hp.set n c'⟩ ∧ IsPen c' := by
  have a : ∃ l u : Int, dkA ⟨eW n t q lo hi (some (.int m0)) (some (.lst (L.map M.int))) o6 o7 o8, hp⟩ = .ok .nx ⟨eW n t q lo hi (some (.int m0)) (some (.lst (L.map M.int))) o6 (some (.lst [.int m0, .int l, .int u])) o8, hp⟩ := by
    cases lo <;> cases hi <;> exact ⟨_, _, rfl⟩
  obtain ⟨l, u, sA⟩ := a
  obtain ⟨m, c1, hm, e1, P1⟩ := pick_at (ms := [.int m0, .int l, .int u]) hc P (by simp) (by simp)
  have hc1 : (hp.set n c1)[n]? = some c1 := List.getElem?_set_self (lt_of hc)
  obtain ⟨d, c2, e2, d0, d1, P2⟩ := draw_at hc1 P1 (m := 7) (by decide) (by decide)
  rw [List.set_set] at e2
  have hi' : ∃ i : Int, m = .int i := by
    simp only [List.mem_cons, List.not_mem_nil, or_false] at hm
    rcases hm with rfl | rfl | rfl <;> exact ⟨_, rfl⟩
  obtain ⟨i, rfl⟩ := hi'
  have f1 := fnE (F := F__law_pick) (env := eW n t q lo hi (some (.int m0)) (some (.lst (L.map M.int))) o6 (some (.lst [.int m0, .int l, .int u])) o8) (ma := mCons (mv 0) (mCons (mv 7) mNil)) (mcons_of (mv_of rfl) (mone (mv_of rfl))) e1
  have f2 := fnE (F := F__law_draw) (env := eW n t q lo hi (some (.int m0)) (some (.lst (L.map M.int))) o6 (some (.lst [.int m0, .int l, .int u])) o8) (ma := mCons (mv 0) (mCons (mc (.int 7)) mNil)) (mcons_of (mv_of rfl) (mone rfl)) e2
  have sB : dkB ⟨eW n t q lo hi (some (.int m0)) (some (.lst (L.map M.int))) o6 (some (.lst [.int m0, .int l, .int u])) o8, hp⟩ = .ok .nx ⟨eW n t q lo hi (some (.int m0)) (some (.lst (L.map M.int))) o6 (some (.lst [.int m0, .int l, .int u])) (some (.int (i + d - 3))), hp.set n c2⟩ :=
    set_of (s1 := ⟨eW n t q lo hi (some (.int m0)) (some (.lst (L.map M.int))) o6 (some (.lst [.int m0, .int l, .int u])) o8, hp.set n c2⟩) (m2_of (m2_of f1 f2 rfl) (b := mc (.int 3)) (y := .int 3) rfl rfl)
  generalize i + d - 3 = k at sB
  have nk := nk_at (k := k) (q := q) ht (s := ⟨eW n t q lo hi (some (.int m0)) (some (.lst (L.map M.int))) o6 (some (.lst [.int m0, .int l, .int u])) (some (.int k)), hp.set n c2⟩) (ke := mv 8) (pe := mv 1) (mv_of rfl) (mv_of rfl)
  have sC : dkC ⟨eW n t q lo hi (some (.int m0)) (some (.lst (L.map M.int))) o6 (some (.lst [.int m0, .int l, .int u])) (some (.int k)), hp.set n c2⟩ = .ok .nx ⟨eW n t q lo hi (some (.int m0)) (some (.lst ((L ++ [k, t * k + q]).map M.int))) o6 (some (.lst [.int m0, .int l, .int u])) (some (.int k)), hp.set n c2⟩ := by
    refine set_of (s1 := ⟨eW n t q lo hi (some (.int m0)) (some (.lst (L.map M.int))) o6 (some (.lst [.int m0, .int l, .int u])) (some (.int k)), hp.set n c2⟩) ((m2_of (y := .lst [.int k, .int (t * k + q)]) (mv_of rfl) (mlst_of (mcons_of (x := .int k) (mv_of rfl) (mone nk)) (show 2 ≤ big by decide)) (oAdd_lst ?_)).trans ?_)
    · simp
      have : (80 : Nat) ≤ big := by decide
      omega
    · rw [List.map_append]
      rfl
  exact ⟨k, c2, _, (seq_nx sA).trans ((seq_nx sB).trans sC), P2⟩
theorem set_self {hp : List Cell} {n : Nat} {c : Cell} (h : hp[n]? = some c) : hp.set n c = hp := by
  refine List.ext_getElem? fun i => ?_
  by_cases e : n = i
  · subst e
    rw [List.getElem?_set_self (lt_of h), h]
  · rw [List.getElem?_set_ne e]
theorem insS_len (x : Int) : ∀ l : List Int, (insS x l).length ≤ l.length + 1
  | [] => by simp [insS]
  | y :: l => by
    have := insS_len x l
    unfold insS
    split
    · simp
    · split
      · simp
      · simp; omega
theorem ssI_len : ∀ l : List Int, (ssI l).length ≤ l.length
  | [] => Nat.le_refl _
  | x :: l => by
    have h1 := ssI_len l
    have h2 := insS_len x (ssI l)
    show (insS x (ssI l)).length ≤ _
    rw [List.length_cons]
    omega
theorem dk_loop (ht : T15 t) {m0 : Int} : ∀ (js : List Int) {hp : List Cell} {c : Cell} {L : List Int} {o6 o7 o8 : Option M}, hp[n]? = some c → IsPen c → L.length + 2 * js.length ≤ 20 →
    ∃ (L' : List Int) (c' : Cell) (o6' o7' o8' : Option M), sFor (gSet 6) dkS (js.map M.int) ⟨eW n t q lo hi (some (.int m0)) (some (.lst (L.map M.int))) o6 o7 o8, hp⟩ = .ok .nx ⟨eW n t q lo hi (some (.int m0)) (some (.lst (L'.map M.int))) o6' o7' o8', hp.set n c'⟩ ∧ IsPen c' ∧ L'.length ≤ 20
  | [], hp, c, L, o6, o7, o8, hc, P, hl => ⟨L, c, o6, o7, o8, by rw [set_self hc]; rfl, P, by simpa using hl⟩
  | j :: js, hp, c, L, o6, o7, o8, hc, P, hl => by
    rw [List.length_cons] at hl
    obtain ⟨k, c1, o7', e1, P1⟩ := dkS_at (lo := lo) (hi := hi) (q := q) ht hc P (m0 := m0) (L := L) (by omega) (o6 := some (.int j)) (o7 := o7) (o8 := o8)
    obtain ⟨L', c2, p6, p7, p8, e2, P2, l2⟩ := dk_loop ht js (hp := hp.set n c1) (c := c1) (L := L ++ [k, t * k + q]) (o6 := some (.int j)) (o7 := some o7') (o8 := some (.int k)) (List.getElem?_set_self (lt_of hc)) P1 (by rw [List.length_append]; simp; omega)
    rw [List.set_set] at e2
    exact ⟨L', c2, p6, p7, p8, (for_nx1 (s1 := ⟨eW n t q lo hi (some (.int m0)) (some (.lst (L.map M.int))) (some (.int j)) o7 o8, hp⟩) rfl e1).trans e2, P2, l2⟩
theorem drawn_at (ht : T15 t) (hc : hp[n]? = some c) (P : IsPen c) : ∃ (K : List Int) (c' : Cell), F__law_drawn_keys [.box n, .tup [.int t, .int q], oM lo, oM hi] hp = .ok (.lst (K.map M.int)) (hp.set n c') ∧ IsPen c' ∧ K.length ≤ 40 ∧ K.Nodup := by
  obtain ⟨m0, s0⟩ := dk0_at (n := n) (lo := lo) (hi := hi) (hp := hp) (q := q) ht
  obtain ⟨L, c', p6, p7, p8, e, P', l⟩ := dk_loop (lo := lo) (hi := hi) (q := q) ht (m0 := m0) [0, 1, 2, 3] (hp := hp) (L := []) (o6 := none) (o7 := none) (o8 := none) hc P (by simp)
  have ll : (ssI L).length ≤ L.length := ssI_len L
  refine ⟨ssI L, c', ?_, P', by omega, (ssI_up L).imp fun h => by omega⟩
  refine (show F__law_drawn_keys [.box n, .tup [.int t, .int q], oM lo, oM hi] hp = bodyF 4 9 m__law_drawn_keys [.box n, .tup [.int t, .int q], oM lo, oM hi] hp from rfl).trans (body_rt (s' := ⟨eW n t q lo hi (some (.int m0)) (some (.lst (L.map M.int))) p6 p7 p8, hp.set n c'⟩) ?_)
  rw [dk_eq]
  have s1 : dk1 ⟨eW n t q lo hi (some (.int m0)) none none none none, hp⟩ = .ok .nx ⟨eW n t q lo hi (some (.int m0)) (some (.lst [])) none none none, hp⟩ := rfl
  refine (seq_nx s0).trans ((seq_nx s1).trans ((seq_nx (for_of (xs := [M.int 0, M.int 1, M.int 2, M.int 3]) (s1 := ⟨eW n t q lo hi (some (.int m0)) (some (.lst [])) none none none, hp⟩) rfl e)).trans (ret_of ?_)))
  unfold mSetD
  rw [mv_of (m := .lst (L.map M.int)) rfl]
  show (match lstOf (hp.set n c') (M.lst (L.map M.int)) with | some ms => (match intsM ms with | some ns => if ns.length < 4000 ∧ (ssI ns).length < 60 then Res.ok (M.lst ((ssI ns).map M.int)) _ else Res.stuck | none => Res.stuck) | none => Res.stuck) = _
  rw [show lstOf (hp.set n c') (M.lst (L.map M.int)) = some (L.map M.int) from rfl]
  dsimp only
  rw [intsM_map]
  dsimp only
  rw [if_pos ⟨by omega, by omega⟩]
end
end Lw
namespace Lw
open L2 Ma PySem.Spec PySem PyProof.Rows
/-! the law -/
def IT0 : MI := (iSeq (m2 oAdd (mLst (mCons (mFn (mCons (mv 0) (mCons (mc (.int 0)) mNil)) F__law_cell_at) mNil)) (mSl (mv 0) (oSome (mc (.int 1))) (oSome (mc (.int 3))))))
def C0 : MStm := (sSet 2 (mFn (mCons (mv 1) mNil) F__law_pen))
def T0 : MStm := (sSet 4 (mFn (mCons (mv 2) mNil) F__law_numbers))
def T1 : MStm := (sAsg (mTup (mCons (mMk "Formula" F_Formula___init__ (mCons (m2 (oIxD oIx) (mv 4) (mc (.int 0))) (mCons (m2 (oIxD oIx) (mv 4) (mc (.int 1))) mNil))) (mCons (mFn (mCons (mv 2) (mCons (mv 4) mNil)) F__law_bounds) mNil))) (gTupG [(gSet 7), (gUnpN [10, 11])]))
def T3 : MStm := (sSet 6 (mFn (mCat 1 3 (mCons (mv 7) mNil) (mCons (mc (.str "up")) (mCons (mv 10) (mCons (mv 11) mNil)))) F_clash_k1_scan_low_high))
def T4 : MStm := (sIf (mNot (mB (mFn (mCons (mFn (mCat 1 2 (mCons (mv 7) mNil) (mCons (mv 10) (mCons (mv 11) mNil))) F_clash_k1_low_high) (mCons (mv 6) mNil)) F__law_same))) (sRet (mc (.bl false))) sNx)
def T5 : MStm := (sIf (mNot (mB (mFn (mCons (mLst (mCons (mAt (mv 7) (oPrp "Formula" F_Formula_times (fun _ _ => .stuck))) (mCons (mAt (mv 7) (oPrp "Formula" F_Formula_plus (fun _ _ => .stuck))) mNil))) (mCons (mCall (mCons (mv 4) mNil) cList) mNil)) F__law_same))) (sRet (mc (.bl false))) sNx)
def W0 : MStm := (sSet 8 (mFn (mCat 1 3 (mCons (mv 7) mNil) (mCons (mv 5) (mCons (mv 10) (mCons (mv 11) mNil)))) F_clash_k1_scan_low_high))
def W1 : MStm := (sIf (mB (m2 (oEqK true (oEqD true)) (m2 (oIsN false) (mv 8) (mc .non)) (mFn (mCons (mv 4) (mCons (mv 5) (mCons (mv 10) (mCons (mv 11) mNil)))) F__law_safe))) (sRet (mc (.bl false))) sNx)
def W2 : MStm := (sIf (mAnd (mB (m2 (oIsN true) (mv 8) (mc .non))) (mNot (mB (mFn (mCons (mv 8) (mCons (mv 4) (mCons (mv 5) (mCons (mv 10) (mCons (mv 11) mNil))))) F__law_pair_right)))) (sRet (mc (.bl false))) sNx)
def W3 : MStm := (sSet 9 (mFn (mCons (mv 2) (mCons (mv 4) (mCons (mv 10) (mCons (mv 11) mNil)))) F__law_drawn_keys))
def W4 : MStm := (sIf (mAnd (mB (m2 (oIsN false) (mv 8) (mc .non))) (mB (mFn (mCons (mv 9) (mCons (mv 4) (mCons (mv 5) (mCons (mv 10) (mCons (mv 11) mNil))))) F__law_collides))) (sRet (mc (.bl false))) sNx)
def W5 : MStm := (sIf (mNot (mB (mFn (mCons (mFn (mCat 1 3 (mCons (mv 7) mNil) (mCons (mv 5) (mCons (mv 10) (mCons (mv 11) mNil)))) F_clash_k1_scan_low_high) (mCons (mv 8) mNil)) F__law_same))) (sRet (mc (.bl false))) sNx)
abbrev WAY : MStm := (sSeq W0 (sSeq W1 (sSeq W2 (sSeq W3 (sSeq W4 W5)))))
def T2 : MStm := (sForI (iSeq (mLst (mCons (mc (.str "up")) (mCons (mc (.str "down")) (mCons (mc (.str "far")) (mCons (mc (.str "near")) mNil)))))) (gSet 5) WAY)
abbrev TURN : MStm := (sSeq T0 (sSeq T1 (sSeq T2 (sSeq T3 (sSeq T4 T5)))))
abbrev C1I : MI := (iRange1 (mCons (mc (.int 3)) mNil))
def C1 : MStm := (sForI C1I (gSet 3) TURN)
abbrev CELL : MStm := (sSeq C0 C1)
def RT : MStm := (sRet (mc (.bl true)))
theorem law_eq : m_law = sSeq (sForI IT0 (gSet 1) CELL) RT := rfl
abbrev env0 (ns : List Int) (o1 o2 o3 o4 o5 o6 o7 o8 o9 o10 o11 : Option M) : List (Option M) := [some (.scr ns), o1, o2, o3, o4, o5, o6, o7, o8, o9, o10, o11]
abbrev fmE : ME := (mMk "Formula" F_Formula___init__ (mCons (m2 (oIxD oIx) (mv 4) (mc (.int 0))) (mCons (m2 (oIxD oIx) (mv 4) (mc (.int 1))) mNil)))
abbrev bdE : ME := (mFn (mCons (mv 2) (mCons (mv 4) mNil)) F__law_bounds)
section
variable {hp B : List Cell} {ns : List Int} {i : Int} {n f : Nat} {t q : Int} {w : Way} {lo hi : Option Int} {o1 o2 o3 o4 o5 o6 o7 o8 o9 o10 o11 : Option M} {env : List (Option M)} {c c' : Cell} {y m : M}
theorem T15.le {t : Int} (h : T15 t) : -1000000000000000 ≤ t ∧ t ≤ 1000000000000000 := by unfold T15 at h; omega
theorem sf_iff (ht : T15 t) (hq : T15 q) (h1 : SmO lo) (h2 : SmO hi) : Sfe t q w lo hi FAR ↔ LS t q w lo hi := sf_law ht hq (fun l e => (h1 l e).le) fun h e => (h2 h e).le
theorem same_v (hf : hp[f]? = some (fr t q)) (ht : T15 t) (hq : T15 q) (h1 : SmO lo) (h2 : SmO hi) {hp' : List Cell} : F__law_same [clV t q w lo hi, clV t q w lo hi] hp' = .ok (.bl true) hp' := by
  by_cases s : Sfe t q w lo hi FAR
  · rw [clV_no s]; kernel_rfl
  · obtain ⟨x, _, e, ⟨_, b⟩, _⟩ := clV_yes hf ht s
    obtain ⟨a, b', e2, p⟩ := prM_pr t q x
    rw [e, e2]
    have hx : -18446744073709551616 ≤ x ∧ x ≤ 18446744073709551616 := by
      rcases b with b | b | b
      · exact b
      · have := (h1 x b).le; omega
      · have := (h2 x b).le; omega
    have hm : (t * x + q).natAbs < 10 ^ 40 := by
      have a1 : (t * x).natAbs ≤ 1000000000000000 * 18446744073709551616 := by
        rw [Int.natAbs_mul]
        exact Nat.mul_le_mul (by have := ht.le; omega) (by omega)
      have := hq.le
      have z : (10 : Nat) ^ 40 = 10000000000000000000000000000000000000000 := by decide
      rw [z]
      omega
    have hx' : x.natAbs < 10 ^ 40 := by
      have z : (10 : Nat) ^ 40 = 10000000000000000000000000000000000000000 := by decide
      rw [z]
      omega
    have ok : ∀ z, (z = x ∨ z = t * x + q) → Okd (.int z) 0 140 := fun z hz => Okd.int (by rcases hz with rfl | rfl <;> assumption)
    have oa := ok a (by obtain ⟨_, ⟨r, _⟩ | ⟨r, _⟩⟩ := p <;> simp [r])
    have ob := ok b' (by obtain ⟨_, ⟨_, r⟩ | ⟨_, r⟩⟩ := p <;> simp [r])
    exact same_okd (d := .tuple [.int a, .int b']) rfl rfl rfl (Okd.tuple (Oks.cons oa (Oks.cons ob (Oks.nil (w := 0))))) (by decide) (by decide)
theorem ck_at (hf : hp[f]? = some (fr t q)) (ht : T15 t) (h1 : SmO lo) (h2 : SmO hi) : F_clash_k1_scan_low_high [.box f, .str (wS w), oM lo, oM hi] hp = .ok (clV t q w lo hi) hp :=
  (show F_clash_k1_scan_low_high [.box f, .str (wS w), oM lo, oM hi] hp = bodyF 4 5 m_clash [.box f, wM w, oM lo, oM hi] hp from rfl).trans (clash_at hf ht h1 h2)
theorem cu_at (hf : hp[f]? = some (fr t q)) (ht : T15 t) (h1 : SmO lo) (h2 : SmO hi) : F_clash_k1_low_high [.box f, oM lo, oM hi] hp = .ok (clV t q .up lo hi) hp :=
  (show F_clash_k1_low_high [.box f, oM lo, oM hi] hp = bodyF 4 5 m_clash [.box f, wM .up, oM lo, oM hi] hp from rfl).trans (clash_at (w := .up) hf ht h1 h2)
/-! ### one way -/
theorem t1_at (hc : hp[n]? = some c) (P : IsPen c) (ht : T15 t) (hq : T15 q) : ∃ lo hi c' f hp', T1 ⟨env0 ns o1 (some (.box n)) o3 (some (.tup [.int t, .int q])) o5 o6 o7 o8 o9 o10 o11, hp⟩ = .ok .nx ⟨env0 ns o1 (some (.box n)) o3 (some (.tup [.int t, .int q])) o5 o6 (some (.box f)) o8 o9 (some (oM lo)) (some (oM hi)), hp'⟩ ∧ SmO lo ∧ SmO hi ∧ hp'[n]? = some c' ∧ IsPen c' ∧ hp'[f]? = some (fr t q) ∧ f ≠ n := by
  have hn := lt_of hc
  have f1 : fmE ⟨env0 ns o1 (some (.box n)) o3 (some (.tup [.int t, .int q])) o5 o6 o7 o8 o9 o10 o11, hp⟩ = .ok (.box hp.length) ⟨env0 ns o1 (some (.box n)) o3 (some (.tup [.int t, .int q])) o5 o6 o7 o8 o9 o10 o11, hp ++ [fr t q]⟩ := mk_ok (s1 := ⟨env0 ns o1 (some (.box n)) o3 (some (.tup [.int t, .int q])) o5 o6 o7 o8 o9 o10 o11, hp⟩) (mcons_of (m2_of (x := .tup [.int t, .int q]) (y := .int 0) (b := mc (.int 0)) (mv_of rfl) rfl rfl) (mone (m2_of (x := .tup [.int t, .int q]) (y := .int 1) (b := mc (.int 1)) (mv_of rfl) rfl rfl))) (by rw [z15]; exact ht) (by rw [z15]; exact hq)
  have hc1 : (hp ++ [fr t q])[n]? = some c := by rw [List.getElem?_append_left hn]; exact hc
  obtain ⟨lo, hi, c', ex, e2, P', s1, s2⟩ := bounds_at hc1 P ht hq
  have f2 : bdE ⟨env0 ns o1 (some (.box n)) o3 (some (.tup [.int t, .int q])) o5 o6 o7 o8 o9 o10 o11, hp ++ [fr t q]⟩ = .ok (.tup [oM lo, oM hi]) ⟨env0 ns o1 (some (.box n)) o3 (some (.tup [.int t, .int q])) o5 o6 o7 o8 o9 o10 o11, (hp ++ [fr t q]).set n c' ++ ex⟩ := fnE (F := F__law_bounds) (mcons_of (a := mv 2) (mv_of rfl) (mone (a := mv 4) (mv_of rfl))) e2
  have hn1 : n < (hp ++ [fr t q]).length := by rw [List.length_append]; omega
  refine ⟨lo, hi, c', hp.length, (hp ++ [fr t q]).set n c' ++ ex, ?_, s1, s2, ?_, P', ?_, by omega⟩
  · have tp : mTup (mCons fmE (mCons bdE mNil)) ⟨env0 ns o1 (some (.box n)) o3 (some (.tup [.int t, .int q])) o5 o6 o7 o8 o9 o10 o11, hp⟩ = .ok (.tup [.box hp.length, .tup [oM lo, oM hi]]) ⟨env0 ns o1 (some (.box n)) o3 (some (.tup [.int t, .int q])) o5 o6 o7 o8 o9 o10 o11, (hp ++ [fr t q]).set n c' ++ ex⟩ := by
      unfold mTup
      rw [mcons_of f1 (mone f2)]
      rfl
    show (mTup (mCons fmE (mCons bdE mNil)) ⟨env0 ns o1 (some (.box n)) o3 (some (.tup [.int t, .int q])) o5 o6 o7 o8 o9 o10 o11, hp⟩).bind _ = _
    rw [tp]
    rfl
  · rw [List.getElem?_append_left (by rw [List.length_set]; exact hn1)]
    exact List.getElem?_set_self hn1
  · rw [List.getElem?_append_left (by rw [List.length_set, List.length_append]; simp), List.getElem?_set_ne (by omega)]
    simp
theorem isn_v (hf : hp[f]? = some (fr t q)) (ht : T15 t) (hq : T15 q) (h1 : SmO lo) (h2 : SmO hi) {s : MS} : oIsN false (clV t q w lo hi) .non s = .ok (.bl (decide (LS t q w lo hi))) s ∧ oIsN true (clV t q w lo hi) .non s = .ok (.bl (!decide (LS t q w lo hi))) s := by
  have i := sf_iff (w := w) ht hq h1 h2
  by_cases c : Sfe t q w lo hi FAR
  · rw [clV_no c, decide_eq_true (i.mp c)]
    exact ⟨rfl, rfl⟩
  · obtain ⟨x, _, e, _, _⟩ := clV_yes hf ht c
    obtain ⟨a, b', e2, p⟩ := prM_pr t q x
    rw [e, e2, decide_eq_false (fun z => c (i.mpr z))]
    exact ⟨rfl, rfl⟩
theorem w0_at (hf : hp[f]? = some (fr t q)) (ht : T15 t) (h1 : SmO lo) (h2 : SmO hi) : W0 ⟨env0 ns o1 o2 o3 (some (.tup [.int t, .int q])) (some (.str (wS w))) o6 (some (.box f)) o8 o9 (some (oM lo)) (some (oM hi)), hp⟩ = .ok .nx ⟨env0 ns o1 o2 o3 (some (.tup [.int t, .int q])) (some (.str (wS w))) o6 (some (.box f)) (some (clV t q w lo hi)) o9 (some (oM lo)) (some (oM hi)), hp⟩ :=
  set_of (s1 := ⟨env0 ns o1 o2 o3 (some (.tup [.int t, .int q])) (some (.str (wS w))) o6 (some (.box f)) o8 o9 (some (oM lo)) (some (oM hi)), hp⟩) (fnE (F := F_clash_k1_scan_low_high) (env := env0 ns o1 o2 o3 (some (.tup [.int t, .int q])) (some (.str (wS w))) o6 (some (.box f)) o8 o9 (some (oM lo)) (some (oM hi))) (mcat_of (n := 1) (k := 3) (mone (a := mv 7) (mv_of rfl)) (mcons_of (a := mv 5) (mv_of rfl) (mcons_of (a := mv 10) (mv_of rfl) (mone (a := mv 11) (mv_of rfl))))) (ck_at hf ht h1 h2))
theorem w1_at (hf : hp[f]? = some (fr t q)) (ht : T15 t) (hq : T15 q) (h1 : SmO lo) (h2 : SmO hi) : W1 ⟨env0 ns o1 o2 o3 (some (.tup [.int t, .int q])) (some (.str (wS w))) o6 (some (.box f)) (some (clV t q w lo hi)) o9 (some (oM lo)) (some (oM hi)), hp⟩ = .ok .nx ⟨env0 ns o1 o2 o3 (some (.tup [.int t, .int q])) (some (.str (wS w))) o6 (some (.box f)) (some (clV t q w lo hi)) o9 (some (oM lo)) (some (oM hi)), hp⟩ := by
  have a := m2_of (o := oIsN false) (a := mv 8) (b := mc .non) (s := ⟨env0 ns o1 o2 o3 (some (.tup [.int t, .int q])) (some (.str (wS w))) o6 (some (.box f)) (some (clV t q w lo hi)) o9 (some (oM lo)) (some (oM hi)), hp⟩) (s1 := ⟨env0 ns o1 o2 o3 (some (.tup [.int t, .int q])) (some (.str (wS w))) o6 (some (.box f)) (some (clV t q w lo hi)) o9 (some (oM lo)) (some (oM hi)), hp⟩) (s2 := ⟨env0 ns o1 o2 o3 (some (.tup [.int t, .int q])) (some (.str (wS w))) o6 (some (.box f)) (some (clV t q w lo hi)) o9 (some (oM lo)) (some (oM hi)), hp⟩) (x := clV t q w lo hi) (y := .non) (mv_of rfl) rfl (isn_v (w := w) hf ht hq h1 h2).1
  have b := fnE (F := F__law_safe) (env := env0 ns o1 o2 o3 (some (.tup [.int t, .int q])) (some (.str (wS w))) o6 (some (.box f)) (some (clV t q w lo hi)) o9 (some (oM lo)) (some (oM hi))) (mcons_of (a := mv 4) (mv_of rfl) (mcons_of (a := mv 5) (mv_of rfl) (mcons_of (a := mv 10) (mv_of rfl) (mone (a := mv 11) (mv_of rfl))))) (lsafe_at (w := w) (lo := lo) (hi := hi) (q := q) (hp := hp) ht)
  exact (if_of (k := false) (b_of (m2_of a b (by cases decide (LS t q w lo hi) <;> kernel_rfl)))).trans rfl
theorem w2_at (hf : hp[f]? = some (fr t q)) (ht : T15 t) (hq : T15 q) (h1 : SmO lo) (h2 : SmO hi) : ∃ hp', W2 ⟨env0 ns o1 o2 o3 (some (.tup [.int t, .int q])) (some (.str (wS w))) o6 (some (.box f)) (some (clV t q w lo hi)) o9 (some (oM lo)) (some (oM hi)), hp⟩ = .ok .nx ⟨env0 ns o1 o2 o3 (some (.tup [.int t, .int q])) (some (.str (wS w))) o6 (some (.box f)) (some (clV t q w lo hi)) o9 (some (oM lo)) (some (oM hi)), hp'⟩ ∧ Ext hp hp' := by
  have a := b_of (m2_of (o := oIsN true) (a := mv 8) (b := mc .non) (s := ⟨env0 ns o1 o2 o3 (some (.tup [.int t, .int q])) (some (.str (wS w))) o6 (some (.box f)) (some (clV t q w lo hi)) o9 (some (oM lo)) (some (oM hi)), hp⟩) (s1 := ⟨env0 ns o1 o2 o3 (some (.tup [.int t, .int q])) (some (.str (wS w))) o6 (some (.box f)) (some (clV t q w lo hi)) o9 (some (oM lo)) (some (oM hi)), hp⟩) (s2 := ⟨env0 ns o1 o2 o3 (some (.tup [.int t, .int q])) (some (.str (wS w))) o6 (some (.box f)) (some (clV t q w lo hi)) o9 (some (oM lo)) (some (oM hi)), hp⟩) (x := clV t q w lo hi) (y := .non) (mv_of rfl) rfl (isn_v (w := w) hf ht hq h1 h2).2)
  have i := sf_iff (w := w) ht hq h1 h2
  by_cases c : LS t q w lo hi
  · rw [decide_eq_true c] at a
    exact ⟨hp, (if_of (k := false) (and_f a)).trans rfl, Ext.refl _⟩
  · rw [decide_eq_false c] at a
    obtain ⟨x, _, e, ⟨hw, _⟩, cx⟩ := clV_yes (w := w) hf ht (fun z => c (i.mp z))
    obtain ⟨a', b', e2, p⟩ := prM_pr t q x
    obtain ⟨hp', e3, x3⟩ := pair_right_at (hp := hp) ht hw cx p
    rw [← e2, ← e] at e3
    have f := not_of (b_of (fnE (F := F__law_pair_right) (env := env0 ns o1 o2 o3 (some (.tup [.int t, .int q])) (some (.str (wS w))) o6 (some (.box f)) (some (clV t q w lo hi)) o9 (some (oM lo)) (some (oM hi))) (mcons_of (a := mv 8) (mv_of rfl) (mcons_of (a := mv 4) (mv_of rfl) (mcons_of (a := mv 5) (mv_of rfl) (mcons_of (a := mv 10) (mv_of rfl) (mone (a := mv 11) (mv_of rfl)))))) e3))
    exact ⟨hp', (if_of (k := false) ((and_tt a).trans f)).trans rfl, x3⟩
theorem w3_at (hc : hp[n]? = some c) (P : IsPen c) (ht : T15 t) : ∃ (K : List Int) (c' : Cell), W3 ⟨env0 ns o1 (some (.box n)) o3 (some (.tup [.int t, .int q])) o5 o6 o7 o8 o9 (some (oM lo)) (some (oM hi)), hp⟩ = .ok .nx ⟨env0 ns o1 (some (.box n)) o3 (some (.tup [.int t, .int q])) o5 o6 o7 o8 (some (.lst (K.map M.int))) (some (oM lo)) (some (oM hi)), hp.set n c'⟩ ∧ IsPen c' ∧ K.length ≤ 40 ∧ K.Nodup := by
  obtain ⟨K, c', e, P', l, nd⟩ := drawn_at (lo := lo) (hi := hi) (q := q) ht hc P
  exact ⟨K, c', set_of (s1 := ⟨env0 ns o1 (some (.box n)) o3 (some (.tup [.int t, .int q])) o5 o6 o7 o8 o9 (some (oM lo)) (some (oM hi)), hp.set n c'⟩) (fnE (F := F__law_drawn_keys) (env := env0 ns o1 (some (.box n)) o3 (some (.tup [.int t, .int q])) o5 o6 o7 o8 o9 (some (oM lo)) (some (oM hi))) (mcons_of (a := mv 2) (mv_of rfl) (mcons_of (a := mv 4) (mv_of rfl) (mcons_of (a := mv 10) (mv_of rfl) (mone (a := mv 11) (mv_of rfl))))) e), P', l, nd⟩
theorem w4_at {K : List Int} (hf : hp[f]? = some (fr t q)) (ht : T15 t) (hq : T15 q) (h1 : SmO lo) (h2 : SmO hi) (hl : K.length ≤ 40) (nd : K.Nodup) : ∃ hp', W4 ⟨env0 ns o1 o2 o3 (some (.tup [.int t, .int q])) (some (.str (wS w))) o6 (some (.box f)) (some (clV t q w lo hi)) (some (.lst (K.map M.int))) (some (oM lo)) (some (oM hi)), hp⟩ = .ok .nx ⟨env0 ns o1 o2 o3 (some (.tup [.int t, .int q])) (some (.str (wS w))) o6 (some (.box f)) (some (clV t q w lo hi)) (some (.lst (K.map M.int))) (some (oM lo)) (some (oM hi)), hp'⟩ ∧ Ext hp hp' := by
  have a := b_of (m2_of (o := oIsN false) (a := mv 8) (b := mc .non) (s := ⟨env0 ns o1 o2 o3 (some (.tup [.int t, .int q])) (some (.str (wS w))) o6 (some (.box f)) (some (clV t q w lo hi)) (some (.lst (K.map M.int))) (some (oM lo)) (some (oM hi)), hp⟩) (s1 := ⟨env0 ns o1 o2 o3 (some (.tup [.int t, .int q])) (some (.str (wS w))) o6 (some (.box f)) (some (clV t q w lo hi)) (some (.lst (K.map M.int))) (some (oM lo)) (some (oM hi)), hp⟩) (s2 := ⟨env0 ns o1 o2 o3 (some (.tup [.int t, .int q])) (some (.str (wS w))) o6 (some (.box f)) (some (clV t q w lo hi)) (some (.lst (K.map M.int))) (some (oM lo)) (some (oM hi)), hp⟩) (x := clV t q w lo hi) (y := .non) (mv_of rfl) rfl (isn_v (w := w) hf ht hq h1 h2).1)
  by_cases c : LS t q w lo hi
  · rw [decide_eq_true c] at a
    obtain ⟨hp', e3, x3⟩ := col_none (hp := hp) (K := K) ht hl nd c
    have f := b_of (fnE (F := F__law_collides) (env := env0 ns o1 o2 o3 (some (.tup [.int t, .int q])) (some (.str (wS w))) o6 (some (.box f)) (some (clV t q w lo hi)) (some (.lst (K.map M.int))) (some (oM lo)) (some (oM hi))) (mcons_of (a := mv 9) (mv_of rfl) (mcons_of (a := mv 4) (mv_of rfl) (mcons_of (a := mv 5) (mv_of rfl) (mcons_of (a := mv 10) (mv_of rfl) (mone (a := mv 11) (mv_of rfl)))))) e3)
    exact ⟨hp', (if_of (k := false) ((and_tt a).trans f)).trans rfl, x3⟩
  · rw [decide_eq_false c] at a
    exact ⟨hp, (if_of (k := false) (and_f a)).trans rfl, Ext.refl _⟩
theorem w5_at (hf : hp[f]? = some (fr t q)) (ht : T15 t) (hq : T15 q) (h1 : SmO lo) (h2 : SmO hi) : W5 ⟨env0 ns o1 o2 o3 (some (.tup [.int t, .int q])) (some (.str (wS w))) o6 (some (.box f)) (some (clV t q w lo hi)) o9 (some (oM lo)) (some (oM hi)), hp⟩ = .ok .nx ⟨env0 ns o1 o2 o3 (some (.tup [.int t, .int q])) (some (.str (wS w))) o6 (some (.box f)) (some (clV t q w lo hi)) o9 (some (oM lo)) (some (oM hi)), hp⟩ := by
  have s1 := fnE (F := F_clash_k1_scan_low_high) (env := env0 ns o1 o2 o3 (some (.tup [.int t, .int q])) (some (.str (wS w))) o6 (some (.box f)) (some (clV t q w lo hi)) o9 (some (oM lo)) (some (oM hi))) (mcat_of (n := 1) (k := 3) (mone (a := mv 7) (mv_of rfl)) (mcons_of (a := mv 5) (mv_of rfl) (mcons_of (a := mv 10) (mv_of rfl) (mone (a := mv 11) (mv_of rfl))))) (ck_at (w := w) hf ht h1 h2)
  exact (if_of (k := false) (not_of (b := true) (b_of (fnE (F := F__law_same) (mcons_of s1 (mone (a := mv 8) (mv_of rfl))) (same_v hf ht hq h1 h2))))).trans rfl
theorem way_at (hc : hp[n]? = some c) (P : IsPen c) (hf : hp[f]? = some (fr t q)) (ne : f ≠ n) (ht : T15 t) (hq : T15 q) (h1 : SmO lo) (h2 : SmO hi) :
    ∃ p9 c' hp', WAY ⟨env0 ns o1 (some (.box n)) o3 (some (.tup [.int t, .int q])) (some (.str (wS w))) o6 (some (.box f)) o8 o9 (some (oM lo)) (some (oM hi)), hp⟩ = .ok .nx ⟨env0 ns o1 (some (.box n)) o3 (some (.tup [.int t, .int q])) (some (.str (wS w))) o6 (some (.box f)) (some (clV t q w lo hi)) p9 (some (oM lo)) (some (oM hi)), hp'⟩ ∧ hp'[n]? = some c' ∧ IsPen c' ∧ hp'[f]? = some (fr t q) := by
  have s0 := w0_at (ns := ns) (w := w) (o1 := o1) (o2 := some (.box n)) (o3 := o3) (o6 := o6) (o8 := o8) (o9 := o9) hf ht h1 h2
  have s1 := w1_at (ns := ns) (w := w) (o1 := o1) (o2 := some (.box n)) (o3 := o3) (o6 := o6) (o9 := o9) hf ht hq h1 h2
  obtain ⟨hp2, s2, x2⟩ := w2_at (ns := ns) (w := w) (o1 := o1) (o2 := some (.box n)) (o3 := o3) (o6 := o6) (o9 := o9) hf ht hq h1 h2
  obtain ⟨K, c3, s3, P3, l, nd⟩ := w3_at (ns := ns) (lo := lo) (hi := hi) (q := q) (o1 := o1) (o3 := o3) (o5 := some (.str (wS w))) (o6 := o6) (o7 := some (.box f)) (o8 := some (clV t q w lo hi)) (o9 := o9) (x2 _ _ hc) P ht
  have hn := lt_of (x2 _ _ hc)
  have hf3 : (hp2.set n c3)[f]? = some (fr t q) := by rw [List.getElem?_set_ne (fun z => ne z.symm)]; exact x2 _ _ hf
  have hc3 : (hp2.set n c3)[n]? = some c3 := List.getElem?_set_self hn
  obtain ⟨hp4, s4, x4⟩ := w4_at (ns := ns) (w := w) (o1 := o1) (o2 := some (.box n)) (o3 := o3) (o6 := o6) hf3 ht hq h1 h2 l nd
  have s5 := w5_at (ns := ns) (w := w) (o1 := o1) (o2 := some (.box n)) (o3 := o3) (o6 := o6) (o9 := some (.lst (K.map M.int))) (x4 _ _ hf3) ht hq h1 h2
  exact ⟨_, c3, hp4, (seq_nx s0).trans ((seq_nx s1).trans ((seq_nx s2).trans ((seq_nx s3).trans ((seq_nx s4).trans s5)))), x4 _ _ hc3, P3, x4 _ _ hf3⟩
theorem ways_at (ht : T15 t) (hq : T15 q) (h1 : SmO lo) (h2 : SmO hi) (ne : f ≠ n) : ∀ (ws : List Way) {hp : List Cell} {c : Cell} {o5 o8 o9 : Option M}, hp[n]? = some c → IsPen c → hp[f]? = some (fr t q) → ∃ p5 p8 p9 c' hp', sFor (gSet 5) WAY (ws.map fun w => .str (wS w)) ⟨env0 ns o1 (some (.box n)) o3 (some (.tup [.int t, .int q])) o5 o6 (some (.box f)) o8 o9 (some (oM lo)) (some (oM hi)), hp⟩ = .ok .nx ⟨env0 ns o1 (some (.box n)) o3 (some (.tup [.int t, .int q])) p5 o6 (some (.box f)) p8 p9 (some (oM lo)) (some (oM hi)), hp'⟩ ∧ hp'[n]? = some c' ∧ IsPen c' ∧ hp'[f]? = some (fr t q)
  | [], hp, c, o5, o8, o9, hc, P, hf => ⟨o5, o8, o9, c, hp, rfl, hc, P, hf⟩
  | w :: ws, hp, c, o5, o8, o9, hc, P, hf => by
    obtain ⟨q9, c1, hp1, e1, hc1, P1, hf1⟩ := way_at (ns := ns) (w := w) (o1 := o1) (o3 := o3) (o6 := o6) (o8 := o8) (o9 := o9) hc P hf ne ht hq h1 h2
    obtain ⟨p5, p8, p9, c2, hp2, e2, hc2, P2, hf2⟩ := ways_at ht hq h1 h2 ne ws (hp := hp1) (o5 := some (.str (wS w))) (o8 := some (clV t q w lo hi)) (o9 := q9) hc1 P1 hf1
    exact ⟨p5, p8, p9, c2, hp2, (for_nx1 (s1 := ⟨env0 ns o1 (some (.box n)) o3 (some (.tup [.int t, .int q])) (some (.str (wS w))) o6 (some (.box f)) o8 o9 (some (oM lo)) (some (oM hi)), hp⟩) rfl e1).trans e2, hc2, P2, hf2⟩
theorem t2_at (ht : T15 t) (hq : T15 q) (h1 : SmO lo) (h2 : SmO hi) (ne : f ≠ n) (hc : hp[n]? = some c) (P : IsPen c) (hf : hp[f]? = some (fr t q)) : ∃ p5 p8 p9 c' hp', T2 ⟨env0 ns o1 (some (.box n)) o3 (some (.tup [.int t, .int q])) o5 o6 (some (.box f)) o8 o9 (some (oM lo)) (some (oM hi)), hp⟩ = .ok .nx ⟨env0 ns o1 (some (.box n)) o3 (some (.tup [.int t, .int q])) p5 o6 (some (.box f)) p8 p9 (some (oM lo)) (some (oM hi)), hp'⟩ ∧ hp'[n]? = some c' ∧ IsPen c' ∧ hp'[f]? = some (fr t q) := by
  obtain ⟨p5, p8, p9, c2, hp2, e2, r⟩ := ways_at (ns := ns) (o1 := o1) (o3 := o3) (o6 := o6) ht hq h1 h2 ne [.up, .down, .far, .near] hc P hf
  exact ⟨p5, p8, p9, c2, hp2, for_of (s1 := ⟨env0 ns o1 (some (.box n)) o3 (some (.tup [.int t, .int q])) o5 o6 (some (.box f)) o8 o9 (some (oM lo)) (some (oM hi)), hp⟩) rfl e2, r⟩
theorem t3_at (hf : hp[f]? = some (fr t q)) (ht : T15 t) (h1 : SmO lo) (h2 : SmO hi) : T3 ⟨env0 ns o1 o2 o3 o4 o5 o6 (some (.box f)) o8 o9 (some (oM lo)) (some (oM hi)), hp⟩ = .ok .nx ⟨env0 ns o1 o2 o3 o4 o5 (some (clV t q .up lo hi)) (some (.box f)) o8 o9 (some (oM lo)) (some (oM hi)), hp⟩ :=
  set_of (s1 := ⟨env0 ns o1 o2 o3 o4 o5 o6 (some (.box f)) o8 o9 (some (oM lo)) (some (oM hi)), hp⟩) (fnE (F := F_clash_k1_scan_low_high) (env := env0 ns o1 o2 o3 o4 o5 o6 (some (.box f)) o8 o9 (some (oM lo)) (some (oM hi))) (mcat_of (n := 1) (k := 3) (mone (a := mv 7) (mv_of rfl)) (mcons_of (a := mc (.str "up")) rfl (mcons_of (a := mv 10) (mv_of rfl) (mone (a := mv 11) (mv_of rfl))))) (ck_at (w := .up) hf ht h1 h2))
theorem t4_at (hf : hp[f]? = some (fr t q)) (ht : T15 t) (hq : T15 q) (h1 : SmO lo) (h2 : SmO hi) : T4 ⟨env0 ns o1 o2 o3 o4 o5 (some (clV t q .up lo hi)) (some (.box f)) o8 o9 (some (oM lo)) (some (oM hi)), hp⟩ = .ok .nx ⟨env0 ns o1 o2 o3 o4 o5 (some (clV t q .up lo hi)) (some (.box f)) o8 o9 (some (oM lo)) (some (oM hi)), hp⟩ := by
  have s1 := fnE (F := F_clash_k1_low_high) (env := env0 ns o1 o2 o3 o4 o5 (some (clV t q .up lo hi)) (some (.box f)) o8 o9 (some (oM lo)) (some (oM hi))) (mcat_of (n := 1) (k := 2) (mone (a := mv 7) (mv_of rfl)) (mcons_of (a := mv 10) (mv_of rfl) (mone (a := mv 11) (mv_of rfl)))) (cu_at hf ht h1 h2)
  exact (if_of (k := false) (not_of (b := true) (b_of (fnE (F := F__law_same) (mcons_of s1 (mone (a := mv 6) (mv_of rfl))) (same_v hf ht hq h1 h2))))).trans rfl
theorem okd_15 {t : Int} (h : T15 t) : Okd (.int t) 0 140 := Okd.int (by
  have := h.le
  have z : (10 : Nat) ^ 40 = 10000000000000000000000000000000000000000 := by decide
  rw [z]
  omega)
theorem okd_list {ds : List PyData} {k w : Nat} (h : Oks ds k w) : Okd (.list ds) (k + 1) w := Okd.list h
theorem t5_at (hf : hp[f]? = some (fr t q)) (ht : T15 t) (hq : T15 q) : T5 ⟨env0 ns o1 o2 o3 (some (.tup [.int t, .int q])) o5 o6 (some (.box f)) o8 o9 o10 o11, hp⟩ = .ok .nx ⟨env0 ns o1 o2 o3 (some (.tup [.int t, .int q])) o5 o6 (some (.box f)) o8 o9 o10 o11, hp⟩ := by
  have a : mLst (mCons (mAt (mv 7) (oPrp "Formula" F_Formula_times (fun _ _ => .stuck))) (mCons (mAt (mv 7) (oPrp "Formula" F_Formula_plus (fun _ _ => .stuck))) mNil)) ⟨env0 ns o1 o2 o3 (some (.tup [.int t, .int q])) o5 o6 (some (.box f)) o8 o9 o10 o11, hp⟩ = .ok (.lst [.int t, .int q]) ⟨env0 ns o1 o2 o3 (some (.tup [.int t, .int q])) o5 o6 (some (.box f)) o8 o9 o10 o11, hp⟩ :=
    mlst_of (mcons_of ((Ma.at_of (mv_of rfl)).trans (prp_t hf)) (mone ((Ma.at_of (mv_of rfl)).trans (prp_p hf)))) (show 2 ≤ big by decide)
  have b : mCall (mCons (mv 4) mNil) cList ⟨env0 ns o1 o2 o3 (some (.tup [.int t, .int q])) o5 o6 (some (.box f)) o8 o9 o10 o11, hp⟩ = .ok (.lst [.int t, .int q]) ⟨env0 ns o1 o2 o3 (some (.tup [.int t, .int q])) o5 o6 (some (.box f)) o8 o9 o10 o11, hp⟩ := call_of (o := cList) (mone (mv_of (m := .tup [.int t, .int q]) rfl)) rfl
  exact (if_of (k := false) (not_of (b := true) (b_of (fnE (F := F__law_same) (hp1 := hp) (mcons_of a (mone b)) (same_okd (d := .list [.int t, .int q]) rfl rfl rfl (okd_list (Oks.cons (okd_15 ht) (Oks.cons (okd_15 hq) (Oks.nil (w := 0))))) (by decide) (by decide)))))).trans rfl
theorem turn_at (hc : hp[n]? = some c) (P : IsPen c) : ∃ p4 p5 p6 p7 p8 p9 p10 p11 c' hp', TURN ⟨env0 ns o1 (some (.box n)) o3 o4 o5 o6 o7 o8 o9 o10 o11, hp⟩ = .ok .nx ⟨env0 ns o1 (some (.box n)) o3 p4 p5 p6 p7 p8 p9 p10 p11, hp'⟩ ∧ hp'[n]? = some c' ∧ IsPen c' := by
  obtain ⟨t, q, c1, e0, ht, hq, P1⟩ := numbers_at hc P
  rw [z15] at ht hq
  have s0 : T0 ⟨env0 ns o1 (some (.box n)) o3 o4 o5 o6 o7 o8 o9 o10 o11, hp⟩ = .ok .nx ⟨env0 ns o1 (some (.box n)) o3 (some (.tup [.int t, .int q])) o5 o6 o7 o8 o9 o10 o11, hp.set n c1⟩ := set_of (s1 := ⟨env0 ns o1 (some (.box n)) o3 o4 o5 o6 o7 o8 o9 o10 o11, hp.set n c1⟩) (fnE (F := F__law_numbers) (mone (a := mv 2) (mv_of rfl)) e0)
  have hc1 : (hp.set n c1)[n]? = some c1 := List.getElem?_set_self (lt_of hc)
  generalize hp.set n c1 = hp1 at s0 hc1
  obtain ⟨lo, hi, c2, f, hp2, s1, h1, h2, hc2, P2, hf, ne⟩ := t1_at (ns := ns) (o1 := o1) (o3 := o3) (o5 := o5) (o6 := o6) (o7 := o7) (o8 := o8) (o9 := o9) (o10 := o10) (o11 := o11) hc1 P1 ht hq
  obtain ⟨p5, p8, p9, c3, hp3, s2, hc3, P3, hf3⟩ := t2_at (ns := ns) (o1 := o1) (o3 := o3) (o5 := o5) (o6 := o6) (o8 := o8) (o9 := o9) ht hq h1 h2 ne hc2 P2 hf
  have s3 := t3_at (ns := ns) (o1 := o1) (o2 := some (.box n)) (o3 := o3) (o4 := some (.tup [.int t, .int q])) (o5 := p5) (o6 := o6) (o8 := p8) (o9 := p9) hf3 ht h1 h2
  have s4 := t4_at (ns := ns) (o1 := o1) (o2 := some (.box n)) (o3 := o3) (o4 := some (.tup [.int t, .int q])) (o5 := p5) (o8 := p8) (o9 := p9) hf3 ht hq h1 h2
  have s5 := t5_at (ns := ns) (o1 := o1) (o2 := some (.box n)) (o3 := o3) (o5 := p5) (o6 := some (clV t q .up lo hi)) (o8 := p8) (o9 := p9) (o10 := some (oM lo)) (o11 := some (oM hi)) hf3 ht hq
  exact ⟨_, _, _, _, _, _, _, _, c3, hp3, (seq_nx s0).trans ((seq_nx s1).trans ((seq_nx s2).trans ((seq_nx s3).trans ((seq_nx s4).trans s5)))), hc3, P3⟩
theorem turns_at : ∀ (js : List M) {hp : List Cell} {c : Cell} {o3 o4 o5 o6 o7 o8 o9 o10 o11 : Option M}, hp[n]? = some c → IsPen c → ∃ p3 p4 p5 p6 p7 p8 p9 p10 p11 hp', sFor (gSet 3) TURN js ⟨env0 ns o1 (some (.box n)) o3 o4 o5 o6 o7 o8 o9 o10 o11, hp⟩ = .ok .nx ⟨env0 ns o1 (some (.box n)) p3 p4 p5 p6 p7 p8 p9 p10 p11, hp'⟩
  | [], hp, c, o3, o4, o5, o6, o7, o8, o9, o10, o11, hc, P => ⟨o3, o4, o5, o6, o7, o8, o9, o10, o11, hp, rfl⟩
  | j :: js, hp, c, o3, o4, o5, o6, o7, o8, o9, o10, o11, hc, P => by
    obtain ⟨q4, q5, q6, q7, q8, q9, q10, q11, c1, hp1, e1, hc1, P1⟩ := turn_at (ns := ns) (o1 := o1) (o4 := o4) (o5 := o5) (o6 := o6) (o7 := o7) (o8 := o8) (o9 := o9) (o10 := o10) (o11 := o11) (o3 := some j) hc P
    obtain ⟨p3, p4, p5, p6, p7, p8, p9, p10, p11, hp2, e2⟩ := turns_at js (hp := hp1) (o3 := some j) (o4 := q4) (o5 := q5) (o6 := q6) (o7 := q7) (o8 := q8) (o9 := q9) (o10 := q10) (o11 := q11) hc1 P1
    exact ⟨p3, p4, p5, p6, p7, p8, p9, p10, p11, hp2, (for_nx1 (s1 := ⟨env0 ns o1 (some (.box n)) (some j) o4 o5 o6 o7 o8 o9 o10 o11, hp⟩) rfl e1).trans e2⟩
theorem cell_nx : ∃ p2 p3 p4 p5 p6 p7 p8 p9 p10 p11 hp', CELL ⟨env0 ns (some (.int i)) o2 o3 o4 o5 o6 o7 o8 o9 o10 o11, hp⟩ = .ok .nx ⟨env0 ns (some (.int i)) p2 p3 p4 p5 p6 p7 p8 p9 p10 p11, hp'⟩ := by
  have s0 : C0 ⟨env0 ns (some (.int i)) o2 o3 o4 o5 o6 o7 o8 o9 o10 o11, hp⟩ = .ok .nx ⟨env0 ns (some (.int i)) (some (.box hp.length)) o3 o4 o5 o6 o7 o8 o9 o10 o11, hp ++ [pen (if i - 10 ^ 18 > 0 then i - 10 ^ 18 else 0) (i % 2147483629) 1]⟩ := set_of (s1 := ⟨env0 ns (some (.int i)) o2 o3 o4 o5 o6 o7 o8 o9 o10 o11, hp ++ [pen (if i - 10 ^ 18 > 0 then i - 10 ^ 18 else 0) (i % 2147483629) 1]⟩) (fnE (F := F__law_pen) (mone (a := mv 1) (mv_of rfl)) pen_at)
  have hc : (hp ++ [pen (if i - 10 ^ 18 > 0 then i - 10 ^ 18 else 0) (i % 2147483629) 1])[hp.length]? = some (pen (if i - 10 ^ 18 > 0 then i - 10 ^ 18 else 0) (i % 2147483629) 1) := by simp
  obtain ⟨p3, p4, p5, p6, p7, p8, p9, p10, p11, hp2, e2⟩ := turns_at (ns := ns) (n := hp.length) (o1 := some (.int i)) [.int 0, .int 1, .int 2] (o3 := o3) (o4 := o4) (o5 := o5) (o6 := o6) (o7 := o7) (o8 := o8) (o9 := o9) (o10 := o10) (o11 := o11) hc (pen_of i)
  exact ⟨_, p3, p4, p5, p6, p7, p8, p9, p10, p11, hp2, (seq_nx s0).trans (for_of (s1 := ⟨env0 ns (some (.int i)) (some (.box hp.length)) o3 o4 o5 o6 o7 o8 o9 o10 o11, hp ++ [pen (if i - 10 ^ 18 > 0 then i - 10 ^ 18 else 0) (i % 2147483629) 1]⟩) rfl e2)⟩
theorem cells_at : ∀ (is : List Int) {hp : List Cell} {o1 o2 o3 o4 o5 o6 o7 o8 o9 o10 o11 : Option M}, ∃ p1 p2 p3 p4 p5 p6 p7 p8 p9 p10 p11 hp', sFor (gSet 1) CELL (is.map M.int) ⟨env0 ns o1 o2 o3 o4 o5 o6 o7 o8 o9 o10 o11, hp⟩ = .ok .nx ⟨env0 ns p1 p2 p3 p4 p5 p6 p7 p8 p9 p10 p11, hp'⟩
  | [], hp, o1, o2, o3, o4, o5, o6, o7, o8, o9, o10, o11 => ⟨o1, o2, o3, o4, o5, o6, o7, o8, o9, o10, o11, hp, rfl⟩
  | i :: is, hp, o1, o2, o3, o4, o5, o6, o7, o8, o9, o10, o11 => by
    obtain ⟨q2, q3, q4, q5, q6, q7, q8, q9, q10, q11, hp1, e1⟩ := cell_nx (ns := ns) (i := i) (hp := hp) (o2 := o2) (o3 := o3) (o4 := o4) (o5 := o5) (o6 := o6) (o7 := o7) (o8 := o8) (o9 := o9) (o10 := o10) (o11 := o11)
    obtain ⟨p1, p2, p3, p4, p5, p6, p7, p8, p9, p10, p11, hp2, e2⟩ := cells_at is (hp := hp1) (o1 := some (.int i)) (o2 := q2) (o3 := q3) (o4 := q4) (o5 := q5) (o6 := q6) (o7 := q7) (o8 := q8) (o9 := q9) (o10 := q10) (o11 := q11)
    exact ⟨p1, p2, p3, p4, p5, p6, p7, p8, p9, p10, p11, hp2, (for_nx1 (s1 := ⟨env0 ns (some (.int i)) o2 o3 o4 o5 o6 o7 o8 o9 o10 o11, hp⟩) rfl e1).trans e2⟩
end
theorem cell_at (ns : List Int) (hp : List Cell) : ∃ i : Int, F__law_cell_at [.scr ns, .int 0] hp = .ok (.int i) hp := by
  cases ns with
  | nil => exact ⟨0, by kernel_rfl⟩
  | cons i r =>
    refine ⟨i, ?_⟩
    simp [F__law_cell_at, m__law_cell_at, posF, bodyF, starF, sSeq, sIf, sSet, sRet, sNx, sAsg, sExpr, sForI, sPut, fPut, putFM, Ma.gSub, gSet, fSetL, fSetD, fSetI, dictL, dictOf, oIxD, m2, mv, mc, mB, isB, mNot, mAnd, mOr, mAndV, mNotV, mCons, mNil, mCall, mFn, upF, mLst, mTup, mFld, oFld, fldM, cInt, cLenD, cLen, cMax, oIx, seqL, lstOf, itemsOf, oInt, oGt, oLt, oAdd, oSub, oMul, oDivW, oMod, yes, Res.bind, atI, ixN, mYes, mAt, oPrp, isIns, noErr, mItems, iSeq, mChain, mNeg, oInD, oEqK, oEqD, datT, dat, datL, big, upP, pBl, pNot, pNat, pTru, cDun, oDunR, oDunC, oDunN, oDun, tin, tyAt, oDunBs, oDunRf, oMulL, cMin, oInL, oIsN, Ma.isNon, gUnpN, gTupN, setM]
theorem it0_at {ns : List Int} (hl : ns.length ≤ 63) {hp : List Cell} : ∃ is : List Int, IT0 ⟨env0 ns none none none none none none none none none none none, hp⟩ = .ok (is.map M.int) ⟨env0 ns none none none none none none none none none none none, hp⟩ := by
  obtain ⟨q, e0⟩ := cell_at ns hp
  have ec : cutM (ns.map M.int) (some 1) (some 3) = ((ns.drop (HT.sIx (ns.map M.int).length 0 (some 1))).take (HT.sIx (ns.map M.int).length (ns.map M.int).length (some 3) - HT.sIx (ns.map M.int).length 0 (some 1))).map M.int := by
    unfold cutM; rw [List.map_take, List.map_drop]
  refine ⟨q :: ((ns.drop (HT.sIx (ns.map M.int).length 0 (some 1))).take (HT.sIx (ns.map M.int).length (ns.map M.int).length (some 3) - HT.sIx (ns.map M.int).length 0 (some 1))), ?_⟩
  have eA : mLst (mCons (mFn (mCons (mv 0) (mCons (mc (.int 0)) mNil)) F__law_cell_at) mNil) ⟨env0 ns none none none none none none none none none none none, hp⟩ = .ok (.lst [.int q]) ⟨env0 ns none none none none none none none none none none none, hp⟩ := by
    simp [mLst, mFn, mCons, mNil, mv, mc, Res.bind, upF, e0, big]
  have eB : mSl (mv 0) (oSome (mc (.int 1))) (oSome (mc (.int 3))) ⟨env0 ns none none none none none none none none none none none, hp⟩ = .ok (.lst (cutM (ns.map M.int) (some 1) (some 3))) ⟨env0 ns none none none none none none none none none none none, hp⟩ := rfl
  have eC : oAdd (.lst [.int q]) (.lst (cutM (ns.map M.int) (some 1) (some 3))) ⟨env0 ns none none none none none none none none none none none, hp⟩ = .ok (.lst ([.int q] ++ cutM (ns.map M.int) (some 1) (some 3))) ⟨env0 ns none none none none none none none none none none none, hp⟩ := by
    refine if_pos ?_
    rw [ec]
    simp only [List.length_cons, List.length_nil, List.length_map, List.length_take, List.length_drop, big]; omega
  unfold IT0 iSeq
  rw [m2_of eA eB eC, ec]
  rfl
theorem law_pure {ns : List Int} (hl : ns.length ≤ 63) : ∃ hp, F_law [.scr ns] [] = .ok (.bl true) hp := by
  obtain ⟨is, ei⟩ := it0_at hl (hp := [])
  obtain ⟨p1, p2, p3, p4, p5, p6, p7, p8, p9, p10, p11, hp, ef⟩ := cells_at (ns := ns) is (hp := []) (o1 := none) (o2 := none) (o3 := none) (o4 := none) (o5 := none) (o6 := none) (o7 := none) (o8 := none) (o9 := none) (o10 := none) (o11 := none)
  have e4 : m_law ⟨env0 ns none none none none none none none none none none none, []⟩ = .ok (.rt (.bl true)) ⟨env0 ns p1 p2 p3 p4 p5 p6 p7 p8 p9 p10 p11, hp⟩ := by
    rw [law_eq]
    exact (seq_nx (for_of ei ef)).trans (ret_of rfl)
  have e6 : bodyF 1 12 m_law [.scr ns] [] = .ok (.bl true) hp := by
    unfold bodyF
    rw [show m_law ⟨[M.scr ns].map some ++ List.replicate (12 - 1) none, []⟩ = _ from e4]
  exact ⟨hp, (show F_law [.scr ns] [] = bodyF 1 12 m_law [.scr ns] [] from rfl).trans e6⟩
end Lw
open PySem.W PySem PySem.Calls PyProof.Rows
theorem PySem.Challenge.cw_rowclash_k74_clashes_of_two_keys_holds : PySem.Challenge.rw_rowclash_k74_clashes_of_two_keys.Holds := by
  w_on; o_law
  refine HandSHeadRun.head_any (r := Lw.R) (q := view Lw.R.prog [48]) (H := Lw.hk) (ob := Lw.ob) (M := 15000) (loose := Lw.loose) (d := HandSHeadRun.topDef Lw.R.prog 48) (kwd := []) Lw.ob_eq
    (by kernel_rfl) (fun s => by kernel_rfl) Lw.run (by kernel_rfl) (by kernel_rfl) (by kernel_rfl) (by rfl) (by first | assumption | decide +kernel) (by decide +kernel) ⟨rfl, rfl, rfl, rfl, rfl, by decide +kernel⟩ ?hw ?hc
  case hw => w_witness2
  case hc =>
    refine Ma.walkT (l := PySem.Challenge.rw_rowclash_k74_clashes_of_two_keys) (n := 63) (k := 8) rfl (by decide) (by kernel_rfl) ⟨rfl, by decide, by decide⟩ ?F
    intro w mg fa h Y G hmg0
    obtain ⟨K, KX, c, t⟩ := Y
    have hmg : mg ("law" : PySem.Str) = some (.ref fa) := by
      have e : (HandSHeadRun.topDef Lw.R.prog 48).name = ("law" : PySem.Str) := by kernel_rfl
      rw [← e]
      exact hmg0
    refine ⟨Lw.TT K, Lw.tbs K, Lw.F_law, KX, t.at_, t.no, fun p hp => PySem.W.codeHd_of_K KX (t.hd p hp), rfl, t.nd, fun ns hl => Lw.law_pure hl, fun base hb gb TB => ?_⟩
    obtain ⟨f, fp, hm, kp⟩ := (Lw.law_kn (w := w) (base := base) KX G c t TB).ex
    rw [hmg] at hm
    cases hm
    exact fp
#print axioms PySem.Challenge.cw_rowclash_k74_clashes_of_two_keys_holds
